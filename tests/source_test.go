package tests

import "math/rand/v2"

// source gives the same row of texts in each run of the tests.
type source struct{ *rand.Rand }

func newSource() source { return source{rand.New(rand.NewPCG(45, 1))} }

func pick[T any](s source, from []T) T { return from[s.IntN(len(from))] }

func (s source) bytes(most int) string {
	out := make([]byte, s.IntN(most+1))
	for i := range out {
		out[i] = byte(s.IntN(256))
		if s.IntN(2) == 0 {
			out[i] = pick(s, []byte{'A', 0xd0, 0x90, 0xc3, 0x80, 0xce, 0x91, 0xe2, 0x82, 0xac, '"', '\\', 'n', 'x', '0', 'f', 10})
		}
	}
	return string(out)
}

func (s source) joined(parts []string, most int) string {
	out := ""
	for range s.IntN(most + 1) {
		out += pick(s, parts)
	}
	return out
}
