package tests

import (
	"slices"
	"strings"
	"testing"

	"loop.example/g00045/impl"
)

func TestKitConstants(t *testing.T) {
	kinds := []int{impl.KtSpin, impl.KtTicket, impl.KtTwo, impl.KtOnce, impl.KtSequence, impl.KtPermits, impl.KtBarrier, impl.KtStack, impl.KtRing, impl.KtShared}
	if !slices.Equal(kinds, []int{1, 2, 3, 4, 5, 6, 7, 8, 9, 10}) {
		t.Errorf("%v", kinds)
	}
}

func checkKitText(t *testing.T, kind, threads, broken int, want string) {
	t.Helper()
	if text, code := impl.KitText(kind, threads, broken); text != want || code != impl.OK {
		t.Errorf("%d %d %d: %s\n%s\nnot\n%s", kind, threads, broken, impl.CodeWord(code), text, want)
	}
}

func checkKitCode(t *testing.T, kind, threads, broken, want int) {
	t.Helper()
	if text, code := impl.KitText(kind, threads, broken); text != "" || code != want {
		t.Errorf("KitText %d %d %d: %s %q, not %s", kind, threads, broken, impl.CodeWord(code), text, impl.CodeWord(want))
	}
	for _, most := range []int{impl.MaxStates, 1, 0, -1, impl.MaxStates + 1} {
		if v, code := impl.Judge(kind, threads, broken, most); !isNoVerdict(v) || code != want {
			t.Errorf("Judge %d %d %d %d: %s %+v, not %s", kind, threads, broken, most, impl.CodeWord(code), v, impl.CodeWord(want))
		}
	}
}

// checkRightCode: a KitRight that has a code is false, of whatever end.
func checkRightCode(t *testing.T, kind, threads, want int) {
	t.Helper()
	for _, e := range []impl.End{{}, rightEnd(impl.KtSpin, 2), rightEnd(impl.KtStack, 2), {Bad: true}} {
		if isRight, code := impl.KitRight(kind, threads, e); isRight || code != want {
			t.Errorf("KitRight %d %d: %t %s, not %s", kind, threads, isRight, impl.CodeWord(code), impl.CodeWord(want))
		}
	}
}

// Word by word: each kind with each number of threads, right and in each broken form.
func TestKitTexts(t *testing.T) {
	forms := allForms()
	if len(forms) != 64 {
		t.Fatalf("%d forms", len(forms))
	}
	seen := map[string]kitForm{}
	for _, f := range forms {
		want, _ := wantKitText(f.kind, f.threads, f.broken)
		checkKitText(t, f.kind, f.threads, f.broken, want)
		if other, isThere := seen[want]; isThere {
			t.Errorf("%+v and %+v have one text", f, other)
		}
		seen[want] = f
	}
}

// Some of them as a whole, so that the second telling is held against something, too.
func TestKitTextsByHand(t *testing.T) {
	checkKitText(t, impl.KtSequence, 3, 2, `cells 0 0 0
thread
  store c0 1 relaxed
  store c1 5 release
  store c2 5 release
  store c0 2 release
thread
  load r1 c0 acquire
  load r2 c1 relaxed
  load r3 c2 relaxed
  load r4 c0 relaxed
  jump r1 != r4 7
  jump r1 == 1 7
  assert r2 == r3
thread
  load r1 c0 acquire
  load r2 c1 relaxed
  load r3 c2 relaxed
  load r4 c0 relaxed
  jump r1 != r4 7
  jump r1 == 1 7
  assert r2 == r3
`)
	checkKitText(t, impl.KtBarrier, 2, 1, `cells 0 0 0 0 0
thread
  store c2 1 relaxed
  add r1 c0 1 relaxed
  jump r1 != 1 4
  store c1 1 release
  await r2 c1 == 1 acquire
  load r3 c2 relaxed
  assert r3 == 1
  load r3 c3 relaxed
  assert r3 == 1
thread
  store c3 1 relaxed
  add r1 c0 1 relaxed
  jump r1 != 1 4
  store c1 1 release
  await r2 c1 == 1 acquire
  load r3 c2 relaxed
  assert r3 == 1
  load r3 c3 relaxed
  assert r3 == 1
`)
	checkKitText(t, impl.KtSpin, 1, 3, `cells 0 0
thread
  await r1 c0 == 0 relaxed
  cas r1 c0 0 1 acquire
  jump r1 == 0 0
  load r2 c1 relaxed
  sum r2 1
  store c1 r2 relaxed
`)
}

// Each text is read, and is what is written of the program that was read.
func TestKitTextsAreRead(t *testing.T) {
	for _, f := range allForms() {
		text, _ := impl.KitText(f.kind, f.threads, f.broken)
		p := f.prog(t)
		again, code := impl.ProgText(p)
		if again != text || code != impl.OK || !impl.ProgOK(p) || len(p.Threads) != f.threads {
			t.Errorf("%+v: %s\n%s\nis written\n%s", f, impl.CodeWord(code), text, again)
		}
		if told, code := wantProgText(p); told != text || code != impl.OK {
			t.Errorf("%+v: the second telling writes\n%s", f, told)
		}
		if len(p.Init) != len(strings.Fields(kitCells[f.kind])) {
			t.Errorf("%+v: %d cells", f, len(p.Init))
		}
	}
}

// kitNumbers: of kinds, threads and broken forms, just beyond their bounds and far from them.
var kitNumbers = slices.Concat(anyNumbers, []int{7, 8, 9, 10, 11, 12, 20, 256, 257, 258, 1 << 31, 1<<31 + 1, 1<<32 + 3, 1<<32 + 10, -256, -255, -10})

func TestKitOfNumbersOfAnyMake(t *testing.T) {
	counts := map[int]int{}
	for _, kind := range kitNumbers {
		for _, threads := range kitNumbers {
			for _, broken := range kitNumbers {
				code := kitCode(kind, threads, broken)
				counts[code]++
				if code != impl.OK {
					checkKitCode(t, kind, threads, broken, code)
					continue
				}
				want, _ := wantKitText(kind, threads, broken)
				checkKitText(t, kind, threads, broken, want)
			}
			if code := kitCode(kind, threads, 0); code != impl.OK {
				checkRightCode(t, kind, threads, code)
			}
		}
	}
	if counts[impl.OK] != 64 || counts[impl.ErrNone] < 500 || counts[impl.ErrRange] < 10000 || counts[impl.ErrKind] < 10000 {
		t.Errorf("%v", counts)
	}
}

// The kind is looked at ahead of the threads, those ahead of the broken form, and all of them ahead of most.
func TestKitCodes(t *testing.T) {
	for _, c := range []struct{ kind, threads, broken, code int }{
		{0, 2, 0, impl.ErrKind}, {11, 2, 0, impl.ErrKind}, {-1, 2, 0, impl.ErrKind}, {0, 0, -1, impl.ErrKind}, {11, 9, 9, impl.ErrKind}, {-1 << 63, 1<<63 - 1, -1 << 63, impl.ErrKind},
		{1, 0, 0, impl.ErrRange}, {1, 4, 0, impl.ErrRange}, {2, 0, 0, impl.ErrRange}, {2, 4, 0, impl.ErrRange}, {3, 1, 0, impl.ErrRange}, {3, 3, 0, impl.ErrRange},
		{4, 0, 0, impl.ErrRange}, {4, 4, 0, impl.ErrRange}, {5, 1, 0, impl.ErrRange}, {5, 4, 0, impl.ErrRange}, {6, 1, 0, impl.ErrRange}, {6, 3, 0, impl.ErrRange},
		{7, 1, 0, impl.ErrRange}, {7, 4, 0, impl.ErrRange}, {8, 1, 0, impl.ErrRange}, {8, 3, 0, impl.ErrRange}, {9, 1, 0, impl.ErrRange}, {9, 3, 0, impl.ErrRange},
		{10, 1, 0, impl.ErrRange}, {10, 4, 0, impl.ErrRange}, {1, -1, -1, impl.ErrRange}, {8, 4, 7, impl.ErrRange}, {7, -1 << 63, 0, impl.ErrRange}, {7, 1<<63 - 1, 0, impl.ErrRange},
		{1, 1, 4, impl.ErrNone}, {2, 2, 3, impl.ErrNone}, {3, 2, 3, impl.ErrNone}, {4, 3, 4, impl.ErrNone}, {5, 3, 3, impl.ErrNone},
		{6, 2, 2, impl.ErrNone}, {6, 2, 3, impl.ErrNone}, {7, 2, 3, impl.ErrNone}, {8, 2, 3, impl.ErrNone}, {9, 2, 3, impl.ErrNone}, {10, 2, 4, impl.ErrNone},
		{1, 1, -1, impl.ErrNone}, {10, 3, -1, impl.ErrNone}, {6, 2, -1 << 63, impl.ErrNone}, {6, 2, 1<<63 - 1, impl.ErrNone}, {6, 2, 1<<32 + 1, impl.ErrNone},
	} {
		checkKitCode(t, c.kind, c.threads, c.broken, c.code)
		if c.code != impl.ErrNone {
			checkRightCode(t, c.kind, c.threads, c.code)
		}
	}
}
