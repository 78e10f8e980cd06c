package tests

import (
	"strings"
	"testing"

	"loop.example/g00045/impl"
)

func TestLimitsOfChapter11(t *testing.T) {
	if impl.MaxListeners != 40 || impl.MaxActs != 300 {
		t.Errorf("limits %d, %d", impl.MaxListeners, impl.MaxActs)
	}
	if impl.BsListen != 1 || impl.BsLeave != 2 || impl.BsSend != 3 || impl.BsBreak != 4 || impl.BsMend != 5 || impl.BsPump != 6 {
		t.Error("kinds of acts")
	}
}

func checkMatch(t *testing.T, pattern, topic string, want bool) {
	t.Helper()
	if got := impl.Match(pattern, topic); got != want {
		t.Errorf("Match of %q and %q: %t", clipped(pattern), clipped(topic), got)
	}
	if wantMatch(pattern, topic) != want {
		t.Errorf("Match of %q and %q: the second telling is not %t", clipped(pattern), clipped(topic), want)
	}
}

// fiveTopics: of each number of parts one.
var fiveTopics = []string{"a", "a.b", "a.b.c", "a.b.c.d", "a.b.c.d.e"}

func TestMatch(t *testing.T) {
	for pattern, topics := range map[string]string{
		"a":         "a",
		"a.b":       "a.b",
		"a.b.c.d.e": "a.b.c.d.e",
		"b":         "",
		"b.a":       "",
		"a.c":       "",
		"a.b.c.e":   "",
		"*":         "a",
		"*.*":       "a.b",
		"*.*.*.*.*": "a.b.c.d.e",
		"*.b":       "a.b",
		"a.*":       "a.b",
		"b.*":       "",
		"*.a":       "",
		"*.b.c":     "a.b.c",
		"a.*.c":     "a.b.c",
		"a.b.*":     "a.b.c",
		"a.*.*":     "a.b.c",
		"*.b.*":     "a.b.c",
		"a.*.b":     "",
		"*.b.c.d.e": "a.b.c.d.e",
		"a.*.c.d.e": "a.b.c.d.e",
		"a.b.*.d.e": "a.b.c.d.e",
		"a.b.c.*.e": "a.b.c.d.e",
		"a.b.c.d.*": "a.b.c.d.e",
		"a.b.c.*.d": "",
		"#":         "a a.b a.b.c a.b.c.d a.b.c.d.e",
		"a.#":       "a a.b a.b.c a.b.c.d a.b.c.d.e",
		"b.#":       "",
		"a.b.#":     "a.b a.b.c a.b.c.d a.b.c.d.e",
		"a.c.#":     "",
		"a.b.c.#":   "a.b.c a.b.c.d a.b.c.d.e",
		"a.b.c.d.#": "a.b.c.d a.b.c.d.e",
		"*.#":       "a a.b a.b.c a.b.c.d a.b.c.d.e",
		"*.*.#":     "a.b a.b.c a.b.c.d a.b.c.d.e",
		"*.b.#":     "a.b a.b.c a.b.c.d a.b.c.d.e",
		"a.*.c.#":   "a.b.c a.b.c.d a.b.c.d.e",
		"*.*.*.*.#": "a.b.c.d a.b.c.d.e",
		"*.*.*.d.#": "a.b.c.d a.b.c.d.e",
		"A":         "",
		"A.#":       "",
		"aa":        "",
		"a.bb":      "",
	} {
		right := strings.Fields(topics)
		for _, topic := range fiveTopics {
			isRight := false
			for _, other := range right {
				isRight = isRight || other == topic
			}
			checkMatch(t, pattern, topic, isRight)
		}
	}
}

// Parts are held against each other whole, byte by byte.
func TestMatchOfNames(t *testing.T) {
	long, wide := strings.Repeat("n", 40), strings.Repeat("é", 20)
	for _, name := range rightNames {
		for _, other := range rightNames {
			checkMatch(t, name, other, name == other)
			checkMatch(t, name+".*", other+".x", name == other)
			checkMatch(t, "x."+name+".#", "x."+other, name == other)
		}
		checkMatch(t, "*", name, true)
		checkMatch(t, "#", name, true)
	}
	checkMatch(t, strings.Join(repeated(5, long), "."), strings.Join(repeated(5, long), "."), true)
	checkMatch(t, strings.Join(repeated(5, wide), "."), strings.Join(repeated(5, wide), "."), true)
	checkMatch(t, "*.*.*.*.*", strings.Join(repeated(5, long), "."), true)
	checkMatch(t, "a.bc", "a.b", false)
	checkMatch(t, "a.b", "a.bc", false)
	checkMatch(t, "ab.c", "a.bc", false)
	checkMatch(t, "é", "e", false)
	checkMatch(t, "a", "а", false)
}

// notPatterns: texts that are neither patterns nor topics.
func notPatterns() []string {
	long := strings.Repeat("n", 41)
	out := []string{"", ".", "..", ".a", "a.", "a..b", "..a", "a.b.", "a.b..c", ".*", "*.", "*..*", ".#", "#.", "*..#", "**", "a.**", "**.a", "***", "##", "a.##", "#*", "*#", "a.*#", "*a", "a*", "a.b*", "*.*b", "#a", "a#", "a.b#",
		"#.a", "#.*", "#.#", "a.#.b", "*.#.*", "a.#.#", "a.#.*", "#.a.b.c.d", "a.b.c.#.e", "a.b.c.d.e.f", "*.*.*.*.*.*", "*.*.*.*.*.#", "a.b.c.d.e.#", "a.b.c.d.e.*", "a.b.c.d.#.e", "a.b.c.d.e.", ".a.b.c.d.e", "a.b.c.d.e.f.g.h.#",
		" *", "* ", "a. *", "#\n", " #", "a b", "a,b", "a/b", "a.1", "1.a", "~", "?", "+", "a.\x00", "a.\xff", "\xff.*", "a.€", "＊", "♯", "a。b", "when", "a.when", "when.*", "*.set.#", "init.#",
		long, "a." + long, long + ".*", "*." + long + ".#", "a.b.c.d." + long, strings.Repeat("*", 40), strings.Repeat("*", 41), strings.Repeat("é", 20) + "a"}
	for _, text := range notNames() {
		if text != "a.b" {
			out = append(out, text, "a."+text, text+".*", "*."+text+".#")
		}
	}
	return out
}

func TestMatchOfWhatIsNoPattern(t *testing.T) {
	for _, text := range notPatterns() {
		for _, topic := range append([]string{text}, fiveTopics...) {
			checkMatch(t, text, topic, false)
		}
		for _, pattern := range []string{"#", "*", "*.*", "a.#", "*.*.*.*.*", "*.*.*.*.#", "*.#"} {
			checkMatch(t, pattern, text, false)
		}
	}
}

// A pattern is no topic, but for one that has names alone.
func TestMatchOfWhatIsNoTopic(t *testing.T) {
	for _, topic := range []string{"*", "#", "a.*", "*.a", "a.#", "*.*", "*.#", "a.*.b", "a.b.c.d.*", "a.b.c.d.#", "*.*.*.*.*"} {
		if !isOnePattern(topic) {
			t.Errorf("%s is a pattern", topic)
		}
		for _, pattern := range []string{topic, "#", "*", "*.*", "*.#", "a.*", "a.#", "a.b.c.d.#"} {
			checkMatch(t, pattern, topic, false)
		}
	}
}

// Texts of MaxText bytes and of one more.
func TestMatchOfLongTexts(t *testing.T) {
	for _, size := range []int{impl.MaxText - 1, impl.MaxText, impl.MaxText + 1, millions} {
		for _, unit := range []string{"n", "*", "#", ".", "a.", "*.", "#.", "é", "\x00"} {
			text := strings.Repeat(unit, size/len(unit)+1)[:size]
			checkMatch(t, text, "a", false)
			checkMatch(t, "#", text, false)
			checkMatch(t, "*", text, false)
			checkMatch(t, text, text, false)
			checkMatch(t, "a."+text[2:], "a."+text[2:], false)
			checkMatch(t, "a.#", "a."+text[2:], false)
		}
	}
}

// rowsOf: all texts of at most so many parts.
func rowsOf(parts []string, most int) []string {
	out, row := []string(nil), []string{""}
	for size := range most {
		var next []string
		for _, text := range row {
			for _, part := range parts {
				if size > 0 {
					next = append(next, text+"."+part)
				} else {
					next = append(next, part)
				}
			}
		}
		out, row = append(out, next...), next
	}
	return out
}

func TestMatchOfAllPatterns(t *testing.T) {
	topics := rowsOf([]string{"a", "b"}, 6)
	matches := 0
	for _, pattern := range rowsOf([]string{"a", "b", "*", "#"}, 6) {
		for _, topic := range topics {
			want := wantMatch(pattern, topic)
			if impl.Match(pattern, topic) != want {
				t.Fatalf("Match of %s and %s is not %t", pattern, topic, want)
			}
			if want {
				matches++
			}
		}
	}
	if matches < 2000 {
		t.Errorf("%d matches", matches)
	}
}

// Patterns and topics of any make, right or not.
func TestMatchOfAnyMake(t *testing.T) {
	s := newSource()
	pieces := []string{"a", "b", "é", ".", ".", ".", "*", "*", "#", "1", "when", " ", "\xff", "nn", strings.Repeat("n", 40)}
	matches, misses := 0, 0
	for i := range 60000 {
		topic := anyTopic(s)
		pattern := anyPattern(s, topic)
		switch i % 6 {
		case 0:
			pattern = s.joined(pieces, 9)
		case 1:
			topic = s.joined(pieces, 9)
		case 2:
			topic = anyTopic(s)
		}
		want := wantMatch(pattern, topic)
		if impl.Match(pattern, topic) != want {
			t.Fatalf("Match of %q and %q is not %t", pattern, topic, want)
		}
		if want {
			matches++
		} else if isOnePattern(pattern) && isOnePath(topic) {
			misses++
		}
	}
	if matches < 10000 || misses < 5000 {
		t.Errorf("%d matches, %d misses", matches, misses)
	}
}

// P1: Match answers the same whatever was asked ahead.
func TestMatchAgain(t *testing.T) {
	s := newSource()
	type asked struct {
		pattern, topic string
		want           bool
	}
	var all []asked
	for range 2000 {
		topic := anyTopic(s)
		pattern := anyPattern(s, anyTopic(s))
		all = append(all, asked{pattern, topic, impl.Match(pattern, topic)})
	}
	s.Shuffle(len(all), func(i, k int) { all[i], all[k] = all[k], all[i] })
	for _, a := range all {
		if impl.Match(a.pattern, a.topic) != a.want {
			t.Fatalf("Match of %s and %s was %t", a.pattern, a.topic, a.want)
		}
	}
}
