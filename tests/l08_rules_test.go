package tests

import (
	"slices"
	"strconv"
	"strings"
	"testing"

	"loop.example/g00045/impl"
)

// checkRuleCodes: each call of chapter 9 that is handed these rules answers that code alone.
func checkRuleCodes(t *testing.T, what string, rules []impl.Rule, want int) {
	t.Helper()
	layers := []impl.Layer{{Name: "base"}}
	if list, code := impl.Validate(rules, layers); code != want || code != impl.OK && len(list) > 0 {
		t.Errorf("%s: Validate %d, not %d", what, code, want)
	}
	got := lookup(rules, layers, "nope")
	if want == impl.OK && got.code != impl.ErrNone || want != impl.OK && got != (lookedUp{code: want}) {
		t.Errorf("%s: Lookup %s, not %d", what, toldLookup(got), want)
	}
	if want == impl.OK {
		return
	}
	for _, next := range []impl.Layer{{}, {Name: "next"}, {Name: "base"}} {
		if list, code := impl.Rollout(rules, layers, next, []string{"a"}, []int{50}, nil); code != want || len(list) > 0 {
			t.Errorf("%s: Rollout %d, not %d", what, code, want)
		}
	}
}

// checkRules: whether rules are right, by the codes that hang on it.
func checkRules(t *testing.T, what string, rules []impl.Rule, right bool) {
	t.Helper()
	want := impl.ErrBad
	switch {
	case len(rules) > impl.MaxList:
		want = impl.ErrLong
	case right:
		want = impl.OK
	}
	checkRuleCodes(t, what, rules, want)
	if areSomeRules(rules) != right {
		t.Errorf("%s: the second telling is not %t", what, right)
	}
}

// checkRule: a rule by itself and among others.
func checkRule(t *testing.T, r impl.Rule, right bool) {
	t.Helper()
	others := []impl.Rule{{Path: "x1.y", Kind: impl.KdBool, Default: "no"}, {Path: "y1", Kind: impl.KdText, Max: 9, Must: true}}
	for _, rules := range [][]impl.Rule{{r}, {r, others[0], others[1]}, {others[0], r, others[1]}, {others[0], others[1], r}} {
		checkRules(t, showRule(r), rules, right)
	}
}

func manyRules(count int) []impl.Rule {
	var out []impl.Rule
	for i := range count {
		out = append(out, impl.Rule{Path: "p" + strconv.Itoa(i%7) + ".q" + strconv.Itoa(i), Kind: 1 + i%5})
	}
	return out
}

func TestRulesHowMany(t *testing.T) {
	checkRules(t, "nil", nil, true)
	checkRules(t, "empty", []impl.Rule{}, true)
	for _, count := range []int{1, 2, 99, 100, 101, 102, 4096, 4097, 10000} {
		checkRules(t, strconv.Itoa(count)+" rules", manyRules(count), count <= 100)
		checkRules(t, strconv.Itoa(count)+" rules of nothing", make([]impl.Rule, count), false)
	}
	for _, count := range []int{0, 1, 19, 20, 21, 22, 4096, 4097, millions} {
		for kind := 1; kind <= 5; kind++ {
			checkRule(t, impl.Rule{Path: "a", Kind: kind, Choices: repeated(count, "x")}, count <= 20)
		}
	}
}

func TestRulesOfPaths(t *testing.T) {
	for text, right := range map[string]bool{
		"a int | b int":                 true,
		"a int | a int":                 false,
		"a int | a text":                false,
		"a int | a.b int":               false,
		"a.b int | a int":               false,
		"a.b int | a.bc int | a.c int":  true,
		"a.bc int | a.b int":            true,
		"a.b int | b int | a.b.c.d int": false,
		"a.b.c.d.e int | b int | a int": false,
		"a.b.c.d.e int | a.b.c.d.f int": true,
		"a.a int | a.a int":             false,
		"a int | A int | aa int":        true,
		"é.a int | é int":               false,
		"é.a int | e int":               true,
		"a int | b int | c int | b int": false,
	} {
		checkRules(t, text, rulesOf(t, text), right)
		turned := rulesOf(t, text)
		slices.Reverse(turned)
		checkRules(t, text+" turned round", turned, right)
	}
	for at := range 100 {
		for _, other := range []int{0, 49, 99} {
			rules := manyRules(100)
			rules[at].Path = rules[other].Path
			checkRules(t, "one path at "+strconv.Itoa(at)+" and "+strconv.Itoa(other), rules, at == other)
			rules[at].Path = "p1"
			checkRules(t, "within another one at "+strconv.Itoa(at), rules, false)
			rules[at].Path = rules[(at+1)%100].Path + ".r"
			checkRules(t, "another one within at "+strconv.Itoa(at), rules, false)
		}
	}
}

func TestRulesOfKinds(t *testing.T) {
	for _, kind := range append([]int{-6, -5, 6, 7, 255, 256, 257, 1<<32 + 5}, anyNumbers...) {
		for _, r := range []impl.Rule{{Path: "a", Kind: kind}, {Path: "a", Kind: kind, Max: 9, Must: true, Choices: []string{"x"}}} {
			checkRule(t, r, 1 <= kind && kind <= 5)
		}
	}
	for _, number := range anyNumbers {
		for kind := 1; kind <= 5; kind++ {
			checkRule(t, impl.Rule{Path: "a", Kind: kind, Min: number}, true)
			checkRule(t, impl.Rule{Path: "a", Kind: kind, Max: number}, true)
			checkRule(t, impl.Rule{Path: "a", Kind: kind, Min: number, Max: -number, Must: true}, true)
		}
	}
}

func TestRulesOfLongTexts(t *testing.T) {
	for _, size := range []int{0, 1, 199, 200, 201, 202, 400, 65536, 65537, 10 * millions} {
		text := strings.Repeat("x", size)
		for kind := 1; kind <= 5; kind++ {
			for at := range 20 {
				choices := repeated(20, "low")
				choices[at] = text
				checkRule(t, impl.Rule{Path: "a", Kind: kind, Choices: choices}, size <= 200)
			}
		}
		checkRule(t, impl.Rule{Path: "a", Kind: impl.KdText, Max: 1 << 40, Default: text}, size <= 200)
		checkRule(t, impl.Rule{Path: "a", Kind: impl.KdChoice, Choices: []string{"y", text}, Default: text}, size <= 200)
	}
	checkRule(t, impl.Rule{Path: "a", Kind: impl.KdText, Max: 1 << 40, Default: strings.Repeat("é", 100)}, true)
	checkRule(t, impl.Rule{Path: "a", Kind: impl.KdText, Max: 1 << 40, Default: strings.Repeat("é", 101)}, false)
}

func TestRulesOfDefaults(t *testing.T) {
	for text, right := range map[string]bool{
		"a int 1..9 =5": true, "a int 1..9 =1": true, "a int 1..9 =9": true, "a int 1..9 =0": false, "a int 1..9 =10": false, "a int 1..9 =05": false, "a int 1..9 =x": false, "a int 1..9 =": true, "a int 1..9": true, "a int 9..1 =5": false, "a int 9..1": true, "a int =0": true, "a int =1": false, "a int -9..9 =-9": true,
		"a bool =yes": true, "a bool =no": true, "a bool =": true, "a bool =maybe": false, "a bool =Yes": false, "a bool =1": false, "a bool 5..9 =yes": true,
		"a text 2..3 =ab": true, "a text 2..3 =abc": true, "a text 2..3 =a": false, "a text 2..3 =abcd": false, "a text 2..3 =": true, "a text 2..3 =é": true, "a text 0..3 =": true, "a text =": true, "a text =~": false, "a text 1..1 =~": true,
		"a choice low,high =low": true, "a choice low,high =high": true, "a choice low,high =mid": false, "a choice low,high =": true, "a choice =x": false, "a choice =": true, "a choice low,high 7..9 =low": true,
		"a span 1000..60000 =1s": true, "a span 1000..60000 =1m": true, "a span 1000..60000 =60001ms": false, "a span 1000..60000 =999ms": false, "a span 1000..60000 =1000": false, "a span 1000..60000 =-1s": false, "a span 1000..60000": true, "a span 1000..60000 =": true,
	} {
		for _, r := range rulesOf(t, text) {
			checkRule(t, r, right)
			r.Must = true
			checkRule(t, r, right)
		}
	}
}

// checkFit: by which number, or by which code, a text fits a rule: as what is set, and as a default.
func checkFit(t *testing.T, r impl.Rule, text string, num, code int) {
	t.Helper()
	r.Path = "a.b"
	layers := []impl.Layer{{Name: "base", Entries: []impl.Entry{{Path: r.Path, Text: text}}}}
	faults, got := impl.Validate([]impl.Rule{r}, layers)
	isRight := got == impl.OK && len(faults) == 0
	if code != impl.OK {
		isRight = got == impl.OK && len(faults) == 1 && faults[0] == impl.Fault{Code: code, Path: "a.b", From: "base"}
	}
	if !isRight {
		t.Errorf("%s: %q: Validate %s %d", showRule(r), clipped(text), toldFaults(faults), got)
	}
	want := lookedUp{code: code}
	if code == impl.OK {
		want = lookedUp{text, num, "base", impl.OK}
	}
	if got := lookup([]impl.Rule{r}, layers, "a.b"); got != want {
		t.Errorf("%s: %q: Lookup %s, not %s", showRule(r), clipped(text), toldLookup(got), toldLookup(want))
	}
	if second, secondCode := wantFit(r, text); secondCode != code || second != num {
		t.Errorf("%s: %q: the second telling: %d %d", showRule(r), clipped(text), second, secondCode)
	}
	if text == "" {
		return
	}
	r.Default, want.from = text, ""
	if code != impl.OK {
		want = lookedUp{code: impl.ErrBad}
	}
	if got := lookup([]impl.Rule{r}, nil, "a.b"); got != want {
		t.Errorf("%s: as a default: Lookup %s, not %s", showRule(r), toldLookup(got), toldLookup(want))
	}
}

// checkNotFit: of these texts none is of the form, whatever the bounds.
func checkNotFit(t *testing.T, kind int, texts ...string) {
	t.Helper()
	for _, text := range texts {
		for _, bounds := range someBounds {
			checkFit(t, impl.Rule{Kind: kind, Min: bounds[0], Max: bounds[1], Choices: []string{"low"}}, text, 0, impl.ErrForm)
		}
	}
}

// checkBounds: a number with bounds right at it and one beyond.
func checkBounds(t *testing.T, kind int, text string, num int) {
	t.Helper()
	for _, c := range []struct{ least, most, code int }{
		{num, num, impl.OK}, {-1 << 63, 1<<63 - 1, impl.OK}, {-1 << 63, num, impl.OK}, {num, 1<<63 - 1, impl.OK}, {num - 1, num + 1, impl.OK},
		{num + 1, num + 9, impl.ErrRange}, {num - 9, num - 1, impl.ErrRange}, {num + 1, num - 1, impl.ErrRange}, {num + 1, num, impl.ErrRange}, {num, num - 1, impl.ErrRange}, {1<<63 - 1, -1 << 63, impl.ErrRange},
	} {
		want := num
		if c.code != impl.OK {
			want = 0
		}
		checkFit(t, impl.Rule{Kind: kind, Min: c.least, Max: c.most}, text, want, c.code)
	}
}

// wrongDigits: what is no number's text.
var wrongDigits = []string{"+1", "+0", "-0", "-", "+", "--1", "-+1", "00", "01", "-01", "-00", "000", "0x1", "1_0", "1e3", "1.0", "1,0", " 1", "1 ", "1\n", "- 1", "1-", "1a", "a1", "x", "yes", "٣", "１", "\xff", "1\xff", "1\x00", "0-1", "~~",
	"1000000000000000000", "-1000000000000000000", "0999999999999999999", "9223372036854775807", "-9223372036854775808", "9999999999999999999", "18446744073709551616", strings.Repeat("9", 198), strings.Repeat("0", 19)}

func TestFitOfInts(t *testing.T) {
	for text, num := range map[string]int{"0": 0, "1": 1, "-1": -1, "9": 9, "10": 10, "-10": -10, "80": 80, "100": 100, "123456789012345678": 123456789012345678, "-123456789012345678": -123456789012345678,
		"999999999999999999": 999999999999999999, "-999999999999999999": -999999999999999999, "100000000000000000": 100000000000000000, "2147483648": 1 << 31, "-4294967297": -1<<32 - 1} {
		checkBounds(t, impl.KdInt, text, num)
	}
	checkNotFit(t, impl.KdInt, "")
	checkNotFit(t, impl.KdInt, wrongDigits...)
	checkNotFit(t, impl.KdInt, "1s", "5ms", "no", "low", strings.Repeat("1", 200))
}

func TestFitOfBools(t *testing.T) {
	for _, bounds := range someBounds {
		r := impl.Rule{Kind: impl.KdBool, Min: bounds[0], Max: bounds[1], Choices: []string{"no", "yes", "maybe"}}
		checkFit(t, r, "yes", 1, impl.OK)
		checkFit(t, r, "no", 0, impl.OK)
		checkFit(t, r, "maybe", 0, impl.ErrForm)
	}
	checkNotFit(t, impl.KdBool, "", "Yes", "NO", "y", "n", "yes ", " no", "true", "1", "0", "yesno", "ye", "low", "yes\x00")
}

func TestFitOfTexts(t *testing.T) {
	for _, text := range []string{"", "x", "ab", "é", "\xff\xff\xff", "~~", "yes", "1234", "\x00", " ", strings.Repeat("x", 199), strings.Repeat("x", 200), strings.Repeat("é", 100)} {
		checkBounds(t, impl.KdText, text, len(text))
	}
}

func TestFitOfChoices(t *testing.T) {
	twice := []string{"low", "high", "low", "", "5", "high", "~~", "yes"}
	for _, bounds := range someBounds {
		r := impl.Rule{Kind: impl.KdChoice, Min: bounds[0], Max: bounds[1], Choices: twice}
		for text, num := range map[string]int{"low": 0, "high": 1, "": 3, "5": 4, "~~": 6, "yes": 7} {
			checkFit(t, r, text, num, impl.OK)
		}
		for _, text := range []string{"lo", "lows", "LOW", " low", "no", "05", "low,high"} {
			checkFit(t, r, text, 0, impl.ErrForm)
		}
	}
	var many []string
	for i := range 20 {
		many = append(many, strings.Repeat("x", 181+i))
	}
	for i, text := range many {
		checkFit(t, impl.Rule{Kind: impl.KdChoice, Choices: many}, text, i, impl.OK)
	}
	checkFit(t, impl.Rule{Kind: impl.KdChoice}, "", 0, impl.ErrForm)
	checkFit(t, impl.Rule{Kind: impl.KdChoice}, "x", 0, impl.ErrForm)
	checkFit(t, impl.Rule{Kind: impl.KdChoice, Choices: repeated(20, "x")}, "x", 0, impl.OK)
}

// A choice of one mark can be a default, and cannot be set.
func TestFitOfAChoiceThatErases(t *testing.T) {
	rules := []impl.Rule{{Path: "a", Kind: impl.KdChoice, Choices: []string{"low", "~"}, Default: "~"}}
	for _, text := range []string{"", "base a=~", "base a=low | top^1 a=~"} {
		if got := lookup(rules, layersOf(t, text), "a"); got != (lookedUp{"~", 1, "", impl.OK}) {
			t.Errorf("%s: %s", text, toldLookup(got))
		}
	}
}

func TestFitOfSpans(t *testing.T) {
	for text, num := range map[string]int{"0ms": 0, "0s": 0, "0m": 0, "0h": 0, "1ms": 1, "1s": 1000, "1m": 60000, "1h": 3600000, "90s": 90000, "24h": 86400000, "1000ms": 1000, "123456789ms": 123456789, "10m": 600000,
		"999999999999999999ms": 999999999999999999, "999999999999999s": 999999999999999000, "16666666666666m": 999999999999960000, "277777777777h": 999999999997200000} {
		checkBounds(t, impl.KdSpan, text, num)
	}
	checkNotFit(t, impl.KdSpan, "1000000000000000s", "16666666666667m", "277777777778h", "999999999999999999s", "999999999999999999m", "999999999999999999h", "1000000000000000000ms", "9223372036854775808ms", "307445734561825861m", "5124095576030431h", "2562047788016h", "153722867280913m", "9223372036854776s", "18446744073709552s")
	checkNotFit(t, impl.KdSpan, "", "5", "0", "ms", "s", "m", "h", "-1s", "-0s", "+1s", "5 s", "5S", "5MS", "5Ms", "5sec", "5d", "5ns", "5us", "5ss", "5sm", "5ms ", " 5ms", "5mss", "5m5s", "1h30m", "1.5s", "1e3s", "05s", "00s", "5s\n", "5\x00s", "s5", "٣s", "5µs", "yes", "low", "5m\xff", "--5s")
	for _, text := range wrongDigits {
		checkNotFit(t, impl.KdSpan, text, text+"ms", text+"s", text+"m", text+"h")
	}
}

// Numbers of any make, as ints and as spans.
func TestFitOfAnyNumbers(t *testing.T) {
	s := newSource()
	var codes [20]int
	for range 20000 {
		text := s.joined([]string{"", "", "-", "0", "1", "9", "99999999", "123"}, 5) + pick(s, []string{"", "ms", "s", "m", "h"})
		bounds := pick(s, someBounds)
		r := impl.Rule{Kind: pick(s, []int{impl.KdInt, impl.KdSpan}), Min: bounds[0], Max: bounds[1]}
		num, code := wantFit(r, text)
		checkFit(t, r, text, num, code)
		codes[code]++
	}
	if min(codes[impl.OK], codes[impl.ErrForm], codes[impl.ErrRange]) < 500 {
		t.Errorf("%v", codes)
	}
}
