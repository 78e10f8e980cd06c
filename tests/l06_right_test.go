package tests

import (
	"slices"
	"strconv"
	"strings"
	"testing"

	"loop.example/g00045/impl"
)

func TestLimitsOfChapter7(t *testing.T) {
	if impl.MaxBindings != 60 || impl.MaxNeeds != 8 {
		t.Errorf("limits %d, %d", impl.MaxBindings, impl.MaxNeeds)
	}
	if impl.ScSingle != 1 || impl.ScScoped != 2 || impl.ScFresh != 3 {
		t.Errorf("scopes %d, %d, %d", impl.ScSingle, impl.ScScoped, impl.ScFresh)
	}
	if impl.WantOne != 1 || impl.WantMaybe != 2 || impl.WantAll != 3 || impl.WantLazy != 4 {
		t.Errorf("modes %d, %d, %d, %d", impl.WantOne, impl.WantMaybe, impl.WantAll, impl.WantLazy)
	}
}

// anyNumbers: of bindings, scopes, modes and ranks.
var anyNumbers = []int{-1 << 63, -1<<63 + 1, -1 << 32, -4, -3, -2, -1, 0, 1, 2, 3, 4, 5, 6, 60, 1<<32 + 1, 1<<32 + 2, 1 << 62, 1<<63 - 2, 1<<63 - 1}

// longText is as long as a text that is handed in by itself may be, tooLong a byte longer. Within a want neither is more than a text that is no name.
var longText, tooLong = strings.Repeat("n", impl.MaxText), strings.Repeat("n", impl.MaxText+1)

// checkBound: each call of chapter 7 that has a code answers that one alone, whatever is wanted.
func checkBound(t *testing.T, what string, list []impl.Binding, flags []string, want int) {
	t.Helper()
	for _, w := range []impl.Want{{}, {Key: "k", Mode: impl.WantOne}, {Key: "nope", Tag: "t", Mode: impl.WantAll}, {Key: "k", Mode: impl.WantMaybe}, {Key: "k", Tag: "t", Mode: impl.WantLazy}, {Key: "k", Mode: 5}, {Key: "1", Tag: "2", Mode: -1 << 63}, {Key: longText, Tag: longText, Mode: 1}, {Key: tooLong, Mode: impl.WantOne}, {Key: "k", Tag: tooLong, Mode: 9}} {
		if found, code := impl.Resolve(list, flags, w); code != want || len(found) > 0 {
			t.Errorf("%s: Resolve of %s: %v %d, not %d", what, showWant(w), found, code, want)
		}
	}
	for _, number := range anyNumbers {
		if found, code := impl.Wrappers(list, flags, number); code != want || len(found) > 0 {
			t.Errorf("%s: Wrappers of %d: %v %d, not %d", what, number, found, code, want)
		}
	}
	if problems, code := impl.Audit(list, flags); code != want || len(problems) > 0 {
		t.Errorf("%s: Audit %s %d, not %d", what, clipped(toldProblems(problems)), code, want)
	}
	if names, code := impl.Circle(list, flags); code != want || len(names) > 0 {
		t.Errorf("%s: Circle of %d names %d, not %d", what, len(names), code, want)
	}
}

// checkBindings: what BindingsOK answers, and the codes that hang on it.
func checkBindings(t *testing.T, what string, list []impl.Binding, right bool) {
	t.Helper()
	if impl.BindingsOK(list) != right || areSomeBindings(list) != right {
		t.Errorf("%s: BindingsOK is not %t", what, right)
	}
	if !right {
		code := impl.ErrBad
		if len(list) > impl.MaxList {
			code = impl.ErrLong
		}
		checkBound(t, what, list, nil, code)
		checkBound(t, what, list, []string{"f", "!", "", "f"}, code)
		return
	}
	if _, code := impl.Resolve(list, nil, impl.Want{Key: "k", Mode: impl.WantAll}); code != impl.OK {
		t.Errorf("%s: Resolve %d", what, code)
	}
	if _, code := impl.Wrappers(list, nil, len(list)); code != impl.ErrNone {
		t.Errorf("%s: Wrappers %d", what, code)
	}
	if _, code := impl.Audit(list, nil); code != impl.OK {
		t.Errorf("%s: Audit %d", what, code)
	}
	if _, code := impl.Circle(list, nil); code != impl.OK && code != impl.ErrNone {
		t.Errorf("%s: Circle %d", what, code)
	}
}

func manyBindings(count int) []impl.Binding {
	var out []impl.Binding
	for i := range count {
		out = append(out, impl.Binding{Name: "n" + strconv.Itoa(i), Key: "k", Scope: 1 + i%3})
	}
	return out
}

func manyWants(count int) []impl.Want {
	var out []impl.Want
	for i := range count {
		out = append(out, impl.Want{Key: "k" + strconv.Itoa(i/3), Mode: 1 + i%4})
	}
	return out
}

func TestBindingsOKHowMany(t *testing.T) {
	checkBindings(t, "nil", nil, true)
	checkBindings(t, "empty", []impl.Binding{}, true)
	for _, count := range []int{1, 2, 59, 60, 61, 62, 4096, 4097, 10000} {
		checkBindings(t, strconv.Itoa(count)+" bindings", manyBindings(count), count <= 60)
	}
	checkBindings(t, "one of nothing", make([]impl.Binding, 1), false)
	checkBindings(t, "a million of nothing", make([]impl.Binding, 1000000), false)
	for _, count := range []int{0, 1, 7, 8, 9, 10, 4096, 4097, 1 << 20} {
		b := impl.Binding{Name: "a", Key: "k", Scope: 1, Needs: manyWants(count)}
		for _, list := range someBindings(b) {
			checkBindings(t, strconv.Itoa(count)+" needs", list, count <= 8)
		}
	}
	full := manyBindings(60)
	for i := range full {
		full[i].Needs = manyWants(8)
	}
	checkBindings(t, "all needs of all bindings", full, true)
	full[59].Needs = append(full[59].Needs, full[59].Needs[0])
	checkBindings(t, "one need more of the last one", full, false)
}

// someBindings puts a binding at each place among others.
func someBindings(b impl.Binding) [][]impl.Binding {
	others := []impl.Binding{{Name: "x", Key: "k", Scope: 1}, {Name: "y", Key: "k", Tag: "t", Scope: 2, Needs: []impl.Want{{Key: "k", Mode: impl.WantOne}}}}
	return [][]impl.Binding{{b}, {b, others[0], others[1]}, {others[0], b, others[1]}, {others[0], others[1], b}}
}

// checkOne: a binding by itself and among others.
func checkOne(t *testing.T, b impl.Binding, right bool) {
	t.Helper()
	for _, list := range someBindings(b) {
		checkBindings(t, showBinding(b), list, right)
	}
}

func TestBindingsOKOfNames(t *testing.T) {
	check := func(text string, right bool) {
		t.Helper()
		checkOne(t, impl.Binding{Name: text, Key: "k", Scope: 1}, right)
		checkOne(t, impl.Binding{Name: "a", Key: text, Scope: 1}, right)
		checkOne(t, impl.Binding{Name: "a", Key: "k", Tag: text, Scope: 1}, right || text == "")
		checkOne(t, impl.Binding{Name: "a", Key: "k", When: text, Scope: 1}, right || text == "")
		checkOne(t, impl.Binding{Name: "a", Key: "k", When: "!" + text, Scope: 1}, right)
		checkOne(t, impl.Binding{Name: "a", Key: "k", When: "!!" + text, Scope: 1}, false)
		checkOne(t, impl.Binding{Name: "a", Key: "k", When: text + "!", Scope: 1}, false)
		checkOne(t, impl.Binding{Name: "a", Key: "k", When: "! " + text, Scope: 1}, false)
		for at := range 8 {
			needs := repeated(8, impl.Want{Key: "k", Mode: impl.WantLazy})
			needs[at].Key = text
			checkOne(t, impl.Binding{Name: "a", Key: "k", Scope: 1, Needs: needs[:at+1]}, right)
			needs[at].Key, needs[at].Tag = "k", text
			checkOne(t, impl.Binding{Name: "a", Key: "k", Scope: 1, Needs: needs}, right || text == "")
		}
	}
	for _, text := range rightNames {
		check(text, true)
	}
	for _, text := range notNames() {
		check(text, false)
	}
}

// The forms of When, each by itself.
func TestBindingsOKOfWhens(t *testing.T) {
	for when, right := range map[string]bool{
		"": true, "f": true, "!f": true, "!": false, "!!": false, "!!f": false, "!!!f": false, "f!": false, "!f!": false, "! f": false, " !f": false, "!1": false, "!é": true, "!when": false, "f g": false, "!f !g": false, "\x00f": false, "¬f": false,
		"!" + strings.Repeat("n", 40): true, "!" + strings.Repeat("n", 41): false, strings.Repeat("!", 1<<22): false, strings.Repeat("n", 1<<22): false, "!" + strings.Repeat("n", 1<<22): false,
	} {
		checkOne(t, impl.Binding{Name: "a", Key: "k", Scope: 1, When: when}, right)
	}
}

func TestBindingsOKOfNumbers(t *testing.T) {
	for _, number := range anyNumbers {
		checkOne(t, impl.Binding{Name: "a", Key: "k", Scope: number}, 1 <= number && number <= 3)
		checkOne(t, impl.Binding{Name: "a", Key: "k", Scope: 1, Rank: number}, true)
		checkOne(t, impl.Binding{Name: "a", Key: "k", Scope: 1, Rank: number, Wraps: true}, true)
		for at := range 8 {
			needs := repeated(8, impl.Want{Key: "k", Mode: impl.WantAll})
			needs[at].Mode = number
			checkOne(t, impl.Binding{Name: "a", Key: "k", Scope: 1, Needs: needs}, 1 <= number && number <= 4)
		}
	}
}

func TestBindingsOKOfTwo(t *testing.T) {
	for text, right := range map[string]bool{
		"a:k | b:k":                true,
		"a:k | A:k | aa:k":         true,
		"a:k | a:k":                false,
		"a:k | a:j":                false,
		"a:k | b:k | a:j.t":        false,
		"a:k if=f | a:k if=!f":     false,
		"a:k | a:k wraps":          false,
		"a:a | b:a | c:a.a":        true,
		"a:k +a | k:a +k":          true,
		"a:k +k +k ?k.t *k.t":      true,
		"a:k | b:k | c:k | b:j":    false,
		"é:k | e:k | É:k":          true,
		"a:k ^5 | b:k ^5 | c:k ^5": true,
	} {
		checkBindings(t, text, bindingsOf(t, text), right)
	}
	for at := range 60 {
		for _, other := range []int{0, 29, 30, 59} {
			list := manyBindings(60)
			list[at].Name = list[other].Name
			checkBindings(t, "one name at "+strconv.Itoa(at)+" and "+strconv.Itoa(other), list, at == other)
		}
	}
}

// ErrLong ahead of all, ErrBad ahead of what is told of right ones.
func TestBindingsWhichCodeCounts(t *testing.T) {
	right, bad := bindingsOf(t, "a:k +nope | b:k"), []impl.Binding{{Name: "1", Key: "k", Scope: 1}}
	flags := repeated(impl.MaxList+1, "f")
	checkBound(t, "right bindings, flags too many", right, flags, impl.ErrLong)
	checkBound(t, "no bindings, flags too many", nil, flags, impl.ErrLong)
	checkBound(t, "bad bindings, flags too many", bad, flags, impl.ErrLong)
	checkBound(t, "bindings too many, flags too many", manyBindings(4097), flags, impl.ErrLong)
	checkBound(t, "bindings too many", manyBindings(4097), nil, impl.ErrLong)
	checkBound(t, "bad bindings too many", repeated(4097, bad[0]), nil, impl.ErrLong)
	checkBound(t, "bad bindings, as many as a list may have", repeated(4096, bad[0]), flags[:4096], impl.ErrBad)
	checkBound(t, "a bad binding", bad, flags[:4096], impl.ErrBad)
	if impl.BindingsOK(manyBindings(4097)) {
		t.Error("BindingsOK of a list too long")
	}
}

// A want's texts are within a struct: however long they are, they make it a wrong one and no more.
func TestResolveOfLongWants(t *testing.T) {
	for _, list := range [][]impl.Binding{nil, bindingsOf(t, "a:k +nope | b:k")} {
		for _, size := range []int{41, 65535, 65536, 65537, 1 << 24} {
			for _, letter := range []string{"k", "\xff"} {
				long := strings.Repeat(letter, size)
				for mode := 0; mode <= 5; mode++ {
					for _, w := range []impl.Want{{Key: long, Mode: mode}, {Key: "k", Tag: long, Mode: mode}, {Key: long, Tag: long, Mode: mode}} {
						if found, code := impl.Resolve(list, flagsOf("f g"), w); code != impl.ErrBad || len(found) > 0 {
							t.Errorf("a want of mode %d with a text of %d bytes: %v %d", mode, size, found, code)
						}
					}
				}
			}
		}
	}
}

// Wrong wants of right bindings.
func TestResolveOfWrongWants(t *testing.T) {
	list := bindingsOf(t, "a:k | b:k.t | c:log")
	check := func(w impl.Want, right bool) {
		t.Helper()
		found, code := impl.Resolve(list, []string{"f"}, w)
		if (code == impl.ErrBad) == right || code != impl.OK && len(found) > 0 {
			t.Errorf("Resolve of %s: %v %d", showWant(w), found, code)
		}
	}
	for _, name := range rightNames {
		check(impl.Want{Key: name, Mode: impl.WantOne}, true)
		check(impl.Want{Key: "k", Tag: name, Mode: impl.WantOne}, true)
	}
	for _, text := range notNames() {
		for mode := 1; mode <= 4; mode++ {
			check(impl.Want{Key: text, Mode: mode}, false)
			check(impl.Want{Key: text, Tag: "t", Mode: mode}, false)
			check(impl.Want{Key: "k", Tag: text, Mode: mode}, text == "")
			check(impl.Want{Key: "nope", Tag: text, Mode: mode}, text == "")
		}
	}
	for _, number := range anyNumbers {
		check(impl.Want{Key: "k", Mode: number}, 1 <= number && number <= 4)
		check(impl.Want{Key: "nope", Tag: "t", Mode: number}, 1 <= number && number <= 4)
	}
	check(impl.Want{Key: strings.Repeat("k", 65536), Mode: 1}, false)
	check(impl.Want{Key: "k", Tag: strings.Repeat("k", 65536), Mode: 3}, false)
	check(impl.Want{}, false)
}

// Flags are any texts, in any number up to that of a list, of any length.
func TestHostileFlags(t *testing.T) {
	huge := strings.Repeat("f", 20*millions)
	list := bindingsOf(t, "a:k if=f +log | b:k if=!f | c:k wraps if=!f +k | d:log if=!g")
	for _, c := range []struct {
		flags []string
		want  string
	}{
		{repeated(4096, "f"), "a"}, {repeated(4096, ""), "b"}, {repeated(4096, huge), "b"}, {repeated(4096, "!"+huge), "b"}, {append(repeated(4095, huge), "f"), "a"}, {[]string{huge, "f", huge}, "a"}, {[]string{"\xff", "f", "\x00"}, "a"}, {[]string{"f\x00", "F", " f", "f ", "!", "!!f"}, "b"},
		{[]string{huge[:65536]}, "b"}, {[]string{huge[:65537]}, "b"},
	} {
		found, code := impl.Resolve(list, c.flags, impl.Want{Key: "k", Mode: impl.WantOne})
		if got := toldOr(code, namesOf(list, found)); got != c.want {
			t.Errorf("%d flags: %s, not %s", len(c.flags), got, c.want)
		}
		problems, code := impl.Audit(list, c.flags)
		want, wantCode := wantAudit(list, c.flags)
		if code != wantCode || !slices.Equal(problems, want) {
			t.Errorf("%d flags: Audit %s %d, not %s", len(c.flags), toldProblems(problems), code, toldProblems(want))
		}
	}
}

// Bindings that are far beyond their bounds are wrong, and no end of it.
func TestHostileBindings(t *testing.T) {
	huge := strings.Repeat("n", 20*millions)
	for what, b := range map[string]impl.Binding{
		"name":      {Name: huge, Key: "k", Scope: 1},
		"key":       {Name: "a", Key: huge, Scope: 1},
		"tag":       {Name: "a", Key: "k", Tag: huge, Scope: 1},
		"when":      {Name: "a", Key: "k", When: huge, Scope: 1},
		"not when":  {Name: "a", Key: "k", When: "!" + huge, Scope: 1},
		"marks":     {Name: "a", Key: "k", When: strings.Repeat("!", 20*millions), Scope: 1},
		"needs":     {Name: "a", Key: "k", Needs: repeated(millions, impl.Want{Key: "k", Mode: 1}), Scope: 1},
		"bad needs": {Name: "a", Key: "k", Needs: make([]impl.Want, millions), Scope: 1},
		"need key":  {Name: "a", Key: "k", Needs: []impl.Want{{Key: huge, Mode: 1}}, Scope: 1},
		"need tag":  {Name: "a", Key: "k", Needs: []impl.Want{{Key: "k", Tag: huge, Mode: 1}}, Scope: 1},
	} {
		checkOne(t, b, false)
		checkBindings(t, what+" 60 times", repeated(60, b), false)
		checkBindings(t, what+" too many times", repeated(impl.MaxList+1, b), false)
	}
}
