package tests

import (
	"slices"
	"strconv"
	"strings"
	"testing"

	"loop.example/g00045/impl"
)

// checkStart: StartOrder and Waves of main, packages parted by blanks, waves by bars, in each order of the files.
func checkStart(t *testing.T, main, order, waves string, texts ...string) {
	t.Helper()
	orders(readProgram(t, texts...), func(list []impl.File) {
		if got, code, about := impl.StartOrder(list, main); code != impl.OK || len(about) > 0 || strings.Join(got, " ") != order {
			t.Errorf("%q: StartOrder %v %d %v, not %s", texts, got, code, about, order)
		}
		got, code := impl.Waves(list, main)
		var shown []string
		for _, wave := range got {
			shown = append(shown, strings.Join(wave, " "))
		}
		if code != impl.OK || strings.Join(shown, " | ") != waves {
			t.Errorf("%q: Waves %v %d, not %s", texts, got, code, waves)
		}
	})
}

func TestStartOrder(t *testing.T) {
	for _, c := range []struct {
		main, order, waves string
		texts              []string
	}{
		{"main", "main", "main", []string{"main:"}}, {"p", "p", "p", []string{"p:", "main: import p;"}}, {"main", "a main", "a | main", []string{"main: import a;", "a:"}}, {"main", "z main", "z | main", []string{"main: import z;", "z:"}},
		// What main does not reach is not there.
		{"b", "a b", "a | b", []string{"a:", "b: import a;", "c: import b;", "d:", "e: import a;"}}, {"main", "main", "main", []string{"main:", "a:", "b: import a;"}},
		// The first one by name of those whose imports are there, as soon as they are.
		{"main", "a b c main", "a b c | main", []string{"main: import c; import a; import b;", "b:", "c:", "a:"}}, {"main", "a c z b main", "a z | b c | main", []string{"main: import b; import c;", "b: import z;", "c: import a;", "z:", "a:"}},
		{"main", "c b a main", "c | b | a | main", []string{"main: import a;", "a: import b;", "b: import c;", "c:"}}, {"a", "c b a", "c | b | a", []string{"a: import b; import c;", "b: import c;", "c:"}}, {"m", "b a x m", "b | a x | m", []string{"m: import x; import a;", "x: import b;", "a: import b;", "b:"}},
		{"main", "B a é main", "B a é | main", []string{"main: import é; import a; import B;", "é:", "a:", "B:"}}, {"main", "a aa ab main", "a aa ab | main", []string{"main: import ab; import aa; import a;", "a:", "aa:", "ab:"}},
		// A package is in the first wave behind all its imports, not behind one of them.
		{"main", "a b c main", "a | b | c | main", []string{"main: import a; import c;", "c: import b; import a;", "b: import a;", "a:"}}, {"main", "d a b c main", "d | a | b | c | main", []string{"main: import a; import b; import c; import d;", "a: import d;", "b: import a; import d;", "c: import b; import a;", "d:"}}, {"z", "b c a d z", "b c | a d | z", []string{"z: import a; import d; import b;", "a: import b; import c;", "d: import c;", "b:", "c:"}},
		// The imports of all files of a package.
		{"main", "a b main", "a b | main", []string{"main y: import a;", "main x: import b;", "a:", "b:"}}, {"main", "a main", "a | main", []string{"main y: import a;", "main x: import a;", "a:"}},
		// An import that nothing is named of is one.
		{"main", "q main", "q | main", []string{"main: import q 5 6; var a = 1;", "q:"}},
	} {
		checkStart(t, c.main, c.order, c.waves, c.texts...)
	}
}

func TestStartOrderNone(t *testing.T) {
	files := readProgram(t, "main: import q;", "q:")
	for _, main := range []string{"", "Main", "main ", "mai", "mainn", "nope", "f1", "var", "\xff", "main\x00", strings.Repeat("m", impl.MaxName+1), strings.Repeat("m", impl.MaxText)} {
		if order, code, about := impl.StartOrder(files, main); code != impl.ErrNone || len(order) > 0 || !slices.Equal(about, []string{main}) {
			t.Errorf("%s: %v %d %.100q", clipped(main), order, code, about)
		}
		if waves, code := impl.Waves(files, main); code != impl.ErrNone || len(waves) > 0 {
			t.Errorf("%s: Waves %v %d", clipped(main), waves, code)
		}
		for _, fuel := range []int{-1, 0, 9, impl.MaxFuel + 1} {
			for _, order := range [][]string{nil, {"q", "main"}, {main}, {"nope"}} {
				if x := impl.Run(files, main, order, fuel, true); x.Code != impl.ErrNone || len(x.Events)+len(x.Values)+x.Steps > 0 {
					t.Errorf("%s: %s", clipped(main), showTrace(x))
				}
			}
		}
	}
	if order, code, _ := impl.StartOrder(files, "q"); code != impl.OK || !slices.Equal(order, []string{"q"}) {
		t.Errorf("q: %v %d", order, code)
	}
}

// stairs: packages each of which imports all ahead of it (as many as a file may), or the one ahead of it alone.
func stairs(t *testing.T, count, most int) ([]impl.File, []string) {
	t.Helper()
	var texts, names []string
	for i := range count {
		text := ""
		for k := max(0, i-most); k < i; k++ {
			text += "import " + names[k] + "; "
		}
		// Names that stand the other way round.
		names = append(names, "p"+strconv.Itoa(99-i))
		texts = append(texts, names[i]+": "+text+"var a = "+strconv.Itoa(i)+";")
	}
	slices.Reverse(texts)
	return readProgram(t, texts...), names
}

func TestStartOrderOfManyPackages(t *testing.T) {
	for _, most := range []int{1, 2, 7, 20} {
		files, names := stairs(t, impl.MaxProgram, most)
		for _, at := range []int{0, 1, 20, 39} {
			order, code, _ := impl.StartOrder(files, names[at])
			if code != impl.OK || !slices.Equal(order, names[:at+1]) {
				t.Errorf("%d at %d: %v %d", most, at, order, code)
			}
			waves, code := impl.Waves(files, names[at])
			if code != impl.OK || len(waves) != at+1 {
				t.Fatalf("%d at %d: %v %d", most, at, waves, code)
			}
			for i, wave := range waves {
				if !slices.Equal(wave, []string{names[i]}) {
					t.Errorf("%d at %d: wave %d %v", most, at, i, wave)
				}
			}
			x := impl.Run(files, names[at], nil, at+1, true)
			if x.Code != impl.OK || x.Steps != at+1 || len(x.Events) != 4*(at+1) || len(x.Values) != at+1 || x.Values[at].Num != at {
				t.Errorf("%d at %d: %s", most, at, clipped(showTrace(x)))
			}
		}
	}
}

// A wide program: many packages of one wave, told by name, each made ready at the same time.
func TestWavesOfManyPackages(t *testing.T) {
	var texts, low, high []string
	for i := range 19 {
		low, high = append(low, "low"+strconv.Itoa(10+i)), append(high, "high"+strconv.Itoa(10+i))
		texts = append(texts, low[i]+": var a = "+strconv.Itoa(i)+"; func f(x) = x + a;")
		text := ""
		for _, name := range low {
			text += "import " + name + "; "
		}
		texts = append(texts, high[i]+": "+text+"var a = "+low[0]+".f("+low[i]+".a);")
	}
	text := "main: "
	for _, name := range high {
		text += "import " + name + "; "
	}
	files := readProgram(t, append(texts, text+"var a = "+high[18]+".a;")...)
	waves, code := impl.Waves(files, "main")
	if code != impl.OK || len(waves) != 3 || !slices.Equal(waves[0], low) || !slices.Equal(waves[1], high) || !slices.Equal(waves[2], []string{"main"}) {
		t.Errorf("%v %d", waves, code)
	}
	for range 50 {
		x := impl.Run(files, "main", nil, impl.MaxFuel, false)
		if x.Code != impl.OK || x.Values[len(x.Values)-1] != (impl.Value{Name: "main.a", Num: 18}) || len(x.Values) != 39 {
			t.Fatal(clipped(showTrace(x)))
		}
	}
	order := append(append(slices.Clone(low), high...), "main")
	slices.Reverse(order[:19])
	if x := impl.Run(files, "main", order, impl.MaxFuel, false); x.Code != impl.OK || x.Values[0] != (impl.Value{Name: "low28.a", Num: 18}) {
		t.Error(clipped(showTrace(x)))
	}
}
