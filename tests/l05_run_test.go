package tests

import (
	"strconv"
	"strings"
	"testing"

	"loop.example/g00045/impl"
)

var eventWords = []string{"", "var", "set", "emit", "up", "fail", "stop", "down"}

// showEvents: an event is written as its word, its package, its name with a point ahead, and of some kinds its number.
func showEvents(events []impl.Event) string {
	var out []string
	for _, e := range events {
		text := "kind" + strconv.Itoa(e.Kind)
		if e.Kind > 0 && e.Kind < len(eventWords) {
			text = eventWords[e.Kind]
		}
		text += " " + e.Package
		if e.Name != "" {
			text += "." + e.Name
		}
		switch {
		case e.Kind == impl.EvFail:
			text += " " + impl.CodeWord(e.Num)
		case e.Kind < impl.EvUp || e.Num != 0:
			text += " " + strconv.Itoa(e.Num)
		}
		out = append(out, text)
	}
	return strings.Join(out, ", ")
}

func showValues(values []impl.Value) string {
	var out []string
	for _, value := range values {
		out = append(out, value.Name+" "+strconv.Itoa(value.Num))
	}
	return strings.Join(out, ", ")
}

// showTrace: code and steps; events; values.
func showTrace(x impl.Trace) string {
	return strings.TrimSpace(impl.CodeWord(x.Code) + " " + strconv.Itoa(x.Steps) + "; " + showEvents(x.Events) + "; " + showValues(x.Values))
}

// started: a Run of main, whose trace is shown, and held against the second telling.
func started(t *testing.T, files []impl.File, order string, fuel int, stop bool) string {
	t.Helper()
	code, _ := wantProgram(files)
	x := impl.Run(files, "main", strings.Fields(order), fuel, stop)
	checkTrace(t, "Run", files, x, wantRun(files, "main", strings.Fields(order), fuel, stop, code))
	return showTrace(x)
}

// checkRun: with so much fuel, in the order of its own, in each order of the files.
func checkRun(t *testing.T, fuel int, stop bool, want string, texts ...string) {
	t.Helper()
	orders(readProgram(t, texts...), func(list []impl.File) {
		if got := started(t, list, "", fuel, stop); got != want {
			t.Errorf("%.500q: %.1000s\nnot %s", texts, got, want)
		}
	})
}

func TestRunStart(t *testing.T) {
	for _, c := range []struct {
		want  string
		texts []string
	}{
		{"ok 0; up main;", []string{"main:"}}, {"ok 0; up main;", []string{"main: init { } stop { emit 1; } const c = 1; func f() = 2;"}}, {"ok 1; var main.a 7, up main; main.a 7", []string{"main: var a = 7;"}}, {"ok 2; var main.a 1, var main.b 2, up main; main.a 1, main.b 2", []string{"main: var a, b = 1, 2;"}}, {"ok 1; var main.a 5, up main; main.a 5", []string{"main: const c = 2 + 3; var a = c;"}},
		// In InitOrder's order; the Values in the order of declaration.
		{"ok 3; var main.b 2, var main.a 2, up main; main.a 2, main.b 2", []string{"main: var a = f(); var b = 2; func f() = b;"}}, {"ok 3; var main.b 5, var main.a 5, var main.d 5, up main; main.d 5, main.a 5, main.b 5", []string{"main z: var a = b; var b = 5;", "main y: var d = a;"}},
		{"ok 1; emit main 4, up main;", []string{"main: init { emit 4; }"}}, {"ok 5; var main.a 1, set main.a 2, emit main 2, up main; main.a 2", []string{"main: var a = 1; init { set a = a + 1; emit a; }"}}, {"ok 2; var main.a 1, set main.a 1, up main; main.a 1", []string{"main: init { set a = 1; } var a = 1;"}},
		// A When is worked out first; if it is 0, no more is.
		{"ok 7; emit main 2, emit main 3, up main;", []string{"main: init { emit 1 when 0; emit 2 when 7; emit 3 when -1; fail when 0; }"}}, {"ok 9; var main.a 1, set main.a 5, emit main 5, up main; main.a 5", []string{"main: var a = 1; init { set a = 5 when a == 1; set a = 6 when a == 1; emit a; }"}}, {"ok 1; up main;", []string{"main: init { emit 1 / 0 when 0; }"}}, {"ok 4; emit main 1, up main;", []string{"main: init { emit 1 when 1 - 0; }"}},
		{"ok 5; var main.x 9, emit main 1, emit main 2, emit main 3, emit main 4, up main; main.x 9", []string{"main b: init { emit 3; } init { emit 4; }", "main a: init { emit 1; } var x = 9; init { emit 2; }"}},
		{"ok 2; var q.b 2, up q, var main.a 2, up main; q.b 2, main.a 2", []string{"main: import q; var a = q.b; stop { emit 1; }", "q: var b = 2; stop { emit b; }"}}, {"ok 1; var q.b 3, up q, up main; q.b 3", []string{"main: import q;", "q: const c = 3; var b = c;"}}, {"ok 1; up q, var main.a 3, up main; main.a 3", []string{"main: import q; var a = q.c;", "q: const c = 3;"}},
		// Funcs of another package see what that one has by then.
		{"ok 8; var q.b 1, set q.b 3, up q, var main.a 33, up main; q.b 3, main.a 33", []string{"main: import q; var a = q.b + q.f();", "q: var b = 1; func f() = b * 10; init { set b = 3; }"}},
		// A parameter hides what the own package has, not what another one has.
		{"ok 13; var q.b 1, up q, var main.b 100, var main.a 12, up main; q.b 1, main.b 100, main.a 12", []string{"main: import q; var b = 100; func g(b) = q.f(b) + q.b + b; var a = g(5);", "q: var b = 1; func f(x) = x + b;"}}, {"ok 6; var main.a 9, up main; main.a 9", []string{"main: func g() = 2; func f(g) = g + g(); var a = f(7);"}}, {"ok 4; var main.a 8, up main; main.a 8", []string{"main: func f(x, y) = y; var a = f(7, 8);"}},
		// A func's parameters are its own: those of the one that calls it are not seen.
		{"ok 5; var main.x 1, var main.a 1, up main; main.x 1, main.a 1", []string{"main: var x = 1; func f(x) = g(); func g() = x; var a = f(5);"}},
		// What main does not reach is not started.
		{"ok 1; var main.a 1, up main; main.a 1", []string{"main: var a = 1;", "other: import main; var a = main.a; init { fail; }"}},
	} {
		checkRun(t, impl.MaxFuel, false, c.want, c.texts...)
	}
}

func TestRunFaults(t *testing.T) {
	for _, c := range []struct {
		want  string
		texts []string
	}{
		{"zero 4; var main.a 1, fail main.b zero;", []string{"main: var a = 1; var b = 1 / 0; var c = 3;"}}, {"zero 3; fail main.a zero;", []string{"main: var a, b = 1 % 0, 2;"}}, {"zero 5; fail main.a zero;", []string{"main: var a = f() + f(); func f() = 0 / 0;"}},
		{"fail 2; var main.a 1, emit main 2, fail main fail;", []string{"main: var a = 1; init { emit 2; fail; emit 3; } init { emit 4; }"}}, {"zero 4; var main.a 1, fail main zero;", []string{"main: var a = 1; init { set a = 1 % 0; }"}}, {"zero 3; fail main zero;", []string{"main: init { emit 1 when 1 / 0; }"}}, {"fail 1; fail main fail;", []string{"main: init { fail when 2; }"}}, {"fail 0; fail main fail;", []string{"main: init { fail; }"}}, {"zero 3; fail main zero;", []string{"main: init { fail when 5 % 0; }"}},
		// What failed is not up: its stops are not gone through.
		{"fail 1; var main.a 1, fail main fail;", []string{"main: var a = 1; init { fail; } stop { emit 9; }"}}, {"zero 3; fail main.a zero;", []string{"main: var a = 1 / 0; stop { emit 9; } init { emit 8; }"}},
		{"zero 4; var r.c 0, up r, fail q.b zero, stop r, emit r 0, down r;", []string{"main: import q; import r; var a = 1;", "q: import r; var b = 1 / r.c;", "r: var c = 0; stop { emit c; }"}},
		{"fail 0; up q, up r, fail main fail, stop r, emit r 2, down r, stop q, emit q 1, down q;", []string{"main: import q; import r; init { fail; }", "q: stop { emit 1; }", "r: stop { emit 2; }"}}, {"fail 0; fail q fail;", []string{"main: import q; import r;", "q: init { fail; } stop { emit 1; }", "r: stop { emit 2; }"}},
		{"zero 3; up q, fail main.a zero, stop q, emit q 3, fail q fail, emit q 1, down q;", []string{"main: import q; var a = 1 / 0;", "q: stop { emit 1; } stop { fail; emit 2; } stop { emit 3; }"}},
		// A fault in another package's func is one of the package that is being started.
		{"zero 4; up q, fail main.a zero, stop q, down q;", []string{"main: import q; var a = q.f();", "q: func f() = 1 / 0;"}}, {"zero 4; up q, fail main zero, stop q, down q;", []string{"main: import q; init { emit q.f(); }", "q: func f() = 1 / 0;"}},
		// Values that were set go with the rest.
		{"fail 2; var q.b 1, set q.b 2, up q, fail main fail, stop q, down q;", []string{"main: import q; init { fail; }", "q: var b = 1; init { set b = 2; }"}},
	} {
		for _, stop := range []bool{false, true} {
			checkRun(t, impl.MaxFuel, stop, c.want, c.texts...)
		}
	}
}

func TestRunStops(t *testing.T) {
	for _, c := range []struct {
		fuel  int
		want  string
		texts []string
	}{
		{9, "ok 0; up main, stop main, down main;", []string{"main:"}}, {9, "ok 0; up main, stop main, down main;", []string{"main: stop { } init { }"}}, {9, "ok 0; up main, stop main, emit main 4, emit main 3, emit main 33, emit main 2, emit main 1, down main;", []string{"main b: stop { emit 3; emit 33; } stop { emit 4; }", "main a: stop { emit 1; } stop { emit 2; }"}}, {9, "ok 0; up main, stop main, emit main 2, emit main 1, down main;", []string{"main: stop { emit 1; } stop { } stop { emit 2; }"}},
		{9, "ok 1; var main.a 1, up main, stop main, set main.a 10, set main.a 11, down main; main.a 11", []string{"main: var a = 1; stop { set a = a + 1; } stop { set a = a * 10; }"}}, {9, "ok 1; var main.a 1, up main, stop main, emit main 1, down main; main.a 1", []string{"main: var a = 1; stop { emit a when a; emit 3 when !a; fail when 0; }"}},
		{9, "ok 1; var q.b 1, up q, up main, stop main, emit main 1, down main, stop q, set q.b 2, down q; q.b 2", []string{"main: import q; stop { emit q.b; }", "q: var b = 1; stop { set b = 2; }"}}, {9, "ok 0; up a, up b, up c, up main, stop main, down main, stop c, down c, stop b, down b, stop a, down a;", []string{"main: import a; import b; import c;", "a:", "b:", "c:"}},
		// A fault ends that stop alone, and is no fault of the start.
		{9, "ok 0; up main, stop main, emit main 6, fail main zero, emit main 2, fail main fail, emit main 1, down main;", []string{"main: stop { emit 1; } stop { emit 2; fail; emit 3; } stop { emit 4 / 0; emit 5; } stop { emit 6; }"}}, {9, "ok 1; var main.a 1, up main, stop main, set main.a 2, fail main zero, set main.a 5, fail main fail, down main; main.a 5", []string{"main: var a = 1; stop { set a = 5; fail; } stop { set a = 2; set a = 1 / 0; }"}}, {99, "ok 0; up main, stop main, emit main 1, fail main deep, down main;", []string{"main: func f() = f(); stop { emit f(); } stop { emit 1; }"}}, {9, "ok 0; up q, up main, stop main, fail main fail, down main, stop q, fail q fail, down q;", []string{"main: import q; stop { fail; }", "q: stop { fail; }"}},
		// Each package's stop has steps of its own, all its stops together.
		{3, "ok 1; var main.a 1, up main, stop main, emit main 3, emit main 4, emit main 1, fail main fuel, down main; main.a 1", []string{"main: var a = 1; stop { emit 1; emit 2; } stop { emit 3; emit 4; }"}}, {1, "ok 0; up main, stop main, emit main 1, fail main fuel, fail main fuel, fail main fail, down main;", []string{"main: stop { fail; } stop { emit 1 when 0; } stop { emit 1; emit 2; }"}}, {0, "ok 0; up main, stop main, fail main fail, fail main fuel, down main;", []string{"main: stop { emit 1; } stop { fail; } stop { }"}}, {2, "ok 1; var q.a 5, up q, up main, stop main, emit main 1, emit main 2, down main, stop q, emit q 3, emit q 4, down q; q.a 5", []string{"main: import q; stop { emit 1; emit 2; }", "q: stop { emit 3; emit 4; } var a = 5;"}},
	} {
		checkRun(t, c.fuel, true, c.want, c.texts...)
	}
}

// The codes of the beginning, in their order, and nothing beside them.
func TestRunBeginning(t *testing.T) {
	right := readProgram(t, "main: import q; import r; var a = 1;", "q: import s; var b = 1;", "r:", "s:", "other: var c = 1;")
	wrong := readProgram(t, "main: import q;")
	for _, c := range []struct {
		files []impl.File
		main  string
		order string
		fuel  int
		want  int
	}{
		{wrong, "main", "", 9, impl.ErrNone}, {nil, "main", "", 9, impl.ErrBad}, {readProgram(t, "main: var a = a;"), "nope", "x", -1, impl.ErrLoop}, {readProgram(t, "main: const a = 1 / 0;"), "nope", "x", -1, impl.ErrZero}, {readProgram(t, "main: import main;"), "", "x", -1, impl.ErrLoop},
		{right, "nope", "", 9, impl.ErrNone}, {right, "", "", 9, impl.ErrNone}, {right, "nope", "x", -1, impl.ErrNone}, {right, "main", "x", -1, impl.ErrBad}, {right, "main", "", -1, impl.ErrBad}, {right, "main", "", impl.MaxFuel + 1, impl.ErrBad}, {right, "main", "main", impl.MaxFuel + 1, impl.ErrBad}, {right, "main", "", impl.MaxFuel, impl.OK}, {right, "main", "", 0, impl.ErrFuel}, {right, "s", "", 0, impl.OK}, {right, "main", "", 2, impl.OK}, {right, "main", "", 1, impl.ErrFuel},
		// One lacks, is there twice, is not reached, is none, stands ahead of its import.
		{right, "main", "s q main", 9, impl.ErrState}, {right, "main", "r s q", 9, impl.ErrState}, {right, "main", "main", 9, impl.ErrState}, {right, "main", "s q r main main", 9, impl.ErrState}, {right, "main", "s s q r main", 9, impl.ErrState}, {right, "main", "s q r r", 9, impl.ErrState}, {right, "main", "s q q main", 9, impl.ErrState}, {right, "main", "s q r other main", 9, impl.ErrState}, {right, "main", "other s q r main", 9, impl.ErrState}, {right, "main", "s q other main", 9, impl.ErrState}, {right, "main", "s q r main nope", 9, impl.ErrState}, {right, "main", "s q r Main", 9, impl.ErrState},
		{right, "main", "q s r main", 9, impl.ErrState}, {right, "main", "s q main r", 9, impl.ErrState}, {right, "main", "main r q s", 9, impl.ErrState}, {right, "main", "r q s main", 9, impl.ErrState}, {right, "main", "main s q r", 9, impl.ErrState}, {right, "q", "s q r main", 9, impl.ErrState}, {right, "q", "q s", 9, impl.ErrState}, {right, "r", "s", 9, impl.ErrState}, {right, "main", "q s r main", 0, impl.ErrState},
		{right, "main", "s q r main", 9, impl.OK}, {right, "main", "r s q main", 9, impl.OK}, {right, "main", "s r q main", 9, impl.OK}, {right, "q", "s q", 9, impl.OK}, {right, "r", "r", 9, impl.OK}, {right, "other", "other", 9, impl.OK},
	} {
		for _, stop := range []bool{false, true} {
			x := impl.Run(c.files, c.main, strings.Fields(c.order), c.fuel, stop)
			if x.Code != c.want || c.want != impl.OK && c.want != impl.ErrFuel && len(x.Events)+len(x.Values)+x.Steps > 0 {
				t.Errorf("main %q, order %q, fuel %d: %s, not %s", c.main, c.order, c.fuel, showTrace(x), impl.CodeWord(c.want))
			}
			code, _ := wantProgram(c.files)
			checkTrace(t, "Run", c.files, x, wantRun(c.files, c.main, strings.Fields(c.order), c.fuel, stop, code))
		}
	}
	for _, order := range [][]string{{""}, {"", "", "", ""}, {"s", "q", "r", ""}, {"s", "q", "r", "main", ""}} {
		if x := impl.Run(right, "main", order, 9, false); x.Code != impl.ErrState || len(x.Events) > 0 {
			t.Errorf("%q: %s", order, showTrace(x))
		}
	}
	if x, y := impl.Run(right, "main", nil, 9, true), impl.Run(right, "main", []string{}, 9, true); showTrace(x) != showTrace(y) || x.Code != impl.OK {
		t.Errorf("%s, and %s", showTrace(x), showTrace(y))
	}
}

// In another order: that is the order of the events and of the Values.
func TestRunInOtherOrders(t *testing.T) {
	files := readProgram(t, "main: import q; import r; var a = q.b + r.d;", "q: var b = 2; stop { emit 1; }", "r: var d, c = 4, 3; init { emit c; }")
	for order, want := range map[string]string{
		"":         "ok 7; var q.b 2, up q, var r.d 4, var r.c 3, emit r 3, up r, var main.a 6, up main, stop main, down main, stop r, down r, stop q, emit q 1, down q; q.b 2, r.d 4, r.c 3, main.a 6",
		"q r main": "ok 7; var q.b 2, up q, var r.d 4, var r.c 3, emit r 3, up r, var main.a 6, up main, stop main, down main, stop r, down r, stop q, emit q 1, down q; q.b 2, r.d 4, r.c 3, main.a 6",
		"r q main": "ok 7; var r.d 4, var r.c 3, emit r 3, up r, var q.b 2, up q, var main.a 6, up main, stop main, down main, stop q, emit q 1, down q, stop r, down r; r.d 4, r.c 3, q.b 2, main.a 6",
	} {
		if got := started(t, files, order, 7, true); got != want {
			t.Errorf("%s: %s", order, got)
		}
	}
	for order, want := range map[string]string{
		"q r main": "fuel 2; var q.b 2, up q, var r.d 4, fail r.c fuel, stop q, emit q 1, down q;",
		"r q main": "fuel 2; var r.d 4, var r.c 3, fail r fuel;",
	} {
		if got := started(t, files, order, 2, false); got != want {
			t.Errorf("%s: %s", order, got)
		}
	}
}

func TestRunFuel(t *testing.T) {
	for fuel, want := range []string{
		"fuel 0; fail main.a fuel;", "fuel 1; fail main.a fuel;", "fuel 2; fail main.a fuel;", "fuel 3; var main.a 3, fail main fuel;", "fuel 4; var main.a 3, fail main fuel;",
		"ok 5; var main.a 3, emit main 3, up main; main.a 3", "ok 5; var main.a 3, emit main 3, up main; main.a 3",
	} {
		checkRun(t, fuel, false, want, "main: var a = 1 + 2; init { emit a when a; }")
	}
	checkRun(t, 0, true, "ok 0; up q, up main, stop main, down main, stop q, down q;", "main: import q; func f() = 1;", "q: const c = 1 + 2; init { } stop { }")
	checkRun(t, 0, false, "fail 0; fail main fail;", "main: init { fail; emit 1; }")
	checkRun(t, 0, false, "fuel 0; fail main fuel;", "main: init { fail when 1; }")
	// A fault that comes with the last step is told, one that would need another is not.
	checkRun(t, 3, false, "zero 3; fail main.a zero;", "main: var a = 1 / 0;")
	checkRun(t, 2, false, "fuel 2; fail main.a fuel;", "main: var a = 1 / 0;")
	checkRun(t, 1, false, "fail 1; fail main fail;", "main: init { fail when 1; }")
	checkRun(t, 1, false, "fuel 1; emit main 1, fail main fuel;", "main: init { emit 1; emit 2; }")
}

// Fuel of each number from 0 to all steps and one more, in each right order.
func TestRunAtEachFuel(t *testing.T) {
	for _, texts := range [][]string{
		{"main: import q; import r; var a = q.f(r.c, 2) * -q.b; init { set a = a + 1 when a != 0; emit a; } stop { emit a - 1; set a = 7; } stop { fail when r.c; }", "q: import s; var b = s.g() + 1; func f(x, y) = x * y + b; stop { emit b; } stop { emit f(b, b); emit 2; }", "r: var c, d = 3, c; init { emit d when c; } stop { emit d; }", "s: func g() = h(2) + h(3); func h(n) = n * k; const k = 5;"},
		{"main: import q; var a = q.f(q.b); init { emit a / (a - a); }", "q: var b = 2; func f(x) = x + b; stop { emit f(1) % b; set b = 0; emit 1 / b; } stop { emit b; }"},
	} {
		files := readProgram(t, texts...)
		all := impl.Run(files, "main", nil, impl.MaxFuel, false)
		own, _, _ := impl.StartOrder(files, "main")
		orders(own, func(order []string) {
			if !isRightOrder(files, "main", order) {
				return
			}
			for fuel := range all.Steps + 2 {
				for _, stop := range []bool{false, true} {
					x := impl.Run(files, "main", order, fuel, stop)
					checkTrace(t, "Run", files, x, runOf(files, order).trace(fuel, stop))
					if isShort := fuel < all.Steps; isShort != (x.Code == impl.ErrFuel) || isShort && x.Steps != fuel {
						t.Errorf("%v, fuel %d of %d: %s", order, fuel, all.Steps, showTrace(x))
					}
				}
			}
		})
	}
}

// callRow: funcs f1 to f<count>, each of which calls the one ahead of it, the first one with that expression.
func callRow(count int, first string) string {
	out := "func f1(x) = " + first + "; "
	for i := 2; i <= count; i++ {
		out += "func f" + strconv.Itoa(i) + "(x) = f" + strconv.Itoa(i-1) + "(x); "
	}
	return out
}

func TestRunDeep(t *testing.T) {
	for _, c := range []struct {
		fuel  int
		want  string
		texts []string
	}{
		{51, "deep 51; fail main.a deep;", []string{"main: func f() = f(); var a = f();"}}, {50, "fuel 50; fail main.a fuel;", []string{"main: func f() = f(); var a = f();"}}, {999, "deep 51; fail main deep;", []string{"main: func f() = g(); func g() = f(); init { emit f(); }"}},
		{101, "ok 101; var main.a 7, up main; main.a 7", []string{"main: var a = f50(7); " + callRow(50, "x")}}, {999, "deep 102; fail main.a deep;", []string{"main: var a = f51(7); " + callRow(51, "x")}}, {102, "deep 102; fail main.a deep;", []string{"main: var a = f51(7); " + callRow(51, "x")}}, {101, "fuel 101; fail main.a fuel;", []string{"main: var a = f51(7); " + callRow(51, "x")}},
		// Arguments are worked out ahead of it, and are within no more funcs than the call is.
		{999, "ok 301; var main.a 7, up main; main.a 7", []string{"main: var a = f50(f50(f50(7))); " + callRow(50, "x")}}, {999, "ok 203; var main.a 3, up main; main.a 3", []string{"main: var a = f50(1) + f50(2); " + callRow(50, "x")}}, {999, "zero 104; fail main.a zero;", []string{"main: func g(x) = x; var a = f50(7); " + callRow(50, "g(1 / 0)")}}, {999, "deep 103; fail main.a deep;", []string{"main: func g(x) = x; var a = f50(7); " + callRow(50, "g(x)+1")}},
	} {
		checkRun(t, c.fuel, false, c.want, c.texts...)
	}
}

// Calls of other packages' funcs are within each other like those of the own ones.
func TestRunDeepThroughPackages(t *testing.T) {
	for _, most := range []int{49, 50, 51, 60} {
		for own := 1; own < most; own += 7 {
			main := "main: import q; var a = f" + strconv.Itoa(own) + "(9); " + callRow(own, "q.f"+strconv.Itoa(most-own)+"(x)")
			files := readProgram(t, main, "q: "+callRow(most-own, "x"))
			want := "ok " + strconv.Itoa(2*most+1) + "; up q, var main.a 9, up main; main.a 9"
			if most > 50 {
				want = "deep 102; up q, fail main.a deep, stop q, down q;"
			}
			if got := started(t, files, "", impl.MaxFuel, false); got != want {
				t.Errorf("%d, of them %d: %s", most, own, got)
			}
		}
	}
}

// Funcs that call each other twice come to more steps than any fuel.
func TestRunOfManySteps(t *testing.T) {
	text := "func f1(x) = x; "
	for i := 2; i <= 50; i++ {
		text += "func f" + strconv.Itoa(i) + "(x) = f" + strconv.Itoa(i-1) + "(x) + f" + strconv.Itoa(i-1) + "(x); "
	}
	for _, fuel := range []int{0, 1, 1000, impl.MaxFuel - 1, impl.MaxFuel} {
		checkRun(t, fuel, true, "fuel "+strconv.Itoa(fuel)+"; fail main.a fuel;", "main: var a = f50(1); "+text)
		checkRun(t, fuel, true, "ok 0; up main, stop main, fail main fuel, fail main fuel, fail main fuel, down main;", "main: stop { emit f50(1); } stop { emit f49(1); } stop { emit f50(1); } "+text)
	}
	files := readProgram(t, "main: import a; import b; import c; stop { emit f50(1); } "+text, "a: stop { emit f50(1); } "+text, "b: init { emit 1; } stop { emit f50(1); } "+text, "c: stop { emit f50(1); } "+text)
	want := "ok 1; up a, emit b 1, up b, up c, up main, stop main, fail main fuel, down main, stop c, fail c fuel, down c, stop b, fail b fuel, down b, stop a, fail a fuel, down a;"
	if got := started(t, files, "", impl.MaxFuel, true); got != want {
		t.Error(got)
	}
	// Just as many steps as there can be.
	whole := "main: init { emit 1" + strings.Repeat(" + 1", 999) + "; } "
	for _, fuel := range []int{1998, 1999} {
		x := impl.Run(readProgram(t, whole), "main", nil, fuel, false)
		if isAll := fuel == 1999; isAll != (x.Code == impl.OK) || x.Steps != fuel || isAll && x.Events[0].Num != 1000 {
			t.Errorf("fuel %d: %s", fuel, showTrace(x))
		}
	}
}

// A long row of signs within funcs that call each other: as deep as nodes can stand within each other.
func TestRunOfLongRows(t *testing.T) {
	row := strings.Repeat(" + 1", 19)
	text := "func f1(x) = x" + row + "; "
	for i := 2; i <= 49; i++ {
		text += "func f" + strconv.Itoa(i) + "(x) = f" + strconv.Itoa(i-1) + "(x)" + row + "; "
	}
	x := impl.Run(readProgram(t, "main: var a = f49(1); "+text), "main", nil, impl.MaxFuel, false)
	if want := 1 + 49*19; x.Code != impl.OK || x.Values[0].Num != want || x.Steps != 2+1+48*2+49*38 {
		t.Error(clipped(showTrace(x)))
	}
	files := readProgram(t, "main: func f(x) = f(x)"+strings.Repeat(" + 1", 990)+"; var a = f(1);")
	if x := impl.Run(files, "main", nil, impl.MaxFuel, false); x.Code != impl.ErrFuel || x.Steps != impl.MaxFuel {
		t.Error(clipped(showTrace(x)))
	}
}

func TestRunNumbers(t *testing.T) {
	const least = "-(9223372036 * 1000000000) - 854775808"
	for expr, want := range map[string]int{
		"999999999999999999 * 999999999999999999": -7527149226598858751, "999999999999999999 * 10": -8446744073709551626, "999999999999999999 * 10 + 5": -8446744073709551621, least: -1 << 63, least + " - 1": 1<<63 - 1, "-(" + least + ")": -1 << 63, "(" + least + ") / -1": -1 << 63, "(" + least + ") % -1": 0, "(" + least + ") * -1": -1 << 63,
		"-7 / 2": -3, "-7 % 2": -1, "7 / -2": -3, "7 % -2": 1, "-7 / -2": 3, "-7 % -2": -1, "0 / 5": 0, "1 - 2 - 3": -4, "2 * 3 % 4": 2, "!0": 1, "!7": 0, "!!7": 1, "--7": 7, "-!0": -1, "1 == 1": 1, "1 == 2": 0, "1 != 1": 0, "1 != 2": 1, "1 < 2": 1, "2 < 2": 0, "2 <= 2": 1, "3 <= 2": 0, least + " < 0": 1, "1 + 2 == 3": 1,
	} {
		for _, around := range []string{"var a = ?;", "var a = f(); func f() = ?;", "var a = f(?); func f(x) = x;", "var a = 77; init { set a = ?; }"} {
			x := impl.Run(readProgram(t, "main: "+strings.Replace(around, "?", expr, 1)), "main", nil, impl.MaxFuel, false)
			if x.Code != impl.OK || len(x.Values) != 1 || x.Values[0] != (impl.Value{Name: "main.a", Num: want}) {
				t.Errorf("%s in %s: %s, not %d", expr, around, showTrace(x), want)
			}
		}
	}
	for _, expr := range []string{"1 / 0", "1 % 0", "0 / 0", "1 / (2 - 2)", "(" + least + ") / 0", "1 + 2 % !1", "0 * (1 / 0)", "f(1 / 0)", "g()"} {
		x := impl.Run(readProgram(t, "main: func f(x) = 1; func g() = 5 % 0; var a = "+expr+";"), "main", nil, impl.MaxFuel, false)
		if x.Code != impl.ErrZero || len(x.Values) > 0 || showEvents(x.Events) != "fail main.a zero" {
			t.Errorf("%s: %s", expr, showTrace(x))
		}
	}
}

// Parts are worked out from the left, each ahead of what it is a part of: which of two faults comes.
func TestRunWhichFaultCounts(t *testing.T) {
	for expr, want := range map[string]string{
		"1 / 0 + d()": "zero 4", "d() + 1 / 0": "deep 52", "f(1 / 0, d())": "zero 4", "f(d(), 1 / 0)": "deep 52", "(1 / 0) / d()": "zero 4", "-d() / 0": "deep 53", "0 / d()": "deep 53", "1 % 0 * d()": "zero 4", "-(1 / 0) == d()": "zero 5",
	} {
		word, _, _ := strings.Cut(want, " ")
		checkRun(t, impl.MaxFuel, true, want+"; fail main.a "+word+";", "main: func d() = d(); func f(x, y) = x; var a = "+expr+";")
	}
}
