package tests

import (
	"slices"
	"strings"
	"testing"

	"loop.example/g00045/impl"
)

// checkValidate: what is told, whatever the order of the rules and of the layers.
func checkValidate(t *testing.T, rules, layers, told string) {
	t.Helper()
	list := layersOf(t, layers)
	orders(rulesOf(t, rules), func(turned []impl.Rule) {
		faults, code := impl.Validate(turned, list)
		if got := toldOr(code, toldFaults(faults)); got != told {
			t.Errorf("%s\n%s: %s, not %s", showRules(turned), showLayers(list), got, told)
		}
		slices.Reverse(list)
		if second, _ := wantValidate(turned, list); !slices.Equal(faults, second) {
			t.Errorf("%s\n%s: the second telling: %s", showRules(turned), showLayers(list), toldFaults(second))
		}
	})
}

func TestValidate(t *testing.T) {
	for _, c := range []struct{ rules, layers, told string }{
		{"", "", ""},
		{"", "a p=1", "none p a"},
		{"", "a p=1 | b p=~", ""},
		{"p int 1..9", "", ""},
		{"p int 1..9", "a p=5", ""},
		{"p int 1..9", "a p=x", "form p a"},
		{"p int 1..9", "a p=10", "range p a"},
		{"p int 1..9", "a p=", "form p a"},
		{"p int 1..9", "a p.q=5", "none p.q a"},
		{"p.q int 1..9", "a p=5", "none p a"},
		{"p.q int 1..9 must", "a p=5", "none p a, name p.q"},
		{"p.q int 1..9 must", "a p.q=5 | b p=5", "none p b, name p.q"},
		{"p int 1..9 must", "a p.q=5", "none p.q a, name p"},
		{"p int 1..9 must", "", "name p"},
		{"p int 1..9 must", "a p=~", "name p"},
		{"p int 1..9 must", "a p=5 | b p=~", "name p"},
		{"p int 1..9 must =5", "", "name p"},
		{"p int 1..9 =5", "", ""},
		{"p int 1..9 must =5", "a p=0", "range p a"},
		{"p int 1..9 must", "a p=x", "form p a"},
		{"p text 1..9 must", "a p=", "range p a"},
		{"p text 0..9 must", "a p=", ""},
		{"p text 0..9 must", "a p=x | b p=", ""},
		{"p bool", "a p=1", "form p a"},
		{"p choice low,high", "a p=mid", "form p a"},
		{"p span 0..9", "a p=1s", "range p a"},
		{"p span 0..9", "a p=9", "form p a"},
		{"b int 1..9 must | a int 1..9 must | c int 1..9", "z c=0 d=1 B=x", "none B z, range c z, none d z, name a, name b"},
		{"z int 1..9 must | a int 1..9", "l a=x b=1 | m y=2", "form a l, none b l, none y m, name z"},
		{"a.b int 1..9 must | a1 int 1..9 must | a.c int must", "", "name a.b, name a.c, name a1"},
		{"a.b int 1..9 | a1 int 1..9 | a.c int", "l a1=0 a.c=x a.b=10", "range a.b l, form a.c l, range a1 l"},
		{"p int 1..9", "a p=0 | b p=5", ""},
		{"p int 1..9", "b p=0 | a p=5", "range p b"},
		{"p int 1..9", "a^1 p=0 | b p=5", "range p a"},
	} {
		checkValidate(t, c.rules, c.layers, c.told)
	}
}

// ErrLong ahead of ErrBad, whichever argument it is.
func TestValidateAndLookupOfWrongArguments(t *testing.T) {
	rules, layers := rulesOf(t, "p int 1..9"), layersOf(t, "a p=x")
	badRules, badLayers := []impl.Rule{{Path: "p", Kind: 6}}, layersOf(t, "a p.=x")
	for _, c := range []struct {
		what   string
		rules  []impl.Rule
		layers []impl.Layer
		code   int
	}{
		{"bad rules", badRules, layers, impl.ErrBad}, {"bad layers", rules, badLayers, impl.ErrBad}, {"both bad", badRules, badLayers, impl.ErrBad}, {"bad rules, no layers", badRules, nil, impl.ErrBad}, {"bad layers, no rules", nil, badLayers, impl.ErrBad},
		{"rules too many", manyRules(101), layers, impl.ErrBad}, {"layers too many", rules, manyLayers(21), impl.ErrBad}, {"rules as many as can be in a list", manyRules(4096), layers, impl.ErrBad}, {"layers likewise", rules, manyLayers(4096), impl.ErrBad},
		{"rules too long", manyRules(4097), layers, impl.ErrLong}, {"layers too long", rules, manyLayers(4097), impl.ErrLong}, {"rules too long, bad layers", manyRules(4097), badLayers, impl.ErrLong}, {"layers too long, bad rules", badRules, manyLayers(4097), impl.ErrLong},
		{"both too long", manyRules(4097), manyLayers(4097), impl.ErrLong}, {"rules of nothing too long", make([]impl.Rule, 4097), nil, impl.ErrLong}, {"layers of nothing too long", nil, make([]impl.Layer, 4097), impl.ErrLong},
	} {
		if list, code := impl.Validate(c.rules, c.layers); code != c.code || len(list) > 0 {
			t.Errorf("%s: Validate %s %d, not %d", c.what, toldFaults(list), code, c.code)
		}
		for _, path := range []string{"p", "", "nope", "p..", "\xff", strings.Repeat("p", 65536)} {
			if got := lookup(c.rules, c.layers, path); got != (lookedUp{code: c.code}) {
				t.Errorf("%s: Lookup of %q: %s, not %d", c.what, clipped(path), toldLookup(got), c.code)
			}
		}
		for _, path := range []string{tooLong, strings.Repeat(".", 65537), strings.Repeat("\xff", 10*millions)} {
			if got := lookup(c.rules, c.layers, path); got != (lookedUp{code: impl.ErrLong}) {
				t.Errorf("%s: Lookup of a long path: %s", c.what, toldLookup(got))
			}
		}
	}
}

func TestLookup(t *testing.T) {
	for _, c := range []struct{ rules, layers, path, told string }{
		{"", "", "p", "none 0 @"},
		{"", "a p=1", "p", "none 0 @"},
		{"p int 1..9", "a q=1", "q", "none 0 @"},
		{"p int 1..9", "a p=1", "P", "none 0 @"},
		{"p.q int 1..9 =5", "a p=1", "p", "none 0 @"},
		{"p int 1..9 =5", "a p.q=1", "p.q", "none 0 @"},
		{"p int 1..9", "a p=5", "p", "5 5@a"},
		{"p int 1..9", "a p=x", "p", "form 0 @"},
		{"p int 1..9", "a p=10", "p", "range 0 @"},
		{"p int 1..9 =7", "a p=x", "p", "form 0 @"},
		{"p int 1..9 =7", "a p=0", "p", "range 0 @"},
		{"p int 1..9", "", "p", "name 0 @"},
		{"p int 1..9 must", "", "p", "name 0 @"},
		{"p int 1..9 =7", "", "p", "7 7@"},
		{"p int 1..9 must =7", "", "p", "7 7@"},
		{"p int 1..9 =7", "a p=~", "p", "7 7@"},
		{"p int 1..9 =7", "a p=5 | b p=~", "p", "7 7@"},
		{"p int 1..9 =7", "a p=5 | b p.q=1", "p", "7 7@"},
		{"p.q int 1..9 =7", "a p.q=5 | b p=1", "p.q", "7 7@"},
		{"p int 1..9", "a p=5 | b p.q=~", "p", "name 0 @"},
		{"p int 1..9", "a p=5 | b p=6", "p", "6 6@b"},
		{"p int 1..9", "a^1 p=5 | b p=6", "p", "5 5@a"},
		{"p int -9..9", "a p=-9", "p", "-9 -9@a"},
		{"p bool =yes", "", "p", "1 yes@"},
		{"p bool =yes", "a p=no", "p", "0 no@a"},
		{"p bool =no", "", "p", "0 no@"},
		{"p text 0..9", "a p=", "p", "0 @a"},
		{"p text 0..9 =abc", "a p=", "p", "0 @a"},
		{"p text 0..9 =abc", "", "p", "3 abc@"},
		{"p text 1..9 =abc", "a p=", "p", "range 0 @"},
		{"p text 0..9", "", "p", "name 0 @"},
		{"p text 0..9", "a p=é", "p", "2 é@a"},
		{"p choice low,high,low =high", "", "p", "1 high@"},
		{"p choice low,high,low", "a p=low", "p", "0 low@a"},
		{"p choice low,high,low", "a p=mid", "p", "form 0 @"},
		{"p choice low,,high", "a p=", "p", "1 @a"},
		{"p choice low,,high", "", "p", "name 0 @"},
		{"p int 1..9", "a p=", "p", "form 0 @"},
		{"p span 0..60000 =1m", "", "p", "60000 1m@"},
		{"p span 0..60000 =1m", "a p=30s", "p", "30000 30s@a"},
		{"p span 0..60000 =1m", "a p=61s", "p", "range 0 @"},
		{"p span 0..60000 =1m", "a p=30", "p", "form 0 @"},
		{"p.q int 1..9 | p.r bool =yes | q text 0..9", "a p.q=5 q=x | b p.r=~ zz=1", "p.r", "1 yes@"},
		{"p.q int 1..9 | p.r bool =yes | q text 0..9", "a p.q=5 q=x | b p.r=~ zz=1", "q", "1 x@a"},
		{"p.q int 1..9 | p.r bool =yes | q text 0..9", "a p.q=5 q=x | b p.r=~ zz=1", "zz", "none 0 @"},
	} {
		rules, layers := rulesOf(t, c.rules), layersOf(t, c.layers)
		got := lookup(rules, layers, c.path)
		if told := toldLookup(got); told != c.told {
			t.Errorf("%s\n%s: %s: %s, not %s", showRules(rules), showLayers(layers), c.path, told, c.told)
		}
		if second := wantLookup(rules, layers, c.path); second != got {
			t.Errorf("%s\n%s: %s: the second telling: %s", showRules(rules), showLayers(layers), c.path, toldLookup(second))
		}
	}
}

// A path that is none is one that no rule has.
func TestLookupOfAnyPath(t *testing.T) {
	rules, layers := rulesOf(t, "p int 1..9 =5 | q.r bool"), layersOf(t, "a q.r=no")
	for _, path := range []string{"", ".", "p.", ".p", "q", "q.", "q.r.s", "q..r", "P", "p ", " p", "q.r\n", "when", "\xff", strings.Repeat("p", 41), longText, strings.Repeat(".", 65536)} {
		if got := lookup(rules, layers, path); got != (lookedUp{code: impl.ErrNone}) {
			t.Errorf("%q: %s", clipped(path), toldLookup(got))
		}
	}
}
