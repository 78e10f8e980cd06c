package tests

import (
	"slices"
	"strconv"
	"strings"
	"testing"

	"loop.example/g00045/impl"
)

func TestLimitsOfChapter8(t *testing.T) {
	if impl.MaxActs != 300 || impl.MaxInsts != 1000 {
		t.Errorf("limits %d, %d", impl.MaxActs, impl.MaxInsts)
	}
	if impl.AcOpen != 1 || impl.AcGet != 2 || impl.AcForce != 3 || impl.AcShut != 4 || impl.AcBreak != 5 || impl.AcMend != 6 {
		t.Error("kinds of acts")
	}
	if impl.LvOpen != 1 || impl.LvMade != 2 || impl.LvGone != 3 || impl.LvShut != 4 {
		t.Error("kinds of events")
	}
}

// checkLive: the replies and events of acts, whatever the order of the bindings; what is there is told by the events, as P8 says.
func checkLive(t *testing.T, bindings, flags, acts, replies, events string) {
	t.Helper()
	everyOrder(bindingsOf(t, bindings), func(list []impl.Binding) {
		x := impl.Live(list, flagsOf(flags), actsOf(t, acts))
		what := showGiven(list, flagsOf(flags), actsOf(t, acts))
		if got := showReplies(x.Replies); x.Code != impl.OK || got != replies {
			t.Errorf("%s\nreplies %s, not\n%s", what, toldOr(x.Code, got), replies)
		}
		if got := showLives(x.Events); got != events {
			t.Errorf("%s\nevents %s, not\n%s", what, got, events)
		}
		checkP8(t, list, flagsOf(flags), actsOf(t, acts), x)
		checkSameLife(t, list, flagsOf(flags), actsOf(t, acts), wantLive(list, flagsOf(flags), actsOf(t, acts)))
	})
}

// checkLiveCode: Live answers that code and nothing else.
func checkLiveCode(t *testing.T, what string, list []impl.Binding, flags []string, acts []impl.Act, want int) {
	t.Helper()
	x := impl.Live(list, flags, acts)
	if x.Code != want || len(x.Replies)+len(x.Events)+len(x.Alive) > 0 {
		t.Errorf("%s: Live: code %d, %d replies, %d events, %d there, not code %d", what, x.Code, len(x.Replies), len(x.Events), len(x.Alive), want)
	}
}

func TestLiveOfWrongBindings(t *testing.T) {
	acts := actsOf(t, "open 0; get 0 +k; shut 0; kind 9")
	for what, list := range map[string][]impl.Binding{
		"no name":    {{Key: "k", Scope: 1}},
		"no key":     {{Name: "a", Scope: 1}},
		"no scope":   {{Name: "a", Key: "k"}},
		"scope 4":    {{Name: "a", Key: "k", Scope: 4}},
		"a bad tag":  {{Name: "a", Key: "k", Tag: "1", Scope: 1}},
		"a bad when": {{Name: "a", Key: "k", When: "!", Scope: 1}},
		"a bad need": {{Name: "a", Key: "k", Scope: 1, Needs: []impl.Want{{Key: "k"}}}},
		"twice":      bindingsOf(t, "a:k | a:j"),
		"61":         manyBindings(61),
		"nine needs": {{Name: "a", Key: "k", Scope: 1, Needs: manyWants(9)}},
		"not active": {{Name: "a", Key: "k", Scope: 1, When: "f"}, {Name: "1", Key: "k", Scope: 1, When: "f"}},
	} {
		for _, some := range [][]impl.Act{nil, acts, repeated(300, acts[1]), repeated(301, acts[1]), repeated(4096, acts[0])} {
			checkLiveCode(t, what, list, nil, some, impl.ErrBad)
			checkLiveCode(t, what, list, []string{"f", "!"}, some, impl.ErrBad)
		}
		for _, w := range []impl.Want{{Key: "k", Mode: 1}, {Key: "k", Mode: 3}, {}, {Key: "nope", Mode: 2}} {
			if names, code := impl.Plan(list, nil, w); code != impl.ErrBad || len(names) > 0 {
				t.Errorf("%s: Plan: %v %d", what, names, code)
			}
		}
	}
}

func TestLiveHowManyActs(t *testing.T) {
	list := bindingsOf(t, "a:k 1")
	for _, count := range []int{0, 1, 299, 300} {
		x := impl.Live(list, nil, repeated(count, impl.Act{Kind: impl.AcGet, Want: impl.Want{Key: "k", Mode: 1}}))
		if x.Code != impl.OK || len(x.Replies) != count || len(x.Events) != min(1, count) || len(x.Alive) != min(1, count) {
			t.Errorf("%d acts: %s", count, showLife(x))
		}
		for i, r := range x.Replies {
			if r.Code != impl.OK || !slices.Equal(r.Insts, []int{1}) {
				t.Errorf("%d acts: reply %d: %v", count, i, r)
			}
		}
	}
	for _, act := range []impl.Act{{}, {Kind: impl.AcOpen}, {Kind: impl.AcShut}, {Kind: -1}} {
		for _, count := range []int{301, 302, 4095, 4096} {
			checkLiveCode(t, strconv.Itoa(count)+" acts", list, nil, repeated(count, act), impl.ErrMany)
			checkLiveCode(t, strconv.Itoa(count)+" acts of no bindings", nil, nil, repeated(count, act), impl.ErrMany)
		}
	}
}

// Rule 8: a list too long comes ahead of all other codes.
func TestLiveOfLongLists(t *testing.T) {
	right, bad := bindingsOf(t, "a:k"), []impl.Binding{{Name: "1"}}
	flags := repeated(impl.MaxList+1, "f")
	long := repeated(impl.MaxList+1, impl.Act{Kind: impl.AcGet, Want: impl.Want{Key: "k", Mode: 1}})
	for _, list := range [][]impl.Binding{nil, right, bad} {
		checkLiveCode(t, "acts too many", list, nil, long, impl.ErrLong)
		checkLiveCode(t, "flags too many", list, flags, long[:1], impl.ErrLong)
		checkLiveCode(t, "flags too many, many acts", list, flags, long[:301], impl.ErrLong)
		checkLiveCode(t, "flags and acts too many", list, flags, long, impl.ErrLong)
	}
	checkLiveCode(t, "bindings too many", manyBindings(4097), nil, nil, impl.ErrLong)
	checkLiveCode(t, "bindings too many, many acts", manyBindings(4097), nil, long[:301], impl.ErrLong)
	checkLiveCode(t, "bad bindings too many", repeated(4097, bad[0]), nil, long[:1], impl.ErrLong)
	checkLiveCode(t, "a million acts", right, nil, make([]impl.Act, 1000000), impl.ErrLong)
	checkLiveCode(t, "bad bindings, many acts", bad, flags[:4096], long[:4096], impl.ErrBad)
	checkLiveCode(t, "right bindings, many acts", right, flags[:4096], long[:4096], impl.ErrMany)
	for _, w := range []impl.Want{{Key: "k", Mode: 1}, {}, {Key: tooLong, Mode: 1}} {
		for _, c := range []struct {
			list  []impl.Binding
			flags []string
		}{{right, flags}, {nil, flags}, {bad, flags}, {manyBindings(4097), nil}, {manyBindings(4097), flags}} {
			if names, code := impl.Plan(c.list, c.flags, w); code != impl.ErrLong || len(names) > 0 {
				t.Errorf("%d bindings, %d flags: Plan: %v %d", len(c.list), len(c.flags), names, code)
			}
		}
	}
}

func TestLiveOfNothing(t *testing.T) {
	checkLive(t, "", "", "", "", "")
	checkLive(t, "", "f", "open 0; shut 1; shut 0", "1 ok ok", "<1 >1 >0")
	checkLive(t, "", "", "get 0 +k; get 0 ?k; get 0 *k; get 0 ~k; force 1 0; break a; mend a", "none ok ok none none none none", "")
	checkLive(t, "a:k 1", "", "", "", "")
}

func TestLiveOfKinds(t *testing.T) {
	checkLive(t, "a:k", "", "kind 0; kind 7; kind -1; kind 8; kind 4294967297; kind -9223372036854775808; kind 9223372036854775807", "kind kind kind kind kind kind kind", "")
	checkLive(t, "a:k", "", "open 0; get 1 +k; shut 1; break a; mend a; get 0 +k; force 2 0", "1 1 ok ok ok 2 none", "<1 1=a@1 -1=a@1 >1 2=a@0")
	for _, kind := range anyNumbers {
		if 1 <= kind && kind <= 6 {
			continue
		}
		x := impl.Live(bindingsOf(t, "a:k 1"), nil, []impl.Act{{Kind: impl.AcShut}, {Kind: kind, Scope: 5, Inst: -1, Lazy: -1, Name: "nope"}, {Kind: kind, Want: impl.Want{Key: "k", Mode: 1}, Name: "a"}})
		if got := showReplies(x.Replies); got != "ok kind kind" || showLives(x.Events) != ">0" {
			t.Errorf("kind %d: %s", kind, showLife(x))
		}
	}
}

// What an act does not ask for is not looked at.
func TestLiveOfFieldsThatAreNotAsked(t *testing.T) {
	list := bindingsOf(t, "a:k 1 ~j | b:j")
	want := impl.Want{Key: "k", Mode: impl.WantOne}
	wrong := impl.Want{Key: tooLong, Tag: tooLong, Mode: -1 << 63}
	acts := []impl.Act{
		{Kind: impl.AcOpen, Scope: 0, Want: wrong, Inst: -5, Lazy: 1 << 62, Name: tooLong},
		{Kind: impl.AcGet, Scope: 1, Want: want, Inst: -5, Lazy: 1 << 62, Name: tooLong},
		{Kind: impl.AcForce, Scope: -7, Want: wrong, Inst: 1, Lazy: 0, Name: "nope"},
		{Kind: impl.AcBreak, Scope: -7, Want: wrong, Inst: 99, Lazy: -1, Name: "b"},
		{Kind: impl.AcMend, Scope: 1 << 62, Want: wrong, Inst: 99, Lazy: -1, Name: "b"},
		{Kind: impl.AcShut, Scope: 1, Want: wrong, Inst: 1, Lazy: -1, Name: "nope"},
	}
	x := impl.Live(list, nil, acts)
	if got := showLife(x); got != "ok 1 1 2 ok ok ok; <1 1=a@0 2=b@0 >1; 1,2" {
		t.Error(got)
	}
}

func TestLiveOfScopes(t *testing.T) {
	for _, kind := range []string{"open", "shut"} {
		for _, number := range append([]int{3, -5}, anyNumbers...) {
			if number == 0 {
				continue
			}
			checkLive(t, "a:k", "", kind+" "+strconv.Itoa(number), "none", "")
			checkLive(t, "a:k", "", "shut 0; "+kind+" "+strconv.Itoa(number), "ok none", ">0")
		}
	}
	for _, number := range append([]int{3, -5}, anyNumbers...) {
		if number == 0 {
			continue
		}
		for _, want := range []string{" +k", " *k", " ?nope", " +nope"} {
			checkLive(t, "a:k", "", "get "+strconv.Itoa(number)+want, "none", "")
		}
	}
	checkLive(t, "a:k", "", "open 0; open 1; open 0; open 2; open 4", "1 2 3 4 5", "<1 <2 <3 <4 <5")
	checkLive(t, "a:k", "", "open 0; open 2; open 1; open 0", "1 none 2 3", "<1 <2 <3")
	checkLive(t, "a:k", "", "shut 0; open 0; get 0 +k; shut 0; get 0 +nope; get 0 *nope", "ok state state state state state", ">0")
	checkLive(t, "a:k", "", "open 0; shut 1; open 1; get 1 +k; shut 1; get 1 +nope; open 0; get 2 +k", "1 ok state state state state 2 1", "<1 >1 <2 1=a@2")
	checkLive(t, "a:k", "", "open 0; open 1; shut 0; open 2; get 1 ?nope; shut 2; open 3", "1 2 ok state state state none", "<1 <2 >2 >1 >0")
}

// A shut scope, and one that is none, come ahead of a want that is not right.
func TestGetOfWrongWants(t *testing.T) {
	list := bindingsOf(t, "a:k 1 | b:k.t 2")
	for _, w := range []impl.Want{{}, {Key: "k"}, {Key: "k", Mode: 5}, {Key: "k", Mode: -1 << 63}, {Key: "1", Mode: 1}, {Mode: 3}, {Key: "k", Tag: "!", Mode: 2}, {Key: "nope", Tag: " ", Mode: 4}, {Key: longText, Mode: 1}, {Key: tooLong, Mode: 1}, {Key: "k", Tag: tooLong, Mode: 1}} {
		x := impl.Live(list, nil, []impl.Act{{Kind: impl.AcOpen}, {Kind: impl.AcGet, Want: w}, {Kind: impl.AcGet, Scope: 1, Want: w}, {Kind: impl.AcGet, Scope: 2, Want: w}, {Kind: impl.AcGet, Scope: -1, Want: w},
			{Kind: impl.AcShut, Scope: 1}, {Kind: impl.AcGet, Scope: 1, Want: w}, {Kind: impl.AcGet, Want: w}, {Kind: impl.AcShut}, {Kind: impl.AcGet, Want: w}})
		if got := showReplies(x.Replies); got != "1 bad bad none none ok state bad ok state" || showLives(x.Events) != "<1 >1 >0" {
			t.Errorf("%s: %s", showWant(w), showLife(x))
		}
		if names, code := impl.Plan(list, nil, w); code != impl.ErrBad || len(names) > 0 {
			t.Errorf("%s: Plan: %v %d", showWant(w), names, code)
		}
	}
}

func TestGetOfModes(t *testing.T) {
	for _, sign := range []string{"+", "?", "~"} {
		checkLive(t, "a:k", "", "get 0 "+sign+"k", "1", "1=a@0")
		checkLive(t, "a:k | b:k ^1", "", "get 0 "+sign+"k; get 0 "+sign+"k", "1 2", "1=b@0 2=b@0")
		checkLive(t, "a:k | b:k", "", "get 0 "+sign+"k", "twice", "")
		checkLive(t, "a:k.t | b:k", "", "get 0 "+sign+"k.t; get 0 "+sign+"k", "1 2", "1=a@0 2=b@0")
		checkLive(t, "a:k if=f ^1 | b:k if=!f ^1", "f", "get 0 "+sign+"k", "1", "1=a@0")
		checkLive(t, "a:k if=f ^1 | b:k if=!f ^1", "", "get 0 "+sign+"k", "1", "1=b@0")
	}
	for _, sign := range []string{"+", "~"} {
		checkLive(t, "a:k | w:j wraps", "", "get 0 "+sign+"nope; get 0 "+sign+"k.t; get 0 "+sign+"j", "none none none", "")
		checkLive(t, "a:k if=f", "", "get 0 "+sign+"k", "none", "")
	}
	checkLive(t, "a:k | w:j wraps", "", "get 0 ?nope; get 0 ?k.t; get 0 ?j; get 0 *nope; get 0 *k.t; get 0 *j", "ok ok ok ok ok ok", "")
	checkLive(t, "a:k | b:k ^1 | c:k.t ^1 | d:j", "", "get 0 *k; get 0 *k.t; get 0 *j", "1,2,3 4 5", "1=b@0 2=c@0 3=a@0 4=c@0 5=d@0")
	checkLive(t, "a:k 1 | b:k 2 ^1 | c:k 3 ^2", "", "get 0 *k; get 0 *k; open 0; get 1 *k", "1,2,3 4,2,3 1 5,6,3", "1=c@0 2=b@0 3=a@0 4=c@0 <1 5=c@1 6=b@1")
}

func TestBreakAndMend(t *testing.T) {
	checkLive(t, "a:k", "", "break b; mend b; break k; mend k; break A; mend aa", "none none none none none none", "")
	checkLive(t, "a:k", "", "break a; break a; get 0 +k; mend a; get 0 +k; mend a; get 0 +k", "ok ok fail ok 1 ok 2", "1=a@0 2=a@0")
	checkLive(t, "a:k", "", "mend a; mend a; get 0 +k; break a; get 0 +k; break a; mend a; mend a; get 0 +k", "ok ok 1 ok fail ok ok ok 2", "1=a@0 2=a@0")
	checkLive(t, "a:k if=f | b:k", "", "break a; get 0 +k; mend a; break b; get 0 +k", "ok 1 ok ok fail", "1=b@0")
	checkLive(t, "a:k | b:j", "", "break a; get 0 +j; break b; get 0 +j; mend a; get 0 +j; get 0 +k", "ok 1 ok fail ok fail 2", "1=b@0 2=a@0")
	checkLive(t, "a:k 1", "", "get 0 +k; break a; get 0 +k; open 0; get 1 +k", "1 ok 1 1 1", "1=a@0 <1")
	checkLive(t, "a:k", "", "shut 0; break a; mend a; mend b", "ok ok ok none", ">0")
	list := bindingsOf(t, "a:k")
	for _, name := range append(notNames(), tooLong, strings.Repeat("\xff", 1<<24)) {
		x := impl.Live(list, nil, []impl.Act{{Kind: impl.AcBreak, Name: name}, {Kind: impl.AcMend, Name: name}, {Kind: impl.AcGet, Want: impl.Want{Key: "k", Mode: 1}}})
		if got := showReplies(x.Replies); got != "none none 1" {
			t.Errorf("%q: %s", clipped(name), got)
		}
	}
}

func TestShut(t *testing.T) {
	checkLive(t, "a:k 2 | s:j 1", "", "get 0 +k; get 0 +j; shut 0", "1 2 ok", "1=a@0 2=s@0 -2=s@0 -1=a@0 >0")
	checkLive(t, "a:k 2", "", "open 0; get 0 +k; get 1 +k; shut 1; get 0 +k; shut 0", "1 1 2 ok 1 ok", "<1 1=a@0 2=a@1 -2=a@1 >1 -1=a@0 >0")
	checkLive(t, "a:k 2", "", "open 0; open 0; open 1; open 2; open 1; shut 0", "1 2 3 4 5 ok", "<1 <2 <3 <4 <5 >4 >2 >5 >3 >1 >0")
	checkLive(t, "a:k 2", "", "open 0; open 1; open 1; open 2; get 4 +k; get 2 +k; get 3 +k; get 1 +k; get 0 +k; shut 1; get 0 +k; open 0", "1 2 3 4 1 2 3 4 5 ok 5 5",
		"<1 <2 <3 <4 1=a@4 2=a@2 3=a@3 4=a@1 5=a@0 -3=a@3 >3 -1=a@4 >4 -2=a@2 >2 -4=a@1 >1 <5")
	checkLive(t, "a:k", "", "open 0; open 0; open 0; get 1 +k; get 3 +k; get 2 +k; get 1 +k; shut 2; shut 0", "1 2 3 1 2 3 4 ok ok",
		"<1 <2 <3 1=a@1 2=a@3 3=a@2 4=a@1 -3=a@2 >2 -2=a@3 >3 -4=a@1 -1=a@1 >1 >0")
	checkLive(t, "a:k", "", "open 0; open 1; shut 1; shut 2; shut 1; shut 0; shut 0", "1 2 ok state state ok state", "<1 <2 >2 >1 >0")
	checkLive(t, "a:k 2 +j | b:j | w:k wraps", "", "open 0; get 1 +k; get 1 +j; shut 1", "1 3 4 ok", "<1 1=b@1 2=a@1(1) 3=w@1(2) 4=b@1 -4=b@1 -3=w@1 -2=a@1 -1=b@1 >1")
}

// Scopes within one another, as many as acts can open.
func TestShutOfManyScopes(t *testing.T) {
	var acts []impl.Act
	for i := range 149 {
		acts = append(acts, impl.Act{Kind: impl.AcOpen, Scope: i}, impl.Act{Kind: impl.AcGet, Scope: i + 1, Want: impl.Want{Key: "k", Mode: 1}})
	}
	acts = append(acts, impl.Act{Kind: impl.AcShut, Scope: 1}, impl.Act{Kind: impl.AcShut})
	list := bindingsOf(t, "a:k 2")
	x := impl.Live(list, nil, acts)
	checkSameLife(t, list, nil, acts, wantLive(list, nil, acts))
	checkP8(t, list, nil, acts, x)
	if len(x.Events) != 4*149+1 || len(x.Alive) > 0 || x.Events[2*149].Inst != 149 || x.Events[2*149+1].Scope != 149 {
		t.Errorf("%d events, %d there", len(x.Events), len(x.Alive))
	}
}
