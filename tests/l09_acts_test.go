package tests

import (
	"reflect"
	"strconv"
	"strings"
	"testing"

	"loop.example/g00045/impl"
)

func tidyPlugLog(x impl.PlugLog) impl.PlugLog {
	x.Replies, x.Plugs, x.Used = tidyList(x.Replies), tidyList(x.Plugs), tidyList(x.Used)
	for i := range x.Replies {
		x.Replies[i].Insts = tidyList(x.Replies[i].Insts)
	}
	return x
}

func checkSamePlugs(t *testing.T, offers []impl.Offer, acts []impl.PlugAct, want impl.PlugLog) {
	t.Helper()
	if got := impl.RunPlugins(offers, acts); !reflect.DeepEqual(tidyPlugLog(got), tidyPlugLog(want)) {
		t.Fatalf("%s\n%s, not\n%s", showPlugs(offers, acts), toldPlugLog(got), toldPlugLog(want))
	}
}

// checkPlugs: the replies, the plugs and what is used, whatever the order of the offers.
func checkPlugs(t *testing.T, offers, acts, replies, plugs, used string) {
	t.Helper()
	list := plugActsOf(t, acts)
	orders(offersOf(t, offers), func(turned []impl.Offer) {
		x := impl.RunPlugins(turned, list)
		what := showPlugs(turned, list)
		if got := showReplies(x.Replies); x.Code != impl.OK || got != replies {
			t.Errorf("%s\nreplies %s, not\n%s", what, toldOr(x.Code, got), replies)
		}
		if got := toldPlugs(x.Plugs); got != plugs {
			t.Errorf("%s\nplugs %s, not %s", what, got, plugs)
		}
		if got := toldUsed(x.Used); got != used {
			t.Errorf("%s\nused %s, not %s", what, got, used)
		}
		checkSamePlugs(t, turned, list, wantPlugLog(turned, list))
		checkP10(t, turned, list, x)
	})
}

// checkPlugCode: RunPlugins answers that code and nothing else.
func checkPlugCode(t *testing.T, what string, offers []impl.Offer, acts []impl.PlugAct, want int) {
	t.Helper()
	x := impl.RunPlugins(offers, acts)
	if x.Code != want || len(x.Replies)+len(x.Plugs)+len(x.Used) > 0 {
		t.Errorf("%s: code %d, %d replies, %d plugs, %d used, not code %d", what, x.Code, len(x.Replies), len(x.Plugs), len(x.Used), want)
	}
}

func TestRunPluginsHowManyActs(t *testing.T) {
	right := offersOf(t, "io1:1000")
	acts := append(plugActsOf(t, "load p1 io"), repeated(5000, impl.PlugAct{Kind: impl.PlBegin, Name: "p", Right: "io", Cost: 1})...)
	for _, count := range []int{0, 1, 2, 299, 300} {
		x := impl.RunPlugins(right, acts[:count])
		if x.Code != impl.OK || len(x.Replies) != count || len(x.Plugs) != min(1, count) || len(x.Used) != min(1, count/2) {
			t.Errorf("%d acts: %s", count, toldPlugLog(x))
		}
		for i, r := range x.Replies {
			if i > 0 && (r.Code != impl.OK || len(r.Insts) != 1 || r.Insts[0] != i) {
				t.Errorf("%d acts: reply %d: %v", count, i, r)
			}
		}
	}
	for _, offers := range [][]impl.Offer{nil, right, manyOffers(40, true)} {
		for _, count := range []int{301, 302, 4095, 4096} {
			checkPlugCode(t, strconv.Itoa(count)+" acts", offers, acts[:count], impl.ErrMany)
			checkPlugCode(t, strconv.Itoa(count)+" acts of no kind", offers, make([]impl.PlugAct, count), impl.ErrMany)
		}
		checkPlugCode(t, "acts too many", offers, acts[:4097], impl.ErrLong)
		checkPlugCode(t, "a million acts", offers, make([]impl.PlugAct, 1000000), impl.ErrLong)
	}
	for what, offers := range map[string][]impl.Offer{"a wrong one": {{Right: "io", Version: 1, Limit: -1}}, "of nothing": {{}}, "41": manyOffers(41, false), "4096": manyOffers(4096, false), "twice": offersOf(t, "io1:1 io1:1")} {
		for _, count := range []int{0, 1, 300, 301, 4096} {
			checkPlugCode(t, what+": "+strconv.Itoa(count)+" acts", offers, acts[:count], impl.ErrBad)
		}
		checkPlugCode(t, what+": acts too many", offers, acts[:4097], impl.ErrLong)
	}
	for _, offers := range [][]impl.Offer{manyOffers(4097, false), make([]impl.Offer, 4097), make([]impl.Offer, 1000000)} {
		for _, count := range []int{0, 1, 301, 4096, 4097} {
			checkPlugCode(t, "offers too many: "+strconv.Itoa(count)+" acts", offers, acts[:count], impl.ErrLong)
		}
	}
}

func TestRunPluginsOfNothing(t *testing.T) {
	checkPlugs(t, "", "", "", "", "")
	checkPlugs(t, "io1:5", "", "", "", "")
	checkPlugs(t, "", "load p1; load q1 io; begin p io 0; swap p2; drop p; end 1; back q", "ok right right ok ok none none", "", "")
}

func TestPlugsOfNoKind(t *testing.T) {
	checkPlugs(t, "io1:5", "load p1 io; kind 0; kind 7; kind -1; kind 8; kind 4294967297; kind -9223372036854775808; kind 9223372036854775807; begin p io 5", "ok kind kind kind kind kind kind kind 1", "p1:1/0=0", "io@1=5")
	for _, kind := range append([]int{7, 8, -7}, anyNumbers...) {
		if 1 <= kind && kind <= 6 {
			continue
		}
		acts := plugActsOf(t, "load p1 io; begin p io 1")
		acts = append(acts, impl.PlugAct{Kind: kind, Name: "p", Version: 2, Right: "io", Call: 1}, impl.PlugAct{Kind: kind, Name: tooLong, Version: -1, Asks: manyNeeds(21), Right: tooLong, Cost: -1, Call: -1})
		if x := impl.RunPlugins(offersOf(t, "io1:5"), acts); toldPlugLog(x) != "ok ok 1 kind kind; p1:1/0=0; io@1=1" {
			t.Errorf("kind %d: %s", kind, toldPlugLog(x))
		}
	}
}

// What an act does not ask for is not looked at.
func TestPlugFieldsThatAreNotAsked(t *testing.T) {
	acts := plugActsOf(t, "load p1 io; begin p io 1; swap p2 io; begin p io 1; back p; end 1; end 2; drop p")
	for i := range acts {
		a := &acts[i]
		wrong := impl.PlugAct{Kind: a.Kind, Name: tooLong, Version: -1 << 63, Asks: manyNeeds(21), Right: tooLong, Cost: -1, Call: 1<<63 - 1}
		switch a.Kind {
		case impl.PlLoad, impl.PlSwap:
			wrong.Name, wrong.Version, wrong.Asks = a.Name, a.Version, a.Asks
		case impl.PlBegin:
			wrong.Name, wrong.Right, wrong.Cost = a.Name, a.Right, a.Cost
		case impl.PlEnd:
			wrong.Call = a.Call
		default:
			wrong.Name = a.Name
		}
		*a = wrong
	}
	if x := impl.RunPlugins(offersOf(t, "io1:5"), acts); toldPlugLog(x) != "ok ok 1 ok 2 ok ok ok ok; ; io@1=2" {
		t.Error(toldPlugLog(x))
	}
}

// checkPut: the code of a load or a swap of p, where p is at work, where p is not, and where one drains, too.
func checkPut(t *testing.T, what string, act impl.PlugAct, loads, swaps, idleSwap, drainSwap int) {
	t.Helper()
	offers := offersOf(t, "io1:9 net2:0")
	for _, c := range []struct {
		acts string
		kind int
		want int
	}{
		{"", impl.PlLoad, loads}, {"load p1 io; drop p", impl.PlLoad, loads}, {"load q1 io", impl.PlLoad, loads},
		{"load p1 io", impl.PlSwap, swaps}, {"load p1 io; begin p io 1", impl.PlSwap, swaps}, {"load p1; swap p2", impl.PlSwap, swaps},
		{"", impl.PlSwap, idleSwap}, {"load p1; drop p", impl.PlSwap, idleSwap}, {"load q1", impl.PlSwap, idleSwap},
		{"load p1 io; begin p io 1; swap p2 io", impl.PlSwap, drainSwap},
	} {
		list := plugActsOf(t, c.acts)
		ahead := impl.RunPlugins(offers, list)
		act.Kind = c.kind
		x := impl.RunPlugins(offers, append(list, act))
		if last := x.Replies[len(list)]; last.Code != c.want || len(last.Insts) > 0 {
			t.Errorf("%s: %s; %s: %v, not %d", what, c.acts, showPlugAct(act), last, c.want)
		}
		if c.want != impl.OK && (toldPlugs(x.Plugs) != toldPlugs(ahead.Plugs) || toldUsed(x.Used) != toldUsed(ahead.Used)) {
			t.Errorf("%s: %s; %s: %s, not %s", what, c.acts, showPlugAct(act), toldPlugLog(x), toldPlugLog(ahead))
		}
	}
}

func TestPlugLoadAndSwapCodes(t *testing.T) {
	right := impl.PlugAct{Name: "p", Version: 7}
	allBad := func(what string, act impl.PlugAct) {
		t.Helper()
		checkPut(t, what, act, impl.ErrBad, impl.ErrBad, impl.ErrBad, impl.ErrBad)
	}
	fine := func(what string, act impl.PlugAct) {
		t.Helper()
		checkPut(t, what, act, impl.OK, impl.OK, impl.ErrNone, impl.ErrState)
	}
	for _, asks := range []string{"", "io", "net", "io net", "net2-2 io1-1"} {
		act := right
		act.Asks = needsOf(t, asks)
		fine(asks, act)
		for _, name := range append(notNames(), longText, tooLong) {
			act.Name = name
			allBad("name "+strconv.Quote(clipped(name)), act)
		}
	}
	for _, version := range rightVersions {
		fine("version", impl.PlugAct{Name: "p", Version: version})
	}
	for _, version := range wrongVersions {
		allBad("version", impl.PlugAct{Name: "p", Version: version})
	}
	for what, asks := range wrongAsks() {
		allBad(what, impl.PlugAct{Name: "p", Version: 1, Asks: asks})
	}
	allBad("4097 asks", impl.PlugAct{Name: "p", Version: 1, Asks: manyNeeds(4097)})
	for _, asks := range []string{"io2", "net1-1", "nope", "io nope", "nope io net", "net3 io", "IO"} {
		checkPut(t, asks, impl.PlugAct{Name: "p", Version: 1, Asks: needsOf(t, asks)}, impl.ErrRight, impl.ErrRight, impl.ErrNone, impl.ErrState)
	}
	for _, name := range rightNames {
		x := impl.RunPlugins(nil, []impl.PlugAct{{Kind: impl.PlLoad, Name: name, Version: 5}, {Kind: impl.PlSwap, Name: name, Version: 6}})
		if toldPlugLog(x) != "ok ok ok; "+name+"6:0/0=0; " {
			t.Errorf("%s: %s", name, toldPlugLog(x))
		}
	}
}

func TestPlugLoad(t *testing.T) {
	checkPlugs(t, "io1:5", "load p1 io; load p1 io; load p2; load p2 nope; load q2; load B3; load p0", "ok twice twice twice ok ok bad", "B3:0/0=0 p1:0/0=0 q2:0/0=0", "")
	checkPlugs(t, "io1:5", "load p1 io; begin p io 1; swap p2 io; load p3; load p3 nope", "ok 1 ok twice twice", "p1:1/0=0~ p2:0/0=0", "io@1=1")
	checkPlugs(t, "io1:5", "load p1 nope; load p2 io; begin p io 1", "right ok 1", "p2:1/0=0", "io@1=1")
	checkPlugs(t, "io1:5 io2:7 io3:9", "load p1 io1-2; load q1 io2-3; load r1 io1-1; begin p io 1; begin q io 2; begin r io 3", "ok ok ok 1 2 3", "p1:1/0=0 q1:1/0=0 r1:1/0=0", "io@1=3 io@2=1 io@3=2")
}

func TestPlugDropAndLoadAgain(t *testing.T) {
	checkPlugs(t, "io1:9", "load p1 io; begin p io 4; end 1; drop p; load p1 io; begin p io 6; begin p io 5; end 1; end 2", "ok 1 ok ok ok quota 2 none ok", "p1:1/1=1", "io@1=9")
	checkPlugs(t, "io1:9", "drop p; load p1; drop q; drop p; drop p; begin p io 1; swap p2; back p; load p3", "none ok none ok none none none none ok", "p3:0/0=0", "")
	checkPlugs(t, "io1:9", "load p1 io; begin p io 1; drop p; swap p2 io; drop p; end 1; drop p; drop p", "ok 1 state ok state ok ok none", "", "io@1=1")
	checkPlugs(t, "io1:9", "load p1 io; begin p io 1; swap p2 io; begin p io 1; drop p; end 1; drop p; end 2; drop p", "ok 1 ok 2 state ok state ok ok", "", "io@1=2")
	checkPlugs(t, "io1:9", "load p1 io; begin p io 1; swap p2 io; begin p io 1; end 2; drop p; back p; drop p; end 1; drop p", "ok 1 ok 2 ok state ok state ok ok", "", "io@1=2")
	checkPlugs(t, "io1:9", "load p1 io; load q1 io; begin q io 1; drop p; drop q", "ok ok 1 ok state", "q1:1/0=0", "io@1=1")
}

func TestPlugBeginCodes(t *testing.T) {
	checkPlugs(t, "io1:5 net1:5", "begin p io 1; begin p io -1; load p1 io; begin p net 1; begin p net -1; begin p net 9; begin p IO 0; begin p i 0; begin p io -1; begin p io -9223372036854775808; begin p io 6; begin p io 5; begin p io 1; begin p io 0; begin p io -1; begin q io 9",
		"none none ok right right right right right bad bad quota 1 quota 2 bad none", "p1:2/0=0", "io@1=5")
	checkPlugs(t, "io1:5", "load p1; begin p io 0; begin p p 0; swap p2 io; begin p io 1; swap p3; begin p io 1; end 1", "ok right right ok 1 ok right ok", "p3:0/0=0", "io@1=1")
	for _, text := range append(notNames(), longText, tooLong) {
		acts := append(plugActsOf(t, "load p1 io"), impl.PlugAct{Kind: impl.PlBegin, Name: text, Right: "io"}, impl.PlugAct{Kind: impl.PlBegin, Name: "p", Right: text}, impl.PlugAct{Kind: impl.PlBegin, Name: text, Right: text, Cost: -1}, impl.PlugAct{Kind: impl.PlBack, Name: text}, impl.PlugAct{Kind: impl.PlDrop, Name: text})
		if x := impl.RunPlugins(offersOf(t, "io1:5"), acts); toldPlugLog(x) != "ok ok none right none none none; p1:0/0=0; " {
			t.Errorf("%s: %s", clipped(text), toldPlugLog(x))
		}
	}
}

func TestPlugEndCodes(t *testing.T) {
	checkPlugs(t, "io1:5", "end 1; end 0; end -1; load p1 io; end 1; begin p io 1; end 2; end 0; end -1; end -9223372036854775808; end 9223372036854775807; end 4294967297; end 1; end 1; begin p io 1; end 1; end 2; end 2; end 3",
		"none none none ok none 1 none none none none none none ok none 2 none ok none none", "p1:2/2=2", "io@1=2")
	checkPlugs(t, "io1:1", "load p1 io; begin p io 1; begin p io 1; end 2; begin p io 0; end 2; end 1", "ok 1 quota none 2 ok ok", "p1:2/2=2", "io@1=1")
}

func TestPlugQuotas(t *testing.T) {
	checkPlugs(t, "io1:0", "load p1 io; begin p io 0; begin p io 1; begin p io 0; begin p io 9223372036854775807", "ok 1 quota 2 quota", "p1:2/0=0", "")
	checkPlugs(t, "io1:7", "load p1 io; begin p io 8; begin p io 7; begin p io 1; begin p io 0", "ok quota 1 quota 2", "p1:2/0=0", "io@1=7")
	checkPlugs(t, "io1:7", "load p1 io; begin p io 3; begin p io 5; begin p io 4; begin p io 1; end 1; end 2; begin p io 1", "ok 1 quota 2 quota ok ok quota", "p1:2/2=2", "io@1=7")
	checkPlugs(t, "io1:9223372036854775807", "load p1 io; begin p io 9223372036854775807; begin p io 1; begin p io 9223372036854775807; begin p io 0", "ok 1 quota quota 2", "p1:2/0=0", "io@1=9223372036854775807")
	checkPlugs(t, "io1:9223372036854775807", "load p1 io; begin p io 1; begin p io 9223372036854775807; begin p io 9223372036854775806; begin p io 1", "ok 1 quota 2 quota", "p1:2/0=0", "io@1=9223372036854775807")
	checkPlugs(t, "io1:9223372036854775806", "load p1 io; begin p io 9223372036854775807; begin p io 9223372036854775806; begin p io 9223372036854775807; begin p io 9223372036854775806; begin p io 1", "ok quota 1 quota quota quota", "p1:1/0=0", "io@1=9223372036854775806")
	checkPlugs(t, "io1:0", "load p1 io; begin p io 9223372036854775807; begin p io 1", "ok quota quota", "p1:0/0=0", "")
}

// What is used of an offer is used by all plugs together, those that are unloaded since too.
func TestPlugQuotasAreShared(t *testing.T) {
	checkPlugs(t, "io1:10 io2:10", "load p1 io; load q1 io; load r1 io1-1; begin p io 6; begin q io 5; begin q io 4; begin p io 1; begin r io 10", "ok ok ok 1 quota 2 quota 3", "p1:1/0=0 q1:1/0=0 r1:1/0=0", "io@1=10 io@2=10")
	checkPlugs(t, "io1:10", "load p1 io; begin p io 6; end 1; drop p; load q1 io; begin q io 5; begin q io 4", "ok 1 ok ok ok quota 2", "q1:1/0=0", "io@1=10")
	checkPlugs(t, "io1:10", "load p1 io; begin p io 6; swap p2 io; end 1; begin p io 5; begin p io 4; drop p", "ok 1 ok ok quota 2 state", "p2:1/0=0", "io@1=10")
	checkPlugs(t, "io1:10", "load p1 io; begin p io 6; swap p2 io; begin p io 4; back p; begin p io 1; begin p io 0; end 2; end 1", "ok 1 ok 2 ok quota 3 ok ok", "p1:2/2=2", "io@1=10")
	checkPlugs(t, "a1:10 b1:10", "load p1 a; load q1 b; load r1 b a; begin p a 7; begin q b 8; begin r a 3; begin r b 3; begin r b 2", "ok ok ok 1 2 3 quota 4", "p1:1/0=0 q1:1/0=0 r1:2/0=0", "a@1=10 b@1=10")
}

func TestPlugSwap(t *testing.T) {
	checkPlugs(t, "io1:9", "load p1 io; swap p2 io; back p; swap p3 io", "ok ok none ok", "p3:0/0=0", "")
	checkPlugs(t, "io1:9", "load p1 io; begin p io 1; end 1; swap p2 io; back p; begin p io 1; end 2", "ok 1 ok ok none 2 ok", "p2:1/1=2", "io@1=2")
	checkPlugs(t, "io1:9", "load p1 io; begin p io 1; begin p io 1; swap p2 io; end 2; swap p3 io; end 1; swap p3 io; back p", "ok 1 2 ok ok state ok ok none", "p3:0/0=0", "io@1=2")
	checkPlugs(t, "io1:9", "load p1 io; begin p io 1; begin p io 1; swap p2 io; end 2", "ok 1 2 ok ok", "p1:2/1=1~ p2:0/0=0", "io@1=2")
	checkPlugs(t, "io1:9", "load p1 io; begin p io 1; begin p io 1; end 1; swap p1 io; begin p io 1; end 3; end 2; begin p io 1", "ok 1 2 ok ok 3 ok ok 4", "p1:2/1=2", "io@1=4")
	checkPlugs(t, "io1:9", "load p1 io; begin p io 1; swap p2 nope; begin p io 1; end 1; end 2; back p", "ok 1 right 2 ok ok none", "p1:2/2=2", "io@1=2")
	checkPlugs(t, "io1:9", "swap p1; load p1; swap q2; swap p0; swap p2", "none ok none bad ok", "p2:0/0=0", "")
	checkPlugs(t, "io1:9", "load p1 io; load q1 io; begin p io 1; begin q io 1; swap p2 io; swap q2 io; end 1; back q; back p", "ok ok 1 2 ok ok ok ok none", "p2:0/0=0 q1:1/0=0", "io@1=2")
}

// A replacement has rights of its own, the one that is taken back those that it had.
func TestPlugSwapRights(t *testing.T) {
	checkPlugs(t, "io1:9 net1:9 net2:9", "load p1 io net1-1; begin p net 1; swap p2 net; begin p io 1; begin p net 2; back p; begin p io 3; begin p net 4", "ok 1 ok right 2 ok 3 4", "p1:3/0=0", "io@1=3 net@1=5 net@2=2")
	checkPlugs(t, "io1:9", "load p1 io; begin p io 1; swap p2; begin p io 1; end 1; begin p io 1", "ok 1 ok right ok right", "p2:0/0=0", "io@1=1")
}

func TestPlugBack(t *testing.T) {
	checkPlugs(t, "io1:9", "back p; load p1 io; back p; begin p io 1; back p; swap p2 io; back q; back p; back p", "none ok none 1 none ok none ok none", "p1:1/0=0", "io@1=1")
	// Calls that began with the replacement and end behind it: ended where they are by then, begun nowhere that is there.
	checkPlugs(t, "io1:9", "load p1 io; begin p io 1; swap p2 io; begin p io 1; begin p io 1; back p; end 1; end 2; end 3; end 3", "ok 1 ok 2 3 ok ok ok ok none", "p1:1/3=3", "io@1=3")
	// What has ended with the replacement is in the state, and in no Ended that is told.
	checkPlugs(t, "io1:9", "load p1 io; begin p io 1; swap p2 io; begin p io 1; begin p io 1; end 2; back p", "ok 1 ok 2 3 ok ok", "p1:1/0=1", "io@1=3")
	// Both go on from the state at the replacement; what either has taken counts once.
	checkPlugs(t, "io1:9", "load p1 io; begin p io 1; begin p io 1; begin p io 1; end 1; swap p2 io; begin p io 1; end 2; end 4", "ok 1 2 3 ok ok 4 ok ok", "p1:3/2=2~ p2:1/1=2", "io@1=4")
	checkPlugs(t, "io1:9", "load p1 io; begin p io 1; begin p io 1; begin p io 1; end 1; swap p2 io; begin p io 1; end 2; end 4; back p; end 3", "ok 1 2 3 ok ok 4 ok ok ok ok", "p1:3/3=4", "io@1=4")
	// The last call of the one that drains has ended: there is nothing to go back to.
	checkPlugs(t, "io1:9", "load p1 io; begin p io 1; swap p2 io; begin p io 1; end 1; back p; end 2", "ok 1 ok 2 ok none ok", "p2:1/1=1", "io@1=2")
}

func TestPlugSwapBehindABack(t *testing.T) {
	acts := "load p1 io; begin p io 1; swap p2 io; begin p io 1; end 2; begin p io 1; back p; "
	replies := "ok 1 ok 2 ok 3 ok "
	// The calls that were taken over keep it draining.
	checkPlugs(t, "io1:9", acts+"end 1; swap p3 io; begin p io 1", replies+"ok ok 4", "p1:1/1=2~ p3:1/0=2", "io@1=4")
	checkPlugs(t, "io1:9", acts+"end 1; swap p3 io; begin p io 1; end 3; end 4", replies+"ok ok 4 ok ok", "p3:1/1=3", "io@1=4")
	checkPlugs(t, "io1:9", acts+"swap p3 io; begin p io 1; end 4; end 1; back p; end 3; back p", replies+"ok 4 ok ok ok ok none", "p1:1/2=4", "io@1=4")
	checkPlugs(t, "io1:9", acts+"end 1; end 3; swap p3 io; back p; drop p; load p4 io", replies+"ok ok ok none ok ok", "p4:0/0=0", "io@1=3")
	checkPlugs(t, "io1:9", acts+"swap p2 io; swap p3; back p; back p; swap p5 io; begin p io 1; back p; end 4; end 3; end 1; drop p", replies+"ok state ok none ok 4 ok ok ok ok ok", "", "io@1=4")
	// A replacement of a replacement, whose first one is gone by then.
	checkPlugs(t, "io1:9", "load p1 io; begin p io 1; end 1; begin p io 1; swap p2 io; begin p io 1; end 3; begin p io 1; end 2; swap p3 io; begin p io 1; end 5; back p; end 4", "ok 1 ok 2 ok 3 ok 4 ok ok 5 ok ok ok", "p2:2/2=4", "io@1=5")
}

func TestPlugsAreToldInOrder(t *testing.T) {
	checkPlugs(t, "io1:9", "load p1 io; load B5 io; load aa9 io; load a1 io; load é1; load _1; begin B io 0; swap B2 io; begin a io 0; swap a7", "ok ok ok ok ok ok 1 ok 2 ok", "B5:1/0=0~ B2:0/0=0 _1:0/0=0 a1:1/0=0~ a7:0/0=0 aa9:0/0=0 p1:0/0=0 é1:0/0=0", "")
	checkPlugs(t, "io10:9 io2:9 io1:9 IO3:9 i100:9 ioo1:9", "load a1 io10; load b1 io2-2; load c1 io1-1; load d1 IO i ioo; begin a io 1; begin b io 2; begin c io 3; begin d IO 4; begin d i 5; begin d ioo 6", "ok ok ok ok 1 2 3 4 5 6",
		"a1:1/0=0 b1:1/0=0 c1:1/0=0 d1:3/0=0", "IO@3=4 i@100=5 io@1=3 io@2=2 io@10=1 ioo@1=6")
	checkPlugs(t, "io1:9 io2:0 net999999:3", "load p1 net; load q1 io; begin q io 0; begin p net 3; end 1; end 2; drop p; drop q", "ok ok 1 2 ok ok ok ok", "", "net@999999=3")
}

func TestPlugsAsManyAsThereMayBe(t *testing.T) {
	offers := manyOffers(40, false)
	var acts []impl.PlugAct
	for i := range 100 {
		name := strings.Repeat("p", 1+i%40) + strconv.Itoa(i)
		if len(name) > 40 {
			name = name[len(name)-40:]
		}
		acts = append(acts, impl.PlugAct{Kind: impl.PlLoad, Name: name, Version: 1, Asks: manyNeeds(20)}, impl.PlugAct{Kind: impl.PlBegin, Name: name, Right: "n" + strconv.Itoa(i%20), Cost: 1}, impl.PlugAct{Kind: impl.PlSwap, Name: name, Version: 2, Asks: manyNeeds(20)})
	}
	x := impl.RunPlugins(offers, acts)
	if len(x.Plugs) != 200 || len(x.Used) != 20 {
		t.Errorf("%d plugs, %s", len(x.Plugs), toldUsed(x.Used))
	}
	checkSamePlugs(t, offers, acts, wantPlugLog(offers, acts))
}
