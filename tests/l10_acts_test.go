package tests

import (
	"math"
	"reflect"
	"slices"
	"strconv"
	"strings"
	"testing"

	"loop.example/g00045/impl"
)

func tidyBus(x impl.BusLog) impl.BusLog {
	x.Replies, x.Deliveries, x.Dead = tidyList(x.Replies), tidyList(x.Deliveries), tidyList(x.Dead)
	return x
}

func checkSameBus(t *testing.T, acts []impl.BusAct, want impl.BusLog) {
	t.Helper()
	if got := impl.RunBus(acts); !reflect.DeepEqual(tidyBus(got), tidyBus(want)) {
		t.Fatalf("%s\n%s, not\n%s", showBus(acts), toldBus(got), toldBus(want))
	}
}

// checkBus: the replies, the deliveries, those that are dead, and how many are left.
func checkBus(t *testing.T, acts, replies, deliveries, dead string, left int) {
	t.Helper()
	list := busActsOf(t, acts)
	x := impl.RunBus(list)
	if got := toldCodes(x.Replies); x.Code != impl.OK || got != replies {
		t.Errorf("%s\nreplies %s, not %s", acts, toldOr(x.Code, got), replies)
	}
	if got := toldDeliveries(x.Deliveries); got != deliveries {
		t.Errorf("%s\ndeliveries\n%s, not\n%s", acts, got, deliveries)
	}
	if got := toldDeliveries(x.Dead); got != dead {
		t.Errorf("%s\ndead %s, not %s", acts, got, dead)
	}
	if x.Left != left {
		t.Errorf("%s\nleft %d, not %d", acts, x.Left, left)
	}
	checkSameBus(t, list, wantBus(list))
	if len(x.Replies) == len(list) {
		checkP11(t, list, x)
		checkFewerActs(t, list, x)
	}
}

// checkPumped: acts that are all done, then a pump of all that waits.
func checkPumped(t *testing.T, acts, deliveries, dead string) {
	t.Helper()
	acts += "; pump 100000"
	checkBus(t, acts, strings.TrimSpace(strings.Repeat("ok ", strings.Count(acts, ";")+1)), deliveries, dead, 0)
}

// checkBusCode: RunBus answers that code and nothing else.
func checkBusCode(t *testing.T, what string, acts []impl.BusAct, want int) {
	t.Helper()
	x := impl.RunBus(acts)
	if x.Code != want || len(x.Replies)+len(x.Deliveries)+len(x.Dead)+x.Left > 0 {
		t.Errorf("%s: code %d, %d replies, %d deliveries, %d dead, %d left, not code %d", what, x.Code, len(x.Replies), len(x.Deliveries), len(x.Dead), x.Left, want)
	}
}

func TestRunBusHowManyActs(t *testing.T) {
	acts := append(busActsOf(t, "listen n # 0 1"), repeated(millions, impl.BusAct{Kind: impl.BsSend, Topic: "a", Num: 5})...)
	for _, count := range []int{0, 1, 2, 299, 300} {
		x := impl.RunBus(acts[:count])
		if x.Code != impl.OK || len(x.Replies) != count || x.Left != max(0, count-1) || len(x.Deliveries)+len(x.Dead) > 0 {
			t.Errorf("%d acts: %s", count, toldBus(x))
		}
		for i, code := range x.Replies {
			if code != impl.OK {
				t.Errorf("%d acts: reply %d: %d", count, i, code)
			}
		}
	}
	for _, count := range []int{301, 302, 4095, 4096} {
		checkBusCode(t, strconv.Itoa(count)+" acts", acts[:count], impl.ErrMany)
		checkBusCode(t, strconv.Itoa(count)+" acts of no kind", make([]impl.BusAct, count), impl.ErrMany)
	}
	for _, count := range []int{4097, 4098, millions} {
		checkBusCode(t, strconv.Itoa(count)+" acts", acts[:count], impl.ErrLong)
		checkBusCode(t, strconv.Itoa(count)+" acts of no kind", make([]impl.BusAct, count), impl.ErrLong)
	}
}

func TestBusOfNothing(t *testing.T) {
	checkBus(t, "", "", "", "", 0)
	checkBus(t, "pump 0; pump 1; pump 9223372036854775807", "ok ok ok", "", "", 0)
	checkBus(t, "listen n # 0 1; pump 5; leave n; pump 5", "ok ok ok ok", "", "", 0)
	checkBus(t, "send a 1 0; send a.b 2 9; pump 5; listen n # 0 1; pump 5", "ok ok ok ok ok", "", "", 0)
	if x := impl.RunBus([]impl.BusAct{}); toldBus(x) != "ok ; ; dead ; left 0" {
		t.Error(toldBus(x))
	}
}

func TestBusActsOfNoKind(t *testing.T) {
	checkBus(t, "listen n # 0 1; kind 0; send a 1 0; kind 7; kind -1; kind 8; kind 4294967297; kind -9223372036854775808; kind 9223372036854775807; pump 2", "ok kind ok kind kind kind kind kind kind ok", "n:a=1/1", "", 0)
	for _, kind := range append([]int{7, 8, -7}, anyNumbers...) {
		if 1 <= kind && kind <= 6 {
			continue
		}
		acts := busActsOf(t, "listen n # 0 1; send a 1 0")
		acts = append(acts, impl.BusAct{Kind: kind, Name: "n", Topic: "a", Num: 5, Tries: 1, Keep: true}, impl.BusAct{Kind: kind, Name: tooLong, Topic: tooLong, Num: -1, Tries: -1, Rank: math.MinInt})
		if x := impl.RunBus(acts); toldBus(x) != "ok ok ok kind kind; ; dead ; left 1" {
			t.Errorf("kind %d: %s", kind, toldBus(x))
		}
	}
}

// What an act does not ask for is not looked at.
func TestBusFieldsThatAreNotAsked(t *testing.T) {
	acts := busActsOf(t, "send a.x 8 2 keep; listen n a.* 3 2; listen B # 3 1; break n; send a 9 -4; pump 2; mend n; pump 9; leave B; send a.y 7 0")
	want := impl.RunBus(acts)
	for i := range acts {
		a := &acts[i]
		for _, num := range []int{math.MinInt, -1, math.MaxInt} {
			wrong := impl.BusAct{Kind: a.Kind, Name: tooLong, Topic: tooLong, Rank: num, Num: num, Keep: true, Tries: num}
			switch a.Kind {
			case impl.BsListen:
				wrong.Name, wrong.Topic, wrong.Rank, wrong.Tries = a.Name, a.Topic, a.Rank, a.Tries
			case impl.BsSend:
				wrong.Topic, wrong.Num, wrong.Rank, wrong.Keep = a.Topic, a.Num, a.Rank, a.Keep
			case impl.BsPump:
				wrong.Num = a.Num
			default:
				wrong.Name = a.Name
			}
			*a = wrong
			checkSameBus(t, acts, want)
		}
	}
	if toldDeliveries(want.Deliveries) != "n:a.x=8/1! B:a.x=8/1 n:a.x=8/2 B:a=9/1" || want.Left != 1 {
		t.Error(toldBus(want))
	}
}

func TestBusListenCodes(t *testing.T) {
	right := impl.BusAct{Kind: impl.BsListen, Name: "n", Topic: "a", Tries: 1}
	check := func(what string, act impl.BusAct, want, wantTwice int) {
		t.Helper()
		ahead := impl.BusAct{Kind: impl.BsListen, Name: act.Name, Topic: "#", Tries: 5}
		for _, c := range []struct {
			acts []impl.BusAct
			want int
		}{{nil, want}, {busActsOf(t, "listen zz a 0 1"), want}, {[]impl.BusAct{ahead}, wantTwice}, {[]impl.BusAct{ahead, {Kind: impl.BsLeave, Name: act.Name}}, want}} {
			acts := append(c.acts, act)
			if x := impl.RunBus(acts); x.Replies[len(acts)-1] != c.want {
				t.Errorf("%s: %s: %d, not %d", what, showBus(acts), x.Replies[len(acts)-1], c.want)
			}
			checkSameBus(t, acts, wantBus(acts))
		}
	}
	for _, name := range rightNames {
		act := right
		act.Name = name
		check("name", act, impl.OK, impl.ErrTwice)
	}
	for _, name := range append(notNames(), longText, tooLong) {
		act := right
		act.Name = name
		check("name", act, impl.ErrBad, impl.ErrBad)
	}
	for _, topic := range []string{"a", "*", "#", "a.*", "a.#", "*.*.*.*.#", "*.b", "a.b.c.d.e", strings.Repeat("n", 40)} {
		act := right
		act.Topic = topic
		check("pattern", act, impl.OK, impl.ErrTwice)
	}
	for _, topic := range append(notPatterns(), longText, tooLong) {
		act := right
		act.Topic = topic
		check("pattern", act, impl.ErrBad, impl.ErrBad)
	}
	for _, tries := range append([]int{6, 7, -5}, anyNumbers...) {
		act := right
		act.Tries = tries
		if 1 <= tries && tries <= 5 {
			check("tries", act, impl.OK, impl.ErrTwice)
		} else {
			check("tries", act, impl.ErrBad, impl.ErrBad)
		}
	}
	for _, rank := range anyNumbers {
		act := right
		act.Rank = rank
		check("rank", act, impl.OK, impl.ErrTwice)
	}
}

// manyListeners: that many listeners of all topics.
func manyListeners(count int) []impl.BusAct {
	var out []impl.BusAct
	for i := range count {
		out = append(out, impl.BusAct{Kind: impl.BsListen, Name: "n" + strconv.Itoa(i), Topic: "#", Rank: i % 3, Tries: 1 + i%5})
	}
	return out
}

// ErrMany behind ErrBad and ErrTwice, and only as long as so many are there.
func TestBusHowManyListeners(t *testing.T) {
	for _, count := range []int{38, 39, 40, 41, 42, 100} {
		x := impl.RunBus(append(manyListeners(count), impl.BusAct{Kind: impl.BsSend, Topic: "a"}))
		for i, code := range x.Replies[:count] {
			if (code == impl.OK) != (i < 40) || i >= 40 && code != impl.ErrMany {
				t.Errorf("listener %d: %d", i, code)
			}
		}
		if x.Left != min(count, 40) {
			t.Errorf("%d listeners: left %d", count, x.Left)
		}
	}
	full := manyListeners(40)
	for text, want := range map[string]string{
		"listen x # 0 1":                             "many",
		"listen n0 # 0 1":                            "twice",
		"listen n39 # 0 1":                           "twice",
		"listen x # 0 6":                             "bad",
		"listen n0 # 0 0":                            "bad",
		"listen n0 ** 0 1":                           "bad",
		"listen 1 # 0 1":                             "bad",
		"leave n7; listen x # 0 1":                   "ok ok",
		"leave n7; listen n7 # 0 1":                  "ok ok",
		"leave n7; listen x # 0 1; listen y # 0 1":   "ok ok many",
		"leave n7; listen x # 0 1; listen n7 # 0 1":  "ok ok many",
		"leave x; listen x # 0 1":                    "none many",
		"listen x # 0 1; break x; mend x; leave x":   "many none none none",
		"break n3; listen n3 # 0 1":                  "ok twice",
		"pump 9; listen x # 0 1; leave n0; leave n0": "ok many ok none",
	} {
		acts := append(slices.Clone(full), busActsOf(t, text)...)
		x := impl.RunBus(acts)
		if got := toldCodes(x.Replies[40:]); got != want {
			t.Errorf("40 listeners, then %s: %s, not %s", text, got, want)
		}
		checkSameBus(t, acts, wantBus(acts))
	}
	// One that is refused is told nothing.
	acts := append(busActsOf(t, "send a 1 0 keep"), manyListeners(41)...)
	if x := impl.RunBus(append(acts, impl.BusAct{Kind: impl.BsPump, Num: math.MaxInt})); len(x.Deliveries) != 40 || x.Left != 0 {
		t.Errorf("%d deliveries, %d left", len(x.Deliveries), x.Left)
	}
}

func TestBusListenTwice(t *testing.T) {
	checkBus(t, "listen n a 5 3; listen n # -7 1; break n; listen n # 0 1; send a 1 0; send b 2 0; pump 3; mend n; pump 3", "ok twice ok twice ok ok ok ok ok", "n:a=1/1! n:a=1/2! n:a=1/3!", "n:a=1/3!", 0)
	checkBus(t, "listen n # 0 6; listen n # 0 5; listen n # 0 0; listen N # 0 5; leave n; listen n # 0 2", "bad ok bad ok ok ok", "", "", 0)
	checkBus(t, "send a 1 0 keep; listen n a 0 1; listen n a 0 1; listen n # 0 1; pump 9", "ok ok twice twice ok", "n:a=1/1", "", 0)
}

func TestBusNamesThatAreNone(t *testing.T) {
	checkBus(t, "leave n; break n; mend n; listen n # 0 1; leave N; break nn; mend m; break n; break n; mend n; mend n; leave n; leave n; break n; mend n",
		"none none none ok none none none ok ok ok ok ok none none none", "", "", 0)
	for _, name := range append(notNames(), longText, tooLong) {
		acts := append(busActsOf(t, "listen n # 0 1; send a 1 0"), impl.BusAct{Kind: impl.BsLeave, Name: name}, impl.BusAct{Kind: impl.BsBreak, Name: name}, impl.BusAct{Kind: impl.BsMend, Name: name}, impl.BusAct{Kind: impl.BsPump, Num: 1})
		if x := impl.RunBus(acts); toldBus(x) != "ok ok ok none none none ok; n:a=1/1; dead ; left 0" {
			t.Errorf("%s: %s", clipped(name), toldBus(x))
		}
	}
}

func TestBusSendCodes(t *testing.T) {
	send := func(topic string, want int) {
		t.Helper()
		for _, keep := range []bool{false, true} {
			acts := append(busActsOf(t, "listen n # 0 1"), impl.BusAct{Kind: impl.BsSend, Topic: topic, Num: 3, Keep: keep}, impl.BusAct{Kind: impl.BsListen, Name: "late", Topic: "#", Tries: 1})
			x := impl.RunBus(acts)
			left := 0
			if want == impl.OK {
				left = 1
				if keep {
					left = 2
				}
			}
			if !slices.Equal(x.Replies, []int{impl.OK, want, impl.OK}) || x.Left != left {
				t.Errorf("send of %s: %s", clipped(topic), toldBus(x))
			}
			checkSameBus(t, acts, wantBus(acts))
		}
	}
	for _, topic := range append(slices.Clone(fiveTopics), strings.Join(repeated(5, strings.Repeat("n", 40)), ".")) {
		send(topic, impl.OK)
	}
	for _, topic := range append(notPatterns(), "*", "#", "a.*", "a.#", "*.b", "*.*.*.*.*", longText, tooLong, strings.Repeat("a.", impl.MaxText)) {
		send(topic, impl.ErrBad)
	}
	for _, num := range anyNumbers {
		for _, rank := range anyNumbers {
			acts := []impl.BusAct{{Kind: impl.BsListen, Name: "n", Topic: "a", Tries: 1}, {Kind: impl.BsSend, Topic: "a", Num: num, Rank: rank}, {Kind: impl.BsPump, Num: 1}}
			if x := impl.RunBus(acts); toldBus(x) != "ok ok ok ok; n:a="+strconv.Itoa(num)+"/1; dead ; left 0" {
				t.Errorf("%s: %s", showBus(acts), toldBus(x))
			}
		}
	}
}

func TestBusPumpCodes(t *testing.T) {
	for _, num := range append([]int{7, 100}, anyNumbers...) {
		acts := append(busActsOf(t, "listen n # 0 1; send a 1 0; send b 2 0; send c 3 0; send d 4 0; send e 5 0"), impl.BusAct{Kind: impl.BsPump, Num: num})
		want, count := impl.OK, min(max(num, 0), 5)
		if num < 0 {
			want = impl.ErrBad
		}
		x := impl.RunBus(acts)
		if x.Replies[6] != want || len(x.Deliveries) != count || x.Left != 5-count {
			t.Errorf("pump %d: %s", num, toldBus(x))
		}
		for i, d := range x.Deliveries {
			if d.Num != i+1 {
				t.Errorf("pump %d: %s", num, toldBus(x))
			}
		}
	}
	checkBus(t, "listen n # 0 5; break n; send a 1 0; pump -1; pump 0; pump -9223372036854775808; pump 2; pump 0; pump 9223372036854775807; pump 9223372036854775807", "ok ok ok bad ok bad ok ok ok ok", "n:a=1/1! n:a=1/2! n:a=1/3! n:a=1/4! n:a=1/5!", "n:a=1/5!", 0)
}

// The greatest Rank of the events, of those the one that came first.
func TestBusWhichMessageComesNext(t *testing.T) {
	checkPumped(t, "listen n # 0 1; send a 1 0; send a 2 5; send a 3 -5; send a 4 5; send a 5 0; send a 6 9", "n:a=6/1 n:a=2/1 n:a=4/1 n:a=1/1 n:a=5/1 n:a=3/1", "")
	checkPumped(t, "listen n # 0 1; send a 1 0; send a 2 -9223372036854775808; send a 3 9223372036854775807; send a 4 -1; send a 5 -9223372036854775807; send a 6 9223372036854775806; send a 7 1; send a 8 -9223372036854775808; send a 9 9223372036854775807",
		"n:a=3/1 n:a=9/1 n:a=6/1 n:a=7/1 n:a=1/1 n:a=4/1 n:a=5/1 n:a=2/1 n:a=8/1", "")
	// The Rank of a listener orders those of one event alone.
	checkPumped(t, "listen low # -9 1; listen high # 9 1; send a 1 5; send b 2 5; send c 3 6", "high:c=3/1 low:c=3/1 high:a=1/1 low:a=1/1 high:b=2/1 low:b=2/1", "")
	checkBus(t, "listen n # 0 1; send a 1 0; send a 2 3; pump 1; send a 3 2; send a 4 0; pump 1; send a 5 0; pump 2; pump 1", "ok ok ok ok ok ok ok ok ok ok", "n:a=2/1 n:a=3/1 n:a=1/1 n:a=4/1 n:a=5/1", "", 0)
	// Among listeners of different topics, too.
	checkPumped(t, "listen x a 0 1; listen y b 0 1; listen z c 0 1; send b 1 2; send c 2 2; send a 3 2; send c 4 3; send a 5 1; send b 6 3", "z:c=4/1 y:b=6/1 y:b=1/1 z:c=2/1 x:a=3/1 x:a=5/1", "")
}

// A message that failed comes last among those of its Rank.
func TestBusWhatFailedComesLast(t *testing.T) {
	checkPumped(t, "listen n # 0 2; break n; send a 1 0; send a 2 0; send a 3 0", "n:a=1/1! n:a=2/1! n:a=3/1! n:a=1/2! n:a=2/2! n:a=3/2!", "n:a=1/2! n:a=2/2! n:a=3/2!")
	checkPumped(t, "listen n # 0 3; break n; send a 1 5; send a 2 0; send a 3 5", "n:a=1/1! n:a=3/1! n:a=1/2! n:a=3/2! n:a=1/3! n:a=3/3! n:a=2/1! n:a=2/2! n:a=2/3!", "n:a=1/3! n:a=3/3! n:a=2/3!")
	checkPumped(t, "listen n # 0 3; listen m # -1 2; break n; send a 1 0; send b 2 0", "n:a=1/1! m:a=1/1 n:b=2/1! m:b=2/1 n:a=1/2! n:b=2/2! n:a=1/3! n:b=2/3!", "n:a=1/3! n:b=2/3!")
	// What is sent behind a try comes behind the message that waits again.
	checkBus(t, "listen n # 0 2; break n; send a 1 0; pump 1; send a 2 0; send a 3 1; pump 1; send a 4 0; pump 100", "ok ok ok ok ok ok ok ok ok", "n:a=1/1! n:a=3/1! n:a=3/2! n:a=1/2! n:a=2/1! n:a=4/1! n:a=2/2! n:a=4/2!", "n:a=3/2! n:a=1/2! n:a=2/2! n:a=4/2!", 0)
	checkBus(t, "listen n # 0 2; listen m # 0 2; break m; break n; send a 1 0; pump 1; pump 1; pump 1; pump 1; pump 1", "ok ok ok ok ok ok ok ok ok ok", "m:a=1/1! n:a=1/1! m:a=1/2! n:a=1/2!", "m:a=1/2! n:a=1/2!", 0)
}

// By falling Rank, those of one Rank by Name.
func TestBusListenersOfOneEvent(t *testing.T) {
	listens := []string{"listen a # 0 1", "listen B # 0 1", "listen é # 0 1", "listen aa # 0 1", "listen up # 9223372036854775807 1", "listen down # -9223372036854775808 1"}
	orders(listens, func(turned []string) {
		acts := busActsOf(t, strings.Join(turned, "; ")+"; send x 1 0; pump 9")
		if got := toldDeliveries(impl.RunBus(acts).Deliveries); got != "up:x=1/1 B:x=1/1 a:x=1/1 aa:x=1/1 é:x=1/1 down:x=1/1" {
			t.Fatalf("%s: %s", showBus(acts), got)
		}
	})
	checkPumped(t, "listen a # 1 1; listen b # 2 1; listen c # 3 1; leave b; listen b # 4 1; send x 1 0; leave c; listen c # 9 1; send x 2 0", "b:x=1/1 a:x=1/1 c:x=2/1 b:x=2/1 a:x=2/1", "")
	checkPumped(t, "listen a x.* 1 1; listen b # 2 1; listen c y 3 1; listen d *.y 4 1; listen e x.# 5 1; send x.y 1 0; send y 2 0; send x 3 0", "e:x.y=1/1 d:x.y=1/1 b:x.y=1/1 a:x.y=1/1 c:y=2/1 b:y=2/1 e:x=3/1 b:x=3/1", "")
}

func TestBusTries(t *testing.T) {
	for tries := range 8 {
		acts := busActsOf(t, "listen n # 0 "+strconv.Itoa(tries)+"; break n; send a 1 0; pump 100")
		want := ""
		for try := 1; try <= tries; try++ {
			want += " n:a=1/" + strconv.Itoa(try) + "!"
		}
		x := impl.RunBus(acts)
		switch {
		case tries < 1 || tries > 5:
			if toldBus(x) != "ok bad none ok ok; ; dead ; left 0" {
				t.Errorf("%d tries: %s", tries, toldBus(x))
			}
		case toldBus(x) != "ok ok ok ok ok;"+want+"; dead n:a=1/"+strconv.Itoa(tries)+"!; left 0":
			t.Errorf("%d tries: %s", tries, toldBus(x))
		}
	}
	// Each message has tries of its own, and each listener its number of them.
	checkPumped(t, "listen n # 0 1; listen m # -1 3; break n; break m; send a 1 0; send a 1 0", "n:a=1/1! m:a=1/1! n:a=1/1! m:a=1/1! m:a=1/2! m:a=1/2! m:a=1/3! m:a=1/3!", "n:a=1/1! n:a=1/1! m:a=1/3! m:a=1/3!")
}

// Broken and mended between two tries, and at the pump alone.
func TestBusBreakAndMend(t *testing.T) {
	checkBus(t, "listen n # 0 3; send a 1 0; break n; pump 1; mend n; pump 1; pump 1", "ok ok ok ok ok ok ok", "n:a=1/1! n:a=1/2", "", 0)
	checkBus(t, "listen n # 0 3; break n; send a 1 0; mend n; pump 1", "ok ok ok ok ok", "n:a=1/1", "", 0)
	checkBus(t, "listen n # 0 3; send a 1 0; break n; pump 1; mend n; break n; pump 1; break n; mend n; pump 5", "ok ok ok ok ok ok ok ok ok ok", "n:a=1/1! n:a=1/2! n:a=1/3", "", 0)
	checkBus(t, "listen n # 0 2; listen m # 0 2; break m; send a 1 0; pump 2; mend m; break n; pump 9", "ok ok ok ok ok ok ok ok", "m:a=1/1! n:a=1/1 m:a=1/2", "", 0)
	checkBus(t, "listen n # 0 2; break n; break n; mend n; send a 1 0; pump 9; mend n; pump 1", "ok ok ok ok ok ok ok ok", "n:a=1/1", "", 0)
	checkBus(t, "listen n # 0 1; break n; send a 1 0; pump 1; mend n; pump 9; send a 2 0; pump 1", "ok ok ok ok ok ok ok ok", "n:a=1/1! n:a=2/1", "n:a=1/1!", 0)
}

func TestBusLeave(t *testing.T) {
	checkBus(t, "listen n # 0 1; listen m # 0 1; send a 1 0; send b 2 0; leave n; pump 9", "ok ok ok ok ok ok", "m:a=1/1 m:b=2/1", "", 0)
	checkBus(t, "listen n # 0 1; send a 1 0; send b 2 0; pump 1; leave n; pump 9; send c 3 0", "ok ok ok ok ok ok ok", "n:a=1/1", "", 0)
	// What waits for one that goes does not come to another one of its Name.
	checkBus(t, "listen n # 0 1; send a 1 0; leave n; listen n # 0 1; pump 9; send b 2 0; pump 9", "ok ok ok ok ok ok ok", "n:b=2/1", "", 0)
	checkBus(t, "listen n # 0 5; break n; send a 1 0; pump 2; leave n; pump 1; listen n # 0 5; pump 9", "ok ok ok ok ok ok ok ok", "n:a=1/1! n:a=1/2!", "", 0)
	checkBus(t, "listen n # 0 5; listen m # 0 5; break n; break m; send a 1 0; pump 3; leave m; pump 1", "ok ok ok ok ok ok ok ok", "m:a=1/1! n:a=1/1! m:a=1/2! n:a=1/2!", "", 1)
}

// One that comes again is not broken, has tries and a pattern of its own, and is told what is kept.
func TestBusListenAgain(t *testing.T) {
	checkBus(t, "listen n # 0 1; break n; leave n; listen n # 0 1; send a 1 0; pump 9", "ok ok ok ok ok ok", "n:a=1/1", "", 0)
	checkBus(t, "send a 1 7 keep; listen n # 0 2; break n; pump 1; leave n; listen n # 0 1; pump 9; leave n; listen n # 0 1; break n; pump 9", "ok ok ok ok ok ok ok ok ok ok ok", "n:a=1/1! n:a=1/1 n:a=1/1!", "n:a=1/1!", 0)
	checkBus(t, "send a 1 0 keep; send b 2 0 keep; listen n a 0 1; leave n; listen n b 0 3; break n; pump 9; leave n; listen n * 0 1; send c 3 0; pump 9", "ok ok ok ok ok ok ok ok ok ok ok", "n:b=2/1! n:b=2/2! n:b=2/3! n:a=1/1 n:b=2/1 n:c=3/1", "n:b=2/3!", 0)
}

func TestBusKeptEvents(t *testing.T) {
	// In the order of topics, whatever the order in which they were sent.
	orders([]string{"send b 1 0 keep", "send a.b 2 0 keep", "send a 3 0 keep", "send a1 4 0 keep", "send B 5 0 keep", "send é 6 0 keep"}, func(turned []string) {
		acts := busActsOf(t, strings.Join(turned, "; ")+"; listen n # 0 1; pump 9")
		if got := toldDeliveries(impl.RunBus(acts).Deliveries); got != "n:B=5/1 n:a=3/1 n:a.b=2/1 n:a1=4/1 n:b=1/1 n:é=6/1" {
			t.Fatalf("%s: %s", showBus(acts), got)
		}
	})
	// With the Rank with which each was sent.
	checkPumped(t, "send a 1 -3 keep; send b 2 5 keep; send c 3 0 keep; send d 4 5 keep; listen n # -9 1; send e 5 4", "n:b=2/1 n:d=4/1 n:e=5/1 n:c=3/1 n:a=1/1", "")
	checkPumped(t, "send a 1 -9223372036854775808 keep; send b 2 9223372036854775807 keep; send c 3 0 keep; listen n # 0 1", "n:b=2/1 n:c=3/1 n:a=1/1", "")
	// Only those that it matches.
	checkPumped(t, "send a 1 0 keep; send a.b 2 0 keep; send a.b.c 3 0 keep; send b 4 0 keep; listen n a.# 0 1; listen m *.b 0 1; listen o c 0 1; listen p b 0 1", "n:a=1/1 n:a.b=2/1 n:a.b.c=3/1 m:a.b=2/1 p:b=4/1", "")
	// They come behind what waits already.
	checkPumped(t, "send z 1 0 keep; listen n # 0 1; send a 2 0 keep; listen m # 5 1; send b 3 0", "n:z=1/1 n:a=2/1 m:a=2/1 m:z=1/1 m:b=3/1 n:b=3/1", "")
	// A Keep that is false.
	checkPumped(t, "send a 1 0; send b 2 0 keep; send c 3 0; listen n # 0 1", "n:b=2/1", "")
	checkPumped(t, "send a 1 0 keep; send a 2 0; listen n # 0 1", "n:a=1/1", "")
	// It goes on being kept, however often it was told.
	checkPumped(t, "send a 1 0 keep; listen n # 0 1; listen m # 0 1; pump 9; listen o # 0 1; leave o; listen o # 0 1", "n:a=1/1 m:a=1/1 o:a=1/1", "")
	// One that no listener matched, and one that failed.
	checkPumped(t, "listen n b 0 1; break n; send a 1 0 keep; send b 2 0 keep; pump 9; listen m # 0 1", "n:b=2/1! m:a=1/1 m:b=2/1", "n:b=2/1!")
}

// One in the place of another one: its Num and its Rank; what waits already stays as it was.
func TestBusKeptInThePlaceOfAnother(t *testing.T) {
	checkPumped(t, "send a 1 9 keep; send b 2 5 keep; send a 3 0 keep; listen n # 0 1", "n:b=2/1 n:a=3/1", "")
	checkPumped(t, "send a 1 0 keep; send b 2 5 keep; send a 3 9 keep; listen n # 0 1", "n:a=3/1 n:b=2/1", "")
	checkPumped(t, "send b 1 0 keep; send a 2 0 keep; send b 3 0 keep; listen n # 0 1", "n:a=2/1 n:b=3/1", "")
	checkPumped(t, "send a 1 1 keep; listen n # 0 1; send a 2 0 keep; listen m # 0 1", "n:a=1/1 n:a=2/1 m:a=2/1", "")
}

func TestBusDeadMessages(t *testing.T) {
	checkBus(t, "listen n # 0 2; listen m # 1 1; break n; break m; send a 1 0; send a.b 2 4; pump 3", "ok ok ok ok ok ok ok", "m:a.b=2/1! n:a.b=2/1! n:a.b=2/2!", "m:a.b=2/1! n:a.b=2/2!", 2)
	checkBus(t, "listen n # 0 2; break n; send a 1 0; pump 2; mend n; pump 9; leave n; listen n # 0 2; pump 9", "ok ok ok ok ok ok ok ok ok", "n:a=1/1! n:a=1/2!", "n:a=1/2!", 0)
	checkBus(t, "listen n # 0 1; break n; send a -5 0; send a -5 0; pump 1; leave n; pump 1", "ok ok ok ok ok ok ok", "n:a=-5/1!", "n:a=-5/1!", 0)
}

func TestBusLeft(t *testing.T) {
	checkBus(t, "listen n # 0 2; listen m a 0 2; send a 1 0; send b 2 0", "ok ok ok ok", "", "", 3)
	checkBus(t, "listen n # 0 2; listen m a 0 2; send a 1 0; send b 2 0; pump 2", "ok ok ok ok ok", "m:a=1/1 n:a=1/1", "", 1)
	checkBus(t, "listen n # 0 2; break n; send a 1 0; pump 1", "ok ok ok ok", "n:a=1/1!", "", 1)
	checkBus(t, "listen n # 0 2; break n; send a 1 0; pump 2", "ok ok ok ok", "n:a=1/1! n:a=1/2!", "n:a=1/2!", 0)
	checkBus(t, "send a 1 0 keep; send b 1 0 keep; listen n # 0 2", "ok ok ok", "", "", 2)
	checkBus(t, "send a 1 0 keep; send b 1 0 keep; listen n # 0 2; leave n", "ok ok ok ok", "", "", 0)
	checkBus(t, "send a 1 0; send b 1 0 keep", "ok ok", "", "", 0)
}

// As many messages as there can be: for one listener, and for all.
func TestBusAsManyMessagesAsThereMayBe(t *testing.T) {
	var kept []impl.BusAct
	for i := range 297 {
		kept = append(kept, impl.BusAct{Kind: impl.BsSend, Topic: "t" + strconv.Itoa(i), Num: i, Rank: i % 7, Keep: true})
	}
	tail := busActsOf(t, "listen n # 0 5; break n; pump 9223372036854775807")
	for at := range 297 {
		if at%11 != 0 && at != 296 {
			continue
		}
		acts := slices.Concat(kept[:at], tail[:2], kept[at:], tail[2:])
		x := impl.RunBus(acts)
		if len(x.Deliveries) != 5*297 || len(x.Dead) != 297 || x.Left != 0 {
			t.Errorf("%d deliveries, %d dead, %d left", len(x.Deliveries), len(x.Dead), x.Left)
		}
		checkSameBus(t, acts, wantBus(acts))
	}
	all := manyListeners(40)
	for i := range 40 {
		all = append(all, impl.BusAct{Kind: impl.BsBreak, Name: "n" + strconv.Itoa(i)})
	}
	all = slices.Concat(all, kept[:219], tail[2:])
	x := impl.RunBus(all)
	if len(x.Deliveries) != 219*(1+2+3+4+5)*8 || len(x.Dead) != 219*40 || x.Left != 0 {
		t.Errorf("%d deliveries, %d dead, %d left", len(x.Deliveries), len(x.Dead), x.Left)
	}
	checkSameBus(t, all, wantBus(all))
	checkP11(t, all, x)
}
