package tests

import (
	"slices"
	"strconv"
	"strings"
	"testing"

	"loop.example/g00045/impl"
)

func TestHaveOfScopes(t *testing.T) {
	for _, c := range []struct{ bindings, acts, replies, events string }{
		{"a:k 1", "open 0; get 1 +k; get 0 +k; get 1 +k; shut 1; get 0 +k", "1 1 1 1 ok 1", "<1 1=a@0 >1"},
		{"a:k 1", "open 0; open 1; get 2 +k; shut 0; get 2 +k; get 0 +k", "1 2 1 ok state state", "<1 <2 1=a@0 >2 >1 -1=a@0 >0"},
		{"a:k 2", "open 0; get 1 +k; get 0 +k; get 1 +k; get 0 +k", "1 1 2 1 2", "<1 1=a@1 2=a@0"},
		{"a:k 2", "open 0; open 1; get 1 +k; get 2 +k; shut 2; open 1; get 3 +k; get 1 +k", "1 2 1 2 ok 3 3 1", "<1 <2 1=a@1 2=a@2 -2=a@2 >2 <3 3=a@3"},
		{"a:k 3", "get 0 +k; get 0 +k; open 0; get 1 +k; get 1 +k", "1 2 1 3 4", "1=a@0 2=a@0 <1 3=a@1 4=a@1"},
		{"a:k 1 +j | b:j 3", "open 0; get 1 +k; get 1 +j", "1 2 3", "<1 1=b@0 2=a@0(1) 3=b@1"},
		{"a:k 1 +j | b:j 2", "open 0; get 1 +k; get 0 +j; get 1 +j", "1 2 1 3", "<1 1=b@0 2=a@0(1) 3=b@1"},
		{"a:k 2 +j | b:j 1", "open 0; get 1 +k; get 0 +k", "1 2 3", "<1 1=b@0 2=a@1(1) 3=a@0(1)"},
		{"a:k 3 +j +j ?j *j | b:j 2", "get 0 +k; get 0 +k", "2 3", "1=b@0 2=a@0(1,1,1,1) 3=a@0(1,1,1,1)"},
		{"a:k 3 +j +j ?j *j | b:j 3", "get 0 +k", "5", "1=b@0 2=b@0 3=b@0 4=b@0 5=a@0(1,2,3,4)"},
		{"a:k 3 *j ?nope *nope ~nope | b:j | c:j.t ^1", "get 0 +k", "3", "1=c@0 2=b@0 3=a@0(1,2)"},
		{"a:k 3 +i | b:i 1 +j | c:j 2", "open 0; get 1 +j; get 1 +k; get 0 +j", "1 1 4 2", "<1 1=c@1 2=c@0 3=b@0(2) 4=a@1(3)"},
	} {
		checkLive(t, c.bindings, "", c.acts, c.replies, c.events)
	}
}

func TestHaveOfWrappers(t *testing.T) {
	for _, c := range []struct{ bindings, acts, replies, events string }{
		{"a:k | w:k wraps", "get 0 +k; get 0 +k", "2 4", "1=a@0 2=w@0(1) 3=a@0 4=w@0(3)"},
		{"a:k 1 | w:k wraps", "open 0; get 1 +k; get 0 +k", "1 2 2", "<1 1=a@0 2=w@0(1)"},
		{"a:k 2 | w:k wraps", "open 0; get 1 +k; get 1 +k; get 0 +k", "1 2 2 4", "<1 1=a@1 2=w@1(1) 3=a@0 4=w@0(3)"},
		{"a:k 2 | u:k wraps | v:k wraps ^-1 | w:k wraps ^1", "get 0 +k; get 0 +k", "4 4", "1=a@0 2=v@0(1) 3=u@0(2) 4=w@0(3)"},
		{"a:k 2 | v:k wraps ^5 | u:k wraps ^5 | w:k wraps ^-9223372036854775808", "get 0 +k", "4", "1=a@0 2=w@0(1) 3=u@0(2) 4=v@0(3)"},
		{"a:k 3 | w:k 1 wraps", "open 0; get 1 +k; get 1 +k", "1 2 4", "<1 1=a@1 2=w@1(1) 3=a@1 4=w@1(3)"},
		{"a:k 1 | w:k 2 wraps +j | b:j 2", "open 0; get 1 +k; get 1 +j", "1 3 4", "<1 1=a@0 2=b@0 3=w@0(1,2) 4=b@1"},
		{"a:k 2 +i | w:k wraps +j ?j ~j *j | b:j 3 | c:i", "get 0 +k", "6", "1=c@0 2=a@0(1) 3=b@0 4=b@0 5=b@0 6=w@0(2,3,4,5)"},
		{"a:k 3 | b:k.t 3 | w:k wraps | v:k.t wraps", "get 0 *k", "2,4", "1=a@0 2=w@0(1) 3=b@0 4=v@0(3)"},
		{"a:k 3 | b:k 3 ^1 | w:k wraps", "get 0 *k; get 0 +k", "2,4 6", "1=b@0 2=w@0(1) 3=a@0 4=w@0(3) 5=b@0 6=w@0(5)"},
		{"a:k 2 | w:k wraps +j | b:j 2 | v:j wraps", "get 0 +k; get 0 +j", "4 3", "1=a@0 2=b@0 3=v@0(2) 4=w@0(1,3)"},
		{"a:k | w:k wraps if=f | v:k wraps if=!f", "get 0 +k", "2", "1=a@0 2=v@0(1)"},
		{"c:j +k | a:k 2 | w:k wraps | v:k wraps", "get 0 +j; get 0 +k", "4 3", "1=a@0 2=v@0(1) 3=w@0(2) 4=c@0(3)"},
	} {
		checkLive(t, c.bindings, "", c.acts, c.replies, c.events)
	}
}

func TestMakeOfCodes(t *testing.T) {
	for _, c := range []struct{ bindings, acts, replies, events string }{
		{"a:k +nope", "get 0 +k", "none", ""},
		{"a:k +j | b:j | c:j", "get 0 +k", "twice", ""},
		{"a:k ?j | b:j | c:j", "get 0 +k", "twice", ""},
		{"a:k ~nope ~k", "get 0 +k", "1", "1=a@0"},
		{"a:k +i +nope | b:i", "get 0 +k", "none", "1=b@0 -1=b@0"},
		{"a:k +nope +j | b:j | c:j", "get 0 +k", "none", ""},
		{"a:k +j +nope | b:j | c:j", "get 0 +k", "twice", ""},
		{"a:k +i | b:i +nope", "get 0 +k", "none", ""},
		{"a:k wraps +nope | b:k", "get 0 +k", "none", "1=b@0 -1=b@0"},
		{"a:k +j if=f | b:k +nope | c:j", "get 0 +k", "none", ""},
	} {
		checkLive(t, c.bindings, "", c.acts, c.replies, c.events)
	}
}

func TestMakeOfLoops(t *testing.T) {
	for _, scope := range []string{"1", "2", "3"} {
		for _, c := range []struct{ bindings, acts, replies, events string }{
			{"a:k S +k", "get 0 +k; get 0 +k; open 0; get 1 +k", "loop loop 1 loop", "<1"},
			{"a:k S ?k", "get 0 +k", "loop", ""},
			{"a:k S *k", "get 0 *k", "loop", ""},
			{"a:k S ~k", "get 0 +k", "1", "1=a@0"},
			{"a:k S +j | b:j S +k", "get 0 +k; get 0 +j", "loop loop", ""},
			{"a:k S +x +j | b:j S +x +i | c:i S *k | x:x 3", "get 0 +k", "loop", "1=x@0 2=x@0 -2=x@0 -1=x@0"},
			{"a:k S | w:k wraps +k", "get 0 +k; get 0 +k", "loop loop", "1=a@0 -1=a@0 2=a@0 -2=a@0"},
			{"a:k S | w:k S wraps +j | b:j S +k", "get 0 +k", "loop", "1=a@0 -1=a@0"},
			{"a:k S | w:k S wraps +j | b:j S | v:j wraps +k", "get 0 +k", "loop", "1=a@0 2=b@0 -2=b@0 -1=a@0"},
			{"a:k S +j | b:j S | v:j wraps +k", "get 0 +k", "loop", "1=b@0 -1=b@0"},
			{"a:k S | w:k wraps | v:k wraps +k ^1", "get 0 +k", "loop", "1=a@0 2=w@0(1) -2=w@0 -1=a@0"},
			{"a:k S *j | b:j S ^1 | c:j S +k", "get 0 +k", "loop", "1=b@0 -1=b@0"},
		} {
			checkLive(t, strings.ReplaceAll(c.bindings, "S", scope), "", c.acts, c.replies, c.events)
		}
	}
}

// A binding is being made in whatever scope; what is kept where it is asked for is no loop.
func TestMakeOfLoopsThroughScopes(t *testing.T) {
	for _, c := range []struct{ bindings, acts, replies, events string }{
		{"a:k 2 +j | b:j 1 +k", "open 0; get 1 +k; get 0 +k; get 0 +j", "1 loop loop loop", "<1"},
		{"a:k 2 +j | b:j 1 +i | c:i 2 +k", "open 0; get 1 +k; get 1 +i; get 1 +j", "1 loop loop loop", "<1"},
		{"a:k 3 +j | b:j 1 +k", "open 0; get 1 +k", "1 loop", "<1"},
		{"a:k 2 | w:k wraps +j | b:j 1 +k", "open 0; get 1 +k", "1 loop", "<1 1=a@1 -1=a@1"},
		{"b:j 1 ~k | a:k 2 +j", "open 0; get 1 +k; force 1 0; get 1 +k", "1 2 3 2", "<1 1=b@0 2=a@1(1) 3=a@0(1)"},
	} {
		checkLive(t, c.bindings, "", c.acts, c.replies, c.events)
	}
}

// A wrapper is around all providers of its key, each with needs of its own.
func TestMakeOfWrappersOfManyProviders(t *testing.T) {
	bindings := "a:k 2 ^1 | b:k 2 if=!f | w:k wraps *j | c:j if=f 2 +k"
	checkLive(t, bindings, "", "get 0 *k", "2,4", "1=a@0 2=w@0(1) 3=b@0 4=w@0(3)")
	checkLive(t, bindings, "f", "get 0 *k", "loop", "1=a@0 -1=a@0")
	checkLive(t, "a:k 2 ^1 | b:k 2 | w:k wraps +j | c:j 2 ?i | d:i 3", "", "get 0 *k", "4,6", "1=a@0 2=d@0 3=c@0(2) 4=w@0(1,3) 5=b@0 6=w@0(5,3)")
	checkLive(t, "a:k 2 ^1 | b:k 2 | w:k wraps +j | c:j 3", "", "get 0 *k; break b; get 0 *k; open 0; get 1 *k", "3,6 ok 3,6 1 fail", "1=a@0 2=c@0 3=w@0(1,2) 4=b@0 5=c@0 6=w@0(4,5) <1 7=a@1 8=c@1 9=w@1(7,8) -9=w@1 -8=c@1 -7=a@1")
}

func TestMakeOfBrokenOnes(t *testing.T) {
	for _, c := range []struct{ bindings, acts, replies, events string }{
		{"a:k 1", "break a; get 0 +k; get 0 ?k; get 0 *k; get 0 ~k", "ok fail fail fail fail", ""},
		{"a:k 2 +j | b:j", "break a; get 0 +k", "ok fail", "1=b@0 -1=b@0"},
		{"a:k 2 +j | b:j", "break b; get 0 +k", "ok fail", ""},
		{"a:k 2 +j ?i | b:j | c:i", "break c; get 0 +k", "ok fail", "1=b@0 -1=b@0"},
		{"a:k 2 +nope", "break a; get 0 +k", "ok none", ""},
		{"a:k 2 +k", "break a; get 0 +k", "ok loop", ""},
		{"a:k 2 | w:k wraps", "break w; get 0 +k", "ok fail", "1=a@0 -1=a@0"},
		{"a:k 2 | w:k wraps +j | b:j", "break w; get 0 +k", "ok fail", "1=a@0 2=b@0 -2=b@0 -1=a@0"},
		{"a:k 2 | w:k wraps +nope", "break w; get 0 +k", "ok none", "1=a@0 -1=a@0"},
		{"a:k 2 | w:k wraps | v:k wraps ^1", "break v; get 0 +k; break w; get 0 +k; break a; get 0 +k", "ok fail ok fail ok fail", "1=a@0 2=w@0(1) -2=w@0 -1=a@0 3=a@0 -3=a@0"},
		{"a:k 2 ~j | b:j", "break b; get 0 +k", "ok 1", "1=a@0"},
		{"a:k 2 ^1 | b:k 1", "break b; get 0 *k; get 0 +k", "ok fail 2", "1=a@0 -1=a@0 2=a@0"},
	} {
		checkLive(t, c.bindings, "", c.acts, c.replies, c.events)
	}
}

// What was made in an act that fails goes, the last one first, and is not kept; what was kept ahead of it stays.
func TestFailedGetsLeaveNothing(t *testing.T) {
	for _, c := range []struct{ bindings, acts, replies, events string }{
		{"a:k 1 +j | b:j 1", "break a; get 0 +k; mend a; get 0 +k; get 0 +j", "ok fail ok 3 2", "1=b@0 -1=b@0 2=b@0 3=a@0(2)"},
		{"a:k 2 +j +i | b:j 1 | c:i 2", "open 0; break a; get 1 +k; get 1 +i; mend a; get 1 +k; get 0 +k", "1 ok fail 3 ok 5 7", "<1 1=b@0 2=c@1 -2=c@1 -1=b@0 3=c@1 4=b@0 5=a@1(4,3) 6=c@0 7=a@0(4,6)"},
		{"a:k 2 +j +i | b:j 1 | c:i 2", "open 0; get 0 +j; break a; get 1 +k; get 1 +k; mend a; get 1 +k", "1 1 ok fail fail ok 5", "<1 1=b@0 2=c@1 -2=c@1 3=c@1 -3=c@1 4=c@1 5=a@1(1,4)"},
		{"a:k 3 ^2 | b:k 2 ^1 | c:k 1", "break c; get 0 *k; get 0 *k; mend c; get 0 *k", "ok fail fail ok 5,6,7", "1=a@0 2=b@0 -2=b@0 -1=a@0 3=a@0 4=b@0 -4=b@0 -3=a@0 5=a@0 6=b@0 7=c@0"},
		{"a:k 1 | w:k wraps | v:k wraps ^1", "break v; get 0 +k; mend v; get 0 +k; get 0 +k", "ok fail ok 5 5", "1=a@0 2=w@0(1) -2=w@0 -1=a@0 3=a@0 4=w@0(3) 5=v@0(4)"},
		{"a:k 1 +j +nope | b:j 1 +i | c:i 1", "open 0; get 1 +k; get 1 +i; get 1 +k; get 1 +j", "1 none 3 none 5", "<1 1=c@0 2=b@0(1) -2=b@0 -1=c@0 3=c@0 4=b@0(3) -4=b@0 5=b@0(3)"},
		{"a:k 1 +j | b:j 1", "get 0 +j; break a; get 0 +k; shut 0; get 0 +k", "1 ok fail ok state", "1=b@0 -1=b@0 >0"},
		{"a:k 1 +j | b:j 3", "break a; get 0 +k; shut 0", "ok fail ok", "1=b@0 -1=b@0 >0"},
	} {
		checkLive(t, c.bindings, "", c.acts, c.replies, c.events)
	}
}

func TestForce(t *testing.T) {
	for _, c := range []struct{ bindings, acts, replies, events string }{
		{"a:k ~j | b:j", "get 0 +k; force 1 0; force 1 0; force 1 1; force 2 0; force 1 -1", "1 2 2 none none none", "1=a@0 2=b@0"},
		{"a:k ~j | b:j", "force 1 0; force 0 0; get 0 +k; force 1 0; get 0 +j; force 1 0", "none none 1 2 3 2", "1=a@0 2=b@0 3=b@0"},
		{"a:k +i ~j ?i ~i ~j | b:j | c:i", "get 0 +k; force 3 1; force 3 0; force 3 2; force 3 3; force 3 1; force 3 2", "3 4 5 6 none 4 6", "1=c@0 2=c@0 3=a@0(1,2) 4=c@0 5=b@0 6=b@0"},
		{"a:k 2 ~j | b:j 2", "open 0; get 1 +k; get 0 +k; force 1 0; force 2 0; get 1 +j; get 0 +j", "1 1 2 3 4 3 4", "<1 1=a@1 2=a@0 3=b@1 4=b@0"},
		{"a:k 1 ~j | b:j 2", "open 0; get 1 +k; get 1 +j; force 1 0; get 1 +j", "1 1 2 3 2", "<1 1=a@0 2=b@1 3=b@0"},
		{"a:k 2 ~j | b:j 1", "open 0; get 1 +k; force 1 0; shut 1; get 0 +j", "1 1 2 ok 2", "<1 1=a@1 2=b@0 -1=a@1 >1"},
		{"a:k 2 ~j | b:j 3", "open 0; get 1 +k; force 1 0; shut 1; force 1 0; force 2 0", "1 1 2 ok none none", "<1 1=a@1 2=b@1 -2=b@1 -1=a@1 >1"},
		{"a:k 1 ~k", "get 0 +k; force 1 0; force 1 0", "1 1 1", "1=a@0"},
		{"a:k 3 ~k", "get 0 +k; force 1 0; force 2 0; force 1 0; force 3 0", "1 2 3 2 4", "1=a@0 2=a@0 3=a@0 4=a@0"},
		{"a:k 1 ~j | b:j 1 ~k", "get 0 +k; force 1 0; force 2 0", "1 2 1", "1=a@0 2=b@0"},
		{"a:k ~j | b:j | w:j wraps | v:j wraps ^1", "get 0 +k; force 1 0; force 1 0", "1 4 4", "1=a@0 2=b@0 3=w@0(2) 4=v@0(3)"},
		{"a:k | w:k wraps ~j | b:j", "get 0 +k; force 1 0; force 2 0; force 2 0", "2 none 3 3", "1=a@0 2=w@0(1) 3=b@0"},
		{"a:k ~j | b:j | c:j.t", "get 0 +k; force 1 0", "1 2", "1=a@0 2=b@0"},
		{"a:k ~j.t | b:j | c:j.t", "get 0 +k; force 1 0", "1 2", "1=a@0 2=c@0"},
		{"a:k +j ?j *j | b:j 1", "get 0 +k; force 2 0; force 1 0", "2 none none", "1=b@0 2=a@0(1,1,1)"},
	} {
		checkLive(t, c.bindings, "", c.acts, c.replies, c.events)
	}
}

// One that has a code is asked anew; the first that is OK is kept, whatever comes behind it.
func TestForceThatFails(t *testing.T) {
	for _, c := range []struct{ bindings, flags, acts, replies, events string }{
		{"a:k ~nope", "", "get 0 +k; force 1 0; force 1 0", "1 none none", "1=a@0"},
		{"a:k ~j | b:j | c:j", "", "get 0 +k; force 1 0; force 1 0", "1 twice twice", "1=a@0"},
		{"a:k ~j | b:j if=f", "", "get 0 +k; force 1 0", "1 none", "1=a@0"},
		{"a:k ~j | b:j if=f", "f", "get 0 +k; force 1 0", "1 2", "1=a@0 2=b@0"},
		{"a:k ~j | b:j +j", "", "get 0 +k; force 1 0; force 1 0", "1 loop loop", "1=a@0"},
		{"a:k ~j | b:j", "", "get 0 +k; break b; force 1 0; force 1 0; mend b; force 1 0; break b; force 1 0", "1 ok fail fail ok 2 ok 2", "1=a@0 2=b@0"},
		{"a:k ~j | b:j 1 +i | c:i 1", "", "get 0 +k; break b; force 1 0; get 0 +i; force 1 0; mend b; force 1 0; force 1 0", "1 ok fail 3 fail ok 4 4", "1=a@0 2=c@0 -2=c@0 3=c@0 4=b@0(3)"},
		{"a:k 2 ~j ~i | b:j 1 +i | c:i 2 +h | d:h 3", "", "open 0; get 1 +k; break b; force 1 0; force 1 1; mend b; force 1 0; force 1 1", "1 1 ok fail 5 ok 8 5", "<1 1=a@1 2=d@0 3=c@0(2) -3=c@0 -2=d@0 4=d@1 5=c@1(4) 6=d@0 7=c@0(6) 8=b@0(7)"},
		{"a:k ~j | b:j | w:j wraps", "", "get 0 +k; break w; force 1 0; mend w; force 1 0", "1 ok fail ok 4", "1=a@0 2=b@0 -2=b@0 3=b@0 4=w@0(3)"},
		{"a:k +i ~j | b:j | c:i", "", "break a; get 0 +k; force 1 0; mend a; get 0 +k; force 1 0; force 2 0; force 3 0", "ok fail none ok 3 none none 4", "1=c@0 -1=c@0 2=c@0 3=a@0(2) 4=b@0"},
	} {
		checkLive(t, c.bindings, c.flags, c.acts, c.replies, c.events)
	}
}

// Numbers of any size, of instances and of lazy needs.
func TestForceOfAnyNumber(t *testing.T) {
	list := bindingsOf(t, "a:k ~j ~i | b:j | c:i")
	get := impl.Act{Kind: impl.AcGet, Want: impl.Want{Key: "k", Mode: 1}}
	for _, inst := range append([]int{7, -7, 256}, anyNumbers...) {
		for _, lazy := range append([]int{7, -7, 256}, anyNumbers...) {
			acts := []impl.Act{get, {Kind: impl.AcForce, Inst: inst, Lazy: lazy}}
			want := "1 none"
			if inst == 1 && (lazy == 0 || lazy == 1) {
				want = "1 2"
			}
			if got := showReplies(impl.Live(list, nil, acts).Replies); got != want {
				t.Errorf("%d, %d: %s, not %s", inst, lazy, got, want)
			}
		}
	}
}

// All lazy needs that a binding may have.
func TestForceOfManyNeeds(t *testing.T) {
	list := bindingsOf(t, "a:k ~j ~j ~j ~j ~j ~j ~j ~j | b:j")
	var acts []impl.Act
	acts = append(acts, impl.Act{Kind: impl.AcGet, Want: impl.Want{Key: "k", Mode: 1}})
	for range 3 {
		for lazy := 8; lazy >= 0; lazy-- {
			acts = append(acts, impl.Act{Kind: impl.AcForce, Inst: 1, Lazy: lazy})
		}
	}
	x := impl.Live(list, nil, acts)
	round := " none 2 3 4 5 6 7 8 9"
	if got := showReplies(x.Replies); got != "1"+strings.Repeat(round, 3) {
		t.Error(got)
	}
}

// tower: each binding has eight needs of the next one, so that one of the first key comes to so many instances.
func tower(height int) []impl.Binding {
	list := manyBindings(height)
	for i := range list {
		list[i].Key, list[i].Scope = "k"+strconv.Itoa(i), impl.ScFresh
		if i+1 < height {
			list[i].Needs = repeated(8, impl.Want{Key: "k" + strconv.Itoa(i+1), Mode: impl.WantOne})
		}
	}
	return list
}

func TestMakeOfManyInstances(t *testing.T) {
	get := func(key string) impl.Act {
		return impl.Act{Kind: impl.AcGet, Want: impl.Want{Key: key, Mode: impl.WantOne}}
	}
	for height := 1; height <= impl.MaxBindings; height++ {
		acts := []impl.Act{get("k0"), {Kind: impl.AcShut}}
		list := tower(height)
		x := impl.Live(list, nil, acts)
		checkSameLife(t, list, nil, acts, wantLive(list, nil, acts))
		checkP8(t, list, nil, acts, x)
		made, want := 0, impl.ErrMany
		if height <= 4 {
			want = impl.OK
		}
		for _, e := range x.Events {
			if e.Kind == impl.LvMade {
				made++
			}
		}
		if x.Replies[0].Code != want || made != []int{1, 9, 73, 585, 1000}[min(height, 5)-1] {
			t.Errorf("%d: %d instances, code %d", height, made, x.Replies[0].Code)
		}
		if names, code := impl.Plan(list, nil, acts[0].Want); code != want || code != impl.OK && len(names) > 0 || code == impl.OK && len(names) != made {
			t.Errorf("%d: Plan of %d names, code %d", height, len(names), code)
		}
	}
}

// MaxInsts instances and one more; those that have gone count, too.
func TestMakeUpToMaxInsts(t *testing.T) {
	list := bindingsOf(t, "a:k 3 *j | s:one 1 | f:fresh 3 +one | p:pair 3 +fresh +fresh | w:one.w 3 | v:one.w wraps")
	for range 9 {
		list = append(list, impl.Binding{Name: "b" + strconv.Itoa(len(list)), Key: "j", Scope: impl.ScFresh})
	}
	get := func(scope int, key string) impl.Act {
		key, tag, _ := strings.Cut(key, ".")
		return impl.Act{Kind: impl.AcGet, Scope: scope, Want: impl.Want{Key: key, Tag: tag, Mode: impl.WantOne}}
	}
	acts := []impl.Act{{Kind: impl.AcOpen}, get(0, "one")}
	for range 99 {
		acts = append(acts, get(1, "k"))
	}
	acts = append(acts, impl.Act{Kind: impl.AcShut, Scope: 1})
	for range 6 {
		acts = append(acts, get(0, "fresh"))
	}
	ahead := len(acts)
	for _, c := range []struct{ keys, replies string }{
		{"pair pair fresh one", "1000 many many 1"},
		{"fresh pair fresh one", "998 many many 1"}, // a pair that fails has made its parts: they count, though they have gone
		{"fresh fresh pair fresh", "998 999 many many"},
		{"fresh fresh fresh fresh one", "998 999 1000 many 1"},
		{"fresh fresh one.w fresh", "998 999 many many"},
		{"fresh one.w fresh", "998 1000 many"},
		{"one fresh k", "1 998 many"},
		{"k one fresh", "many 1 many"},
	} {
		more := slices.Clone(acts)
		for _, key := range strings.Fields(c.keys) {
			more = append(more, get(0, key))
		}
		x := impl.Live(list, nil, more)
		if got := showReplies(x.Replies[ahead:]); got != c.replies {
			t.Errorf("%s: %s, not %s", c.keys, got, c.replies)
		}
		checkSameLife(t, list, nil, more, wantLive(list, nil, more))
		checkP8(t, list, nil, more, x)
	}
}
