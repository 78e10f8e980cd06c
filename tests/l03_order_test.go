package tests

import (
	"reflect"
	"runtime"
	"slices"
	"strconv"
	"strings"
	"sync"
	"testing"

	"loop.example/g00045/impl"
)

func TestLimitsOfChapter4(t *testing.T) {
	if impl.MaxFiles != 8 || impl.MaxThings != 300 {
		t.Errorf("limits %d, %d", impl.MaxFiles, impl.MaxThings)
	}
}

// packAnswers: all that the calls of chapter 4 answer of one package.
type packAnswers struct {
	code      int
	name      string
	values    []impl.Value
	constCode int
	circle    []string
	needs     [][]string
	needCodes []int
	order     []string
	initCode  int
	initNames []string
}

// askedNames: those that a package has, and others.
func askedNames(files []impl.File) []string {
	names := []string{"", "nope", "x", "p", "q", "f1", "var", strings.Repeat("n", impl.MaxName), strings.Repeat("n", impl.MaxText)}
	for _, x := range thingsOf(files) {
		names = append(names, x.name)
	}
	return names
}

func answersOf(files []impl.File, names []string) packAnswers {
	var a packAnswers
	a.code, a.name = impl.CheckPackage(files)
	a.values, a.constCode, a.circle = impl.ConstValues(files)
	for _, name := range names {
		needs, code := impl.Needs(files, name)
		a.needs, a.needCodes = append(a.needs, tidyList(needs)), append(a.needCodes, code)
	}
	a.order, a.initCode, a.initNames = impl.InitOrder(files)
	return a.tidied()
}

func wantAnswers(files []impl.File, names []string) packAnswers {
	var a packAnswers
	a.code, a.name = wantCheck(files)
	a.values, a.constCode, a.circle = wantConsts(files)
	for _, name := range names {
		needs, code := wantNeeds(files, name, a.code)
		a.needs, a.needCodes = append(a.needs, tidyList(needs)), append(a.needCodes, code)
	}
	a.order, a.initCode, a.initNames = wantInit(files)
	return a.tidied()
}

func (a packAnswers) tidied() packAnswers {
	a.values, a.circle, a.order, a.initNames = tidyList(a.values), tidyList(a.circle), tidyList(a.order), tidyList(a.initNames)
	return a
}

// checkPack holds all answers of a package, in that order of its files, against the second telling, and P4 against the answers themselves.
func checkPack(t *testing.T, files []impl.File) packAnswers {
	t.Helper()
	names := askedNames(files)
	got, want := answersOf(files, names), wantAnswers(files, names)
	if !reflect.DeepEqual(got, want) {
		t.Fatalf("%s\n%+v, not\n%+v", showPackage(files), got, want)
	}
	checkP4(t, files, got)
	return got
}

// varNeeds: what Needs tells of each var.
func varNeeds(t *testing.T, files []impl.File) map[string][]string {
	t.Helper()
	out := map[string][]string{}
	for _, x := range thingsOf(files) {
		needs, code := impl.Needs(files, x.name)
		if x.kind == impl.DVar && code != impl.OK {
			t.Fatalf("%s\nNeeds of %s: code %d", showPackage(files), x.name, code)
		}
		out[x.name] = needs
	}
	return out
}

// checkP4: the promise, by what the calls themselves answer.
func checkP4(t *testing.T, files []impl.File, a packAnswers) {
	t.Helper()
	if a.code != impl.OK || a.constCode != impl.OK {
		return
	}
	if a.initCode == impl.ErrLoop {
		checkCircle(t, files, a.initNames)
		return
	}
	needs := varNeeds(t, files)
	left := slices.DeleteFunc(thingsOf(files), func(x oneThing) bool { return x.kind != impl.DVar })
	var ahead []string
	for _, name := range a.order {
		canStand := func(x oneThing) bool {
			return !slices.ContainsFunc(needs[x.name], func(need string) bool { return !slices.Contains(ahead, need) })
		}
		at := slices.IndexFunc(left, canStand)
		if at < 0 || left[at].name != name {
			t.Fatalf("%s\n%v: behind %v stands %s", showPackage(files), a.order, ahead, name)
		}
		left = slices.Delete(left, at, at+1)
		ahead = append(ahead, name)
	}
	if len(left) > 0 {
		t.Fatalf("%s\n%v: not all vars are in it", showPackage(files), a.order)
	}
}

func checkCircle(t *testing.T, files []impl.File, row []string) {
	t.Helper()
	things, needs := thingsOf(files), varNeeds(t, files)
	var vars []string
	for _, name := range row {
		if things[placeOf(things, name)].kind == impl.DVar {
			vars = append(vars, name)
		}
	}
	if len(vars) == 0 || vars[0] != row[0] {
		t.Fatalf("%s\n%v begins with no var", showPackage(files), row)
	}
	for i, name := range vars {
		if next := vars[(i+1)%len(vars)]; !slices.Contains(needs[name], next) {
			t.Fatalf("%s\n%v: %s does not need %s", showPackage(files), row, name, next)
		}
	}
}

// Packages of any make: each answer is the second telling's, in any order of the files.
func TestPackagesOfAnyMake(t *testing.T) {
	s := newSource()
	codes, constCodes, initCodes, lengths := map[int]int{}, map[int]int{}, map[int]int{}, map[int]int{}
	for i := range 4000 {
		files := anyPackage(t, s, 4, []int{0, 0, 3, 40, 200}[i%5], 1+s.IntN(4))
		a := checkPack(t, files)
		codes[a.code]++
		constCodes[a.constCode]++
		initCodes[a.initCode]++
		if a.constCode == impl.OK {
			lengths[len(a.initNames)]++
		}
		s.Shuffle(len(files), func(i, k int) { files[i], files[k] = files[k], files[i] })
		if again := answersOf(files, nil); again.code != a.code || again.name != a.name || !reflect.DeepEqual(again.values, a.values) || !reflect.DeepEqual(again.order, a.order) || !reflect.DeepEqual(again.initNames, a.initNames) {
			t.Fatalf("%s\n%+v, in another order\n%+v", showPackage(files), a, again)
		}
	}
	for _, code := range []int{impl.OK, impl.ErrTwice, impl.ErrName, impl.ErrKind, impl.ErrRange} {
		if codes[code] < 30 {
			t.Errorf("CheckPackage: %v", codes)
		}
	}
	if constCodes[impl.OK] < 500 || constCodes[impl.ErrLoop] < 100 || constCodes[impl.ErrZero] < 100 {
		t.Errorf("ConstValues: %v", constCodes)
	}
	if initCodes[impl.OK] < 500 || lengths[1] < 50 || lengths[2] < 50 || lengths[3] < 5 {
		t.Errorf("InitOrder: %v, circles %v", initCodes, lengths)
	}
}

// P4: one to MaxFiles files in every order of the list.
func TestPackagesInEveryOrder(t *testing.T) {
	s := newSource()
	for count := 1; count <= 5; count++ {
		for _, wild := range []int{0, 0, 3, 40} {
			files := anyPackage(t, s, 1, wild, 2)
			for len(files) < count {
				more := anyPackage(t, s, 1, 0, 1)[0]
				more.Name = "n" + strconv.Itoa(len(files))
				files = append(files, renamed(t, more, strconv.Itoa(len(files))))
			}
			names := askedNames(files)
			want := checkPack(t, files)
			orders(files, func(list []impl.File) {
				if got := answersOf(list, names); !reflect.DeepEqual(got, want) {
					t.Fatalf("%s\n%+v, not\n%+v", showPackage(list), got, want)
				}
			})
		}
	}
}

// renamed: the names that a file declares, and its uses of them, get a tail.
func renamed(t *testing.T, f impl.File, tail string) impl.File {
	t.Helper()
	f = tidy(f)
	things := thingsOf([]impl.File{f})
	turn := func(name *string) {
		if placeOf(things, *name) >= 0 {
			*name += tail
		}
	}
	for i := range f.Decls {
		for k := range f.Decls[i].Names {
			turn(&f.Decls[i].Names[k])
		}
		for k := range f.Decls[i].Params {
			turn(&f.Decls[i].Params[k])
		}
		for k := range f.Decls[i].Body {
			turn(&f.Decls[i].Body[k].Name)
		}
	}
	for i := range f.Nodes {
		if f.Nodes[i].Pkg == "" {
			turn(&f.Nodes[i].Name)
		}
	}
	return f
}

// MaxFiles files, each with some of one package: all orders of the list, shared among workers; each call of some of them.
func TestMaxFilesInEveryOrder(t *testing.T) {
	right := []string{"g:const k = m + 1;", "e:var a = f(k);", "B:var b = c;", "a:func f(x) = g() * x;", "c:var c = a + 1;", "d:func g() = d;", "aa:const m = 7;", "ab:var d, e = 2, b;"}
	circle := slices.Clone(right)
	circle[7] = "ab:var d, e = 2 + h(), b; func h() = e;"
	for _, texts := range [][]string{right, circle} {
		files := readPackage(t, texts...)
		want := checkPack(t, files)
		lists := make(chan []impl.File, 64)
		var workers sync.WaitGroup
		for range 8 {
			workers.Go(func() {
				for list := range lists {
					if order, code, row := impl.InitOrder(list); code != want.initCode || !slices.Equal(order, want.order) || !slices.Equal(row, want.initNames) {
						t.Errorf("%s\n%v, %d, %v", showPackage(list), order, code, row)
					}
				}
			})
		}
		count := 0
		orders(files, func(list []impl.File) {
			lists <- slices.Clone(list)
			if count++; count%97 == 0 {
				if got := answersOf(list, askedNames(files)); !reflect.DeepEqual(got, want) {
					t.Errorf("%s\n%+v, not\n%+v", showPackage(list), got, want)
				}
			}
		})
		close(lists)
		workers.Wait()
	}
}

// The order of declaration: files by their Names byte by byte, declarations as they stand, within a var its names.
func TestOrderOfDeclaration(t *testing.T) {
	names := []string{"A", "B", "Z", "_", "a", "a0", "a1", "a_", "aa", "ab", "b", "é", "ж", "Ω"}
	slices.Sort(names)
	for start := range names {
		var texts, want []string
		for i := range 8 {
			texts = append(texts, names[(start+i)%len(names)])
		}
		slices.Sort(texts)
		for i, name := range texts {
			own := []string{"z" + strconv.Itoa(i), "y" + strconv.Itoa(i), "w" + strconv.Itoa(i), "v" + strconv.Itoa(i)}
			want = append(want, own...)
			texts[i] = name + ":var " + own[0] + " = 1; init { } var " + own[1] + ", " + own[2] + " = 1, 2; const c" + strconv.Itoa(i) + " = 5; var " + own[3] + " = 3;"
		}
		slices.Reverse(texts)
		files := readPackage(t, texts...)
		if order, code, _ := impl.InitOrder(files); code != impl.OK || !slices.Equal(order, want) {
			t.Errorf("%v: %v, code %d", texts, order, code)
		}
		values, _, _ := impl.ConstValues(files)
		for i, value := range values {
			if value.Name != "c"+strconv.Itoa(i) || value.Num != 5 {
				t.Errorf("%v", values)
			}
		}
		checkPack(t, files)
	}
}

// keptPackage: what stands in a package's memory, behind its lists' ends too.
func keptPackage(files []impl.File) []impl.File {
	out := whole(files)
	for i := range out {
		out[i] = wholeFile(out[i])
	}
	return out
}

func roomyPackage(files []impl.File) []impl.File {
	out := roomy(files, impl.File{Name: "sign"})
	for i := range out {
		out[i] = roomyFile(out[i])
	}
	return out
}

// P1: the files stay as they were, answers do not hang on what was called ahead.
func TestPackagesAreNotChanged(t *testing.T) {
	s := newSource()
	var all [][]impl.File
	var before [][]impl.File
	var first []packAnswers
	for i := range 300 {
		files := roomyPackage(anyPackage(t, s, 4, []int{0, 40}[i%2], 2))
		all, before = append(all, files), append(before, keptPackage(files))
		first = append(first, answersOf(files, askedNames(files)))
	}
	for i := len(all) - 1; i >= 0; i-- {
		if again := answersOf(all[i], askedNames(all[i])); !reflect.DeepEqual(again, first[i]) {
			t.Fatalf("%s\n%+v, then %+v", showPackage(all[i]), first[i], again)
		}
	}
	for i := range all {
		if !reflect.DeepEqual(keptPackage(all[i]), before[i]) {
			t.Fatalf("%s\nwas changed", showPackage(all[i]))
		}
	}
}

// P1: an answer shares no memory with the files, and its lists none with one another.
func TestPackageAnswersAreNew(t *testing.T) {
	s := newSource()
	for i := range 400 {
		files := anyPackage(t, s, 3, []int{0, 0, 60}[i%3], 2)
		var lists []stretch
		var given []string
		for _, f := range files {
			lists, given = append(lists, fileLists(f)...), append(given, fileTexts(f)...)
		}
		names := askedNames(files)
		given = append(given, names...)
		answers := []rawAnswer{rawAnswers(files, names), rawAnswers(files, names)}
		for _, a := range answers {
			lists = append(lists, a.lists...)
			checkNewTexts(t, a.texts, given)
		}
		checkApart(t, lists)
		runtime.KeepAlive(answers)
	}
}

// rawAnswer keeps the answers too, so that none of their memory is given to another one.
type rawAnswer struct {
	lists []stretch
	texts []string
	kept  []any
}

func (a *rawAnswer) names(list []string) {
	a.lists, a.texts, a.kept = append(a.lists, stretchOf(list)), append(a.texts, list...), append(a.kept, list)
}

// checkNewTexts: none of an answer's texts lies within one that was handed in. It answers how many have a byte.
func checkNewTexts(t *testing.T, texts, given []string) int {
	t.Helper()
	count := 0
	for _, text := range texts {
		if slices.ContainsFunc(given, func(other string) bool { return isInside(text, other) }) {
			t.Fatalf("%q shares memory with what was handed in", text)
		}
		count += min(1, len(text))
	}
	return count
}

func rawAnswers(files []impl.File, names []string) rawAnswer {
	var a rawAnswer
	_, name := impl.CheckPackage(files)
	a.texts = append(a.texts, name)
	values, _, circle := impl.ConstValues(files)
	a.lists, a.kept = append(a.lists, stretchOf(values)), append(a.kept, values)
	for _, value := range values {
		a.texts = append(a.texts, value.Name)
	}
	a.names(circle)
	for _, name := range names {
		needs, _ := impl.Needs(files, name)
		a.names(needs)
	}
	order, _, row := impl.InitOrder(files)
	a.names(order)
	a.names(row)
	return a
}

// checkAll: each call of chapter 4 answers that code alone.
func checkAll(t *testing.T, what string, files []impl.File, want int, wantName string) {
	t.Helper()
	if code, name := impl.CheckPackage(files); code != want || name != wantName {
		t.Errorf("%s: CheckPackage %d %q, not %d %q", what, code, name, want, wantName)
	}
	if values, code, names := impl.ConstValues(files); code != want || len(values) > 0 || len(names) > 0 {
		t.Errorf("%s: ConstValues %v %d %v, not %d", what, values, code, names, want)
	}
	for _, name := range []string{"", "a", "nope", strings.Repeat("n", impl.MaxText)} {
		if needs, code := impl.Needs(files, name); code != want || len(needs) > 0 {
			t.Errorf("%s: Needs %v %d, not %d", what, needs, code, want)
		}
	}
	if order, code, names := impl.InitOrder(files); code != want || len(order) > 0 || len(names) > 0 {
		t.Errorf("%s: InitOrder %v %d %v, not %d", what, order, code, names, want)
	}
	if needs, code := impl.Needs(files, strings.Repeat("n", impl.MaxText+1)); code != impl.ErrLong || len(needs) > 0 {
		t.Errorf("%s: Needs of a name too long: %v %d", what, needs, code)
	}
}
