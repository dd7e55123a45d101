package match_test

import (
	"fmt"
	"math/rand"
	"slices"
	"strings"
	"testing"
	"unsafe"

	"watchbill/api"
	"watchbill/match"
	"watchbill/path"
)

// A second reading of the chapter: of each node of a tree, told one by one, whether its row has as many elements as there are steps, and each fits its step.

// one: a node, and the elements among which it stands, up to and with it.
type one struct {
	own   api.Node
	among []api.Node
}

// spot: a node's place, and its row.
type spot struct {
	place []int
	row   []one
}

// spots: of all nodes of a tree, level by level.
func spots(n api.Node) []spot {
	l := []spot{{nil, []one{{n, elements(n)}}}}
	for at := 0; at < len(l); at++ {
		kids := l[at].row[len(l[at].row)-1].own.Kids
		for i, k := range kids {
			x := one{k, elements(kids[:i+1]...)}
			l = append(l, spot{append(slices.Clone(l[at].place), i), append(slices.Clone(l[at].row), x)})
		}
	}
	return l
}

// elements: those of some nodes that are.
func elements(l ...api.Node) []api.Node {
	return slices.DeleteFunc(slices.Clone(l), func(n api.Node) bool { return n.Kind != api.Element })
}

// wantedFit: does a node fit a step where it stands?
func wantedFit(x one, s api.Step) bool {
	other := func(n api.Node) bool {
		return !s.Any && (n.Name.Local != s.Name.Local || n.Name.Space != s.Name.Space)
	}
	value, has := wantedAttr(x.own, s.Attr)
	same := slices.DeleteFunc(slices.Clone(x.among), other)
	return x.own.Kind == api.Element && s.Kind == api.StepName && !other(x.own) &&
		(s.Pos == 0 || len(same) == s.Pos) && (!s.By || has && value == s.Value)
}

// wantedAttr: the first attribute of that name.
func wantedAttr(n api.Node, name api.Name) (string, bool) {
	values := map[api.Name]string{}
	for _, a := range slices.Backward(n.Attrs) {
		values[a.Name] = a.Value
	}
	value, has := values[name]
	return value, has
}

// wantedSpots: those of all elements that are selected, in the order of their places.
func wantedSpots(l []spot, steps []api.Step) []spot {
	var out []spot
	for _, x := range l {
		if slices.EqualFunc(x.row, steps, wantedFit) {
			out = append(out, x)
		}
	}
	slices.SortFunc(out, func(a, b spot) int { return slices.Compare(a.place, b.place) })
	return out
}

// wantedSplit: the steps of the element, and the last one.
func wantedSplit(l []api.Step) ([]api.Step, api.Step) {
	for i, s := range l {
		if i == len(l)-1 && (s.Kind == 2 || s.Kind == 3) {
			return l[:i], s
		}
	}
	return l, api.Step{}
}

// wantedSelect: the place of the only element, or how it is wrong.
func wantedSelect(all []spot, l []api.Step) ([]int, api.Errno) {
	steps, last := wantedSplit(l)
	found := wantedSpots(all, steps)
	if len(found) == 0 {
		return nil, api.ErrNone
	}
	if len(found) > 1 {
		return nil, api.ErrMany
	}
	if _, has := wantedAttr(found[0].row[len(steps)-1].own, last.Name); last.Kind == 2 && !has {
		return nil, api.ErrNone
	}
	return found[0].place, api.OK
}

// holds: all that is answered of a tree, whose spots these are, and a row of steps must be as it is read here.
func holds(t *testing.T, n api.Node, all []spot, l []api.Step) api.Errno {
	t.Helper()
	found, want := match.Find(n, l...), wantedSpots(all, l)
	if !slices.EqualFunc(found, want, func(p []int, x spot) bool { return slices.Equal(p, x.place) }) {
		t.Errorf("Find(%+v, %+v) = %v, not %+v", n, l, found, want)
	}
	place, e := match.Select(n, l...)
	if p, wanted := wantedSelect(all, l); e != wanted || !slices.Equal(place, p) {
		t.Errorf("Select(%+v, %+v) = %v, %d, not %v, %d", n, l, place, e, p, wanted)
	}
	steps, last := match.Split(l)
	if s, z := wantedSplit(l); !slices.Equal(steps, s) || last != z {
		t.Errorf("Split(%+v) = %+v, %+v, not %+v, %+v", l, steps, last, s, z)
	}
	return e
}

// holdsOfKids: whether each kid of a node fits a step must be as it is read here.
func holdsOfKids(t *testing.T, n api.Node, s api.Step) {
	t.Helper()
	var want []int
	for _, x := range spots(n) {
		if len(x.place) == 1 && wantedFit(x.row[1], s) {
			want = append(want, x.place[0])
		}
	}
	fits(t, n, s, want...)
}

// lists: all lists of so many at most, of some.
func lists[T any](some []T, most int) [][]T {
	out := [][]T{nil}
	last := out
	for range most {
		var longer [][]T
		for _, l := range last {
			for _, x := range some {
				longer = append(longer, append(slices.Clone(l), x))
			}
		}
		out, last = append(out, longer...), longer
	}
	return out
}

// someSteps: of each kind, with and without all that may be asked.
func someSteps() []api.Step {
	l := []api.Step{attr("k"), attr("u:k"), spaces(), {}, {Kind: 4, Any: true}}
	for _, s := range []api.Step{every(), named("a"), named("u:a")} {
		for _, pos := range []int{0, 1, 2, 3} {
			l = append(l, at(s, pos), by(at(s, pos), "k", "1"))
		}
	}
	return append(l, named("b"), at(named("b"), 1), by(every(), "k", "2"), by(every(), "u:k", "1"), at(every(), -1), at(named("a"), 4))
}

// someKids: nodes of each kind.
func someKids() []api.Node {
	return []api.Node{
		el("a"), with(attrs("k", "1"), el("a", el("a"), tx("x"), el("b"), el("a"))), with(attrs("u:k", "1", "k", "2", "k", "1"), el("u:a")),
		tx("x"), of(3, with(attrs("k", "1"), el("a", el("a")))),
	}
}

func TestAllSmallTrees(t *testing.T) { // P12.1, P12.2
	errors := map[api.Errno]int{}
	count := 0
	short, long := lists(someSteps(), 2), lists([]api.Step{every(), at(named("a"), 2), attr("k"), by(named("a"), "k", "1"), spaces(), named("b")}, 4)
	for i, kids := range lists(someKids(), 4) {
		n := with(attrs("k", "1"), el("a", kids...))
		if len(kids) < 4 {
			for _, s := range someSteps() {
				holdsOfKids(t, n, s)
			}
		}
		all, rows := spots(n), long
		if len(kids) < 3 {
			rows = slices.Concat(short, long)
		} else if len(kids) == 4 {
			rows = rows[i%29*40 : i%29*40+40] // of so many trees some rows each
		}
		for _, l := range rows {
			count++
			errors[holds(t, n, all, l)]++
		}
	}
	if count < 100000 || errors[api.OK] < 1000 || errors[api.ErrNone] < 1000 || errors[api.ErrMany] < 1000 {
		t.Errorf("only %d rows: %v", count, errors)
	}
}

// chanceNode: a tree by chance, so deep at most.
func chanceNode(r *rand.Rand, depth int) api.Node {
	n := el([]string{"a", "u:a", "b", "a"}[r.Intn(4)])
	switch r.Intn(10) {
	case 0, 1:
		n = tx("x")
	case 2:
		n.Kind = r.Intn(6) - 1
	}
	for range r.Intn(4) {
		n.Attrs = append(n.Attrs, attrs([]string{"k", "u:k", "l"}[r.Intn(3)], fmt.Sprint(r.Intn(3)))...)
	}
	if depth > 0 && (n.Kind == api.Element || r.Intn(3) == 0) {
		for range r.Intn(6) {
			n.Kids = append(n.Kids, chanceNode(r, depth-1))
		}
	}
	return n
}

// chanceStep: one by chance; mostly of elements.
func chanceStep(r *rand.Rand) api.Step {
	s := named([]string{"a", "u:a", "b"}[r.Intn(3)])
	if r.Intn(3) == 0 {
		s = every()
	}
	if r.Intn(3) == 0 {
		s.Pos = r.Intn(5) - r.Intn(2)
	}
	if r.Intn(4) == 0 {
		s = by(s, []string{"k", "u:k", "l"}[r.Intn(3)], fmt.Sprint(r.Intn(3)))
		s.By = r.Intn(5) > 0
	}
	if r.Intn(20) == 0 {
		s.Kind = r.Intn(6) - 1
	}
	return s
}

// chanceRow: steps by chance; some are those of one of the tree's elements, but for one.
func chanceRow(r *rand.Rand, n api.Node) []api.Step {
	var l []api.Step
	if places := path.Places(n); len(places) > 0 && r.Intn(2) == 0 {
		l = own(n, places[r.Intn(len(places))])
		for range r.Intn(3) {
			l[r.Intn(len(l))] = chanceStep(r)
		}
		if i := r.Intn(len(l)); r.Intn(2) == 0 {
			l[i].Pos = 0
		}
	} else {
		for range r.Intn(6) {
			l = append(l, chanceStep(r))
		}
	}
	switch r.Intn(6) {
	case 0:
		l = append(l, attr([]string{"k", "u:k", "l"}[r.Intn(3)]))
	case 1:
		l = append(l, spaces())
	}
	return l
}

func TestChanceTrees(t *testing.T) { // P12.1, P12.2, P12.3
	r := rand.New(rand.NewSource(12))
	errors := map[api.Errno]int{}
	for range 2500 {
		n := chanceNode(r, 4)
		if r.Intn(10) > 0 {
			n.Kind = api.Element
		}
		all := spots(n)
		for range 4 {
			l := chanceRow(r, n)
			errors[holds(t, n, all, l)]++
			selectsNoMore(t, n, l, in([]string{"a", "u:a", "b"}[r.Intn(3)]))
		}
		holdsOfKids(t, n, chanceStep(r))
		for _, x := range all {
			if l := own(n, x.place); !slices.ContainsFunc(x.row, func(o one) bool { return o.own.Kind != api.Element }) {
				finds(t, n, l, x.place)
				selects(t, n, l, x.place...)
			}
		}
	}
	if errors[api.OK] < 1000 || errors[api.ErrNone] < 1000 || errors[api.ErrMany] < 300 {
		t.Errorf("only %v", errors)
	}
}

// roomy: a node whose lists have spare room, in which something stands.
func roomy(n api.Node) api.Node {
	kids := make([]api.Node, 0, len(n.Kids)+3)
	for _, k := range n.Kids {
		kids = append(kids, roomy(k))
	}
	as := append(make([]api.Attr, 0, len(n.Attrs)+3), n.Attrs...)
	for i := len(kids); i < cap(kids); i++ {
		kids[:cap(kids)][i] = el("b", el("b"))
	}
	for i := len(as); i < cap(as); i++ {
		as[:cap(as)][i] = attrs("k", "1")[0]
	}
	n.Kids, n.Attrs = kids, as
	return n
}

// whole: a node with the spare room of its lists.
func whole(n api.Node) string {
	var b strings.Builder
	fmt.Fprintf(&b, "(%d %q %q %q", n.Kind, n.Name, n.Text, n.Attrs[:cap(n.Attrs)])
	for _, k := range n.Kids[:cap(n.Kids)] {
		b.WriteString(" " + whole(k))
	}
	return b.String() + ")"
}

// roomySteps: those with spare room, in which others stand.
func roomySteps(l []api.Step) []api.Step {
	room := slices.Repeat([]api.Step{attr("spare")}, len(l)+4)
	return append(room[:0], l...)
}

func TestWhatIsHandedInStaysAsItWas(t *testing.T) { // rules 3 and 4
	n := roomy(parsed(t, house))
	was, all := whole(n), spots(n)
	for _, s := range []string{"a", "a/b", "a/*[2]/*", "a/b/b/b", "a/@k", "a/b/namespace::*", "a/z", "*/*/*/*/*", "a/*/d[@k='1']/@k"} {
		l := roomySteps(read(t, s))
		first := fmt.Sprint(l[:cap(l)])
		for range 3 {
			holds(t, n, all, l)
			holdsOfKids(t, n, l[len(l)-1])
			if len(l) > 1 {
				holds(t, n, all, l[:1])
				holds(t, n, all, l[1:])
			}
		}
		if whole(n) != was || fmt.Sprint(l[:cap(l)]) != first {
			t.Fatalf("%s: what was handed in is %s, %+v", s, whole(n), l[:cap(l)])
		}
	}
}

// loan: bytes as a text of the same memory, and what writes over it.
func loan(s string) (text string, spoil func()) {
	b := []byte(s)
	return unsafe.String(unsafe.SliceData(b), len(b)), func() {
		for i := range b {
			b[i] = '#'
		}
	}
}

func TestStepsOfAnswersAreNewMemory(t *testing.T) { // rule 3
	for _, last := range []int{api.StepName, api.StepAttr, api.StepSpace} {
		var spoils []func()
		lent := func(s string) string {
			text, spoil := loan(s)
			spoils = append(spoils, spoil)
			return text
		}
		step := func(kind int, text func(s string) string) api.Step {
			return api.Step{Kind: kind, Name: api.Name{Space: text("urn:x"), Local: text("local")}, Pos: 2, By: true, Attr: api.Name{Space: text("urn:y"), Local: text("attr")}, Value: text("value")}
		}
		plain := func(s string) string { return s }
		l := []api.Step{step(api.StepName, lent), step(api.StepName, lent), step(last, lent)}
		want, wantLast := wantedSplit([]api.Step{step(api.StepName, plain), step(api.StepName, plain), step(last, plain)})
		steps, end := match.Split(l)
		more, _ := match.Split(l)
		for _, spoil := range spoils {
			spoil()
		}
		clear(l)
		for i := range more[:cap(more)] {
			more[:cap(more)][i] = spaces()
		}
		if !slices.Equal(steps, want) || end != wantLast {
			t.Errorf("Split's answer came to be %+v, %+v", steps, end)
		}
	}
	// What is written to an answer, its spare room too, is written nowhere else.
	for _, s := range []string{"a/b/c", "a/b/@c", "a/b/c/namespace::*"} {
		l := roomySteps(read(t, s))
		was := slices.Clone(l[:cap(l)])
		steps, _ := match.Split(l)
		for i := range steps[:cap(steps)] {
			steps[:cap(steps)][i] = api.Step{Pos: 9}
		}
		if !slices.Equal(l[:cap(l)], was) {
			t.Errorf("the steps came to be %+v", l[:cap(l)])
		}
	}
}

func TestPlacesOfAnswersAreNewMemory(t *testing.T) { // rules 3 and 4
	n := parsed(t, house)
	for _, s := range []string{"a", "a/*", "a/b", "a/*/*", "a/b/b/b", "a/*/d"} {
		l := read(t, s)
		found, others := match.Find(n, l...), match.Find(n, l...)
		was := fmt.Sprint(others)
		for i, p := range found {
			for j := range p[:cap(p)] {
				p[:cap(p)][j] = 100 + i
			}
		}
		for i, p := range found {
			for _, at := range p[:cap(p)] {
				if at != 100+i {
					t.Errorf("%s: the place %d shares with another: %v", s, i, p[:cap(p)])
				}
			}
		}
		if fmt.Sprint(others) != was || fmt.Sprint(match.Find(n, l...)) != was {
			t.Errorf("%s: %s came to be %v, then %v", s, was, others, match.Find(n, l...))
		}
	}
	for _, s := range []string{"a", "a/c", "a/b/b/b", "a/p:b/@k"} {
		l := read(t, s)
		place, _ := match.Select(n, l...)
		other, _ := match.Select(n, l...)
		was := slices.Clone(other)
		for i := range place[:cap(place)] {
			place[:cap(place)][i] = 100
		}
		if !slices.Equal(other, was) {
			t.Errorf("%s: %v came to be %v", s, was, other)
		}
		selects(t, n, l, was...)
	}
}

// chain: elements within one another, so many, and nodes in the last one.
func chain(many int, kids ...api.Node) api.Node {
	n := el("a", kids...)
	for range many - 1 {
		n = el("a", n)
	}
	return n
}

func TestWideAndDeepTreesAreGoneThroughQuickly(t *testing.T) { // rule 5
	const wide, deep = 1 << 18, 1 << 16
	n := el("a", slices.Repeat([]api.Node{el("b"), tx("x"), el("c")}, wide)...)
	if l := match.Find(n, every(), named("b")); len(l) != wide || !slices.Equal(l[wide-1], []int{3 * (wide - 1)}) {
		t.Errorf("Find of a wide tree: %d", len(l))
	}
	selects(t, n, []api.Step{every(), at(named("c"), wide)}, 3*wide-1)
	selects(t, n, []api.Step{every(), at(every(), 2*wide)}, 3*wide-1)
	if !match.Fits(n, 3*wide-1, at(every(), 2*wide)) || match.Fits(n, 3*wide, every()) {
		t.Error("Fits of a wide tree")
	}
	many := make([]api.Attr, wide)
	for i := range many {
		many[i] = attrs(fmt.Sprint("k", i), "1")[0]
	}
	if m := el("a", with(many, el("b"))); !match.Fits(m, 0, by(every(), fmt.Sprint("k", wide-1), "1")) {
		t.Error("Fits of many attributes")
	}
	l := slices.Repeat([]api.Step{every()}, deep)
	selects(t, chain(deep), l, make([]int, deep-1)...)
	refuses(t, chain(deep), append(l, every()), api.ErrNone)
	refuses(t, el("a"), slices.Repeat(l, 2), api.ErrNone)
	// Several that stand deep: that there are several is told without all of their places; that none is, without moving them.
	kids := slices.Repeat([]api.Node{el("b")}, deep)
	refuses(t, chain(deep/2, kids...), append(slices.Clone(l[:deep/2]), every()), api.ErrMany)
	refuses(t, chain(deep-1, kids...), append(slices.Clone(l), named("c")), api.ErrNone)
}

func FuzzSelect(f *testing.F) { // P12.1, P12.2, P12.3
	f.Add(int64(1), int64(2), 2, 3)
	f.Add(int64(12), int64(7), 0, 1)
	f.Fuzz(func(t *testing.T, tree, steps int64, pos, kind int) {
		n := chanceNode(rand.New(rand.NewSource(tree)), 3)
		l, all := chanceRow(rand.New(rand.NewSource(steps)), n), spots(n)
		holds(t, n, all, l)
		if len(l) > 0 {
			l[len(l)-1].Pos = pos
			holds(t, n, all, l)
			l[len(l)-1].Kind = kind
			holds(t, n, all, l)
			holdsOfKids(t, n, l[0])
		}
	})
}
