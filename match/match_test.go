package match_test

import (
	"math"
	"slices"
	"strings"
	"testing"

	"watchbill/api"
	"watchbill/match"
	"watchbill/sel"
	"watchbill/tree"
)

// in: a name; without a colon it is in no namespace, else the part behind the last one is the local one.
func in(name string) api.Name {
	i := strings.LastIndexByte(name, ':')
	return api.Name{Space: name[:max(i, 0)], Local: name[i+1:]}
}

// attrs: attributes, of names and values in turn.
func attrs(l ...string) []api.Attr {
	var out []api.Attr
	for i := 0; i < len(l); i += 2 {
		out = append(out, api.Attr{Name: in(l[i]), Value: l[i+1]})
	}
	return out
}

// el, with, tx: nodes.
func el(name string, kids ...api.Node) api.Node {
	return api.Node{Kind: api.Element, Name: in(name), Kids: kids}
}

func with(l []api.Attr, n api.Node) api.Node {
	n.Attrs = l
	return n
}

func tx(s string) api.Node { return api.Node{Kind: api.Text, Text: s} }

// of: a node of any kind, with all that an element has.
func of(kind int, n api.Node) api.Node {
	n.Kind = kind
	return n
}

// named, every, at, by, attr, spaces: steps.
func named(name string) api.Step { return api.Step{Kind: api.StepName, Name: in(name)} }

func every() api.Step { return api.Step{Kind: api.StepName, Any: true} }

func at(s api.Step, pos int) api.Step {
	s.Pos = pos
	return s
}

func by(s api.Step, name, value string) api.Step {
	s.By, s.Attr, s.Value = true, in(name), value
	return s
}

func attr(name string) api.Step { return api.Step{Kind: api.StepAttr, Name: in(name)} }

func spaces() api.Step { return api.Step{Kind: api.StepSpace} }

// parsed: a document's tree.
func parsed(t *testing.T, s string) api.Node {
	t.Helper()
	n, place, e := tree.Parse(s)
	if e != api.OK {
		t.Fatal(s, place, e)
	}
	return n
}

// read: the steps of a selector, in which p is urn:p.
func read(t *testing.T, s string) []api.Step {
	t.Helper()
	l, e := sel.Parse(s, "", []api.Bind{{Prefix: "p", Space: "urn:p"}})
	if e != api.OK {
		t.Fatal(s, e)
	}
	return l
}

// fits: just these of a node's kids must fit a step.
func fits(t *testing.T, n api.Node, s api.Step, want ...int) {
	t.Helper()
	for i := -3; i < len(n.Kids)+4; i++ {
		if got := match.Fits(n, i, s); got != slices.Contains(want, i) {
			t.Errorf("Fits(%+v, %d, %+v) = %v", n, i, s, got)
		}
	}
}

// finds: just these places must be found, in this order.
func finds(t *testing.T, n api.Node, l []api.Step, want ...[]int) {
	t.Helper()
	if got := match.Find(n, l...); !slices.EqualFunc(got, want, slices.Equal[[]int]) {
		t.Errorf("Find(%+v, %+v) = %v, not %v", n, l, got, want)
	}
}

// selects: just this place must be selected.
func selects(t *testing.T, n api.Node, l []api.Step, want ...int) {
	t.Helper()
	if got, e := match.Select(n, l...); e != api.OK || !slices.Equal(got, want) {
		t.Errorf("Select(%+v, %+v) = %v, %d, not %v", n, l, got, e, want)
	}
}

// refuses: none must be selected, for that error.
func refuses(t *testing.T, n api.Node, l []api.Step, want api.Errno) {
	t.Helper()
	if got, e := match.Select(n, l...); e != want || len(got) != 0 {
		t.Errorf("Select(%+v, %+v) = %v, %d, not %d", n, l, got, e, want)
	}
}

// kinds: of steps, and of nodes, that are none of those that are meant.
func kinds(but ...int) []int {
	l := []int{-1, 0, 1, 2, 3, 4, 5, 257, 1 << 32, 1<<32 + 1, math.MaxInt, math.MinInt}
	return slices.DeleteFunc(l, func(k int) bool { return slices.Contains(but, k) })
}

// farNumbers: which no tree here reaches.
func farNumbers() []int {
	return []int{-1, -2, 99, 1 << 31, -1 << 31, 1 << 32, 1<<32 + 1, 1<<32 + 2, -1<<32 + 1, math.MaxInt, math.MinInt}
}

func TestFitsOfKidsThatAreThere(t *testing.T) { // P12.1
	n := el("a", el("b"), tx("x"), el("c"), el("b"))
	fits(t, n, every(), 0, 2, 3)
	fits(t, n, named("b"), 0, 3)
	fits(t, el("a"), every())
	fits(t, api.Node{}, every())
	for _, i := range farNumbers() {
		if match.Fits(n, i, every()) || match.Fits(n, i, named("b")) || match.Fits(el("a"), i, every()) {
			t.Errorf("there is no kid %d", i)
		}
	}
}

func TestFitsOfElementsAlone(t *testing.T) { // P12.1
	b := with(attrs("k", "1"), el("b"))
	for _, kind := range kinds(api.Element) {
		n := el("a", of(kind, b), b, of(kind, b), b)
		fits(t, n, every(), 1, 3)
		fits(t, n, named("b"), 1, 3)
		fits(t, n, by(named("b"), "k", "1"), 1, 3)
		fits(t, n, at(every(), 1), 1)
		fits(t, n, at(named("b"), 2), 3)
		fits(t, n, at(named("b"), 3))
	}
	// Whose kids they are isn't asked.
	for _, kind := range kinds() {
		fits(t, of(kind, el("a", b, tx("x"), el("c"), b)), at(named("b"), 2), 3)
	}
}

func TestFitsOfStepsOfOtherKinds(t *testing.T) { // P12.1
	n := el("a", with(attrs("k", "1"), el("b")), el("c"))
	for _, kind := range kinds(api.StepName) {
		for _, s := range []api.Step{named("b"), every(), at(named("b"), 1), by(every(), "k", "1"), {}} {
			s.Kind = kind
			fits(t, n, s)
		}
	}
	fits(t, n, attr("b"))
	fits(t, n, attr("k"))
	fits(t, n, spaces())
	fits(t, n, api.Step{})
	fits(t, el("a", el("")), named(""), 0)
}

func TestFitsOfNames(t *testing.T) { // P12.1
	n := el("a", el("b"), el("u:b"), el("u:c"), el("v:b"), el("B"), el(""), el("u:"), el("u:b:b"), el("bb"))
	fits(t, n, named("b"), 0)
	fits(t, n, named("u:b"), 1)
	fits(t, n, named("u:c"), 2)
	fits(t, n, named("v:b"), 3)
	fits(t, n, named("v:c"))
	fits(t, n, named("c"))
	fits(t, n, named("B"), 4)
	fits(t, n, named(""), 5)
	fits(t, n, named("u:"), 6)
	fits(t, n, named("U:b"))
	fits(t, n, named("u:b:b"), 7)
	fits(t, el("a", el("b")), api.Step{Kind: api.StepName, Name: api.Name{Space: "b"}})
	fits(t, el("a", api.Node{Kind: api.Element, Name: api.Name{Space: "b", Local: "u"}}), named("u:b"))
	// Of any name, whatever name stands in the step.
	s := named("u:b")
	s.Any = true
	fits(t, n, s, 0, 1, 2, 3, 4, 5, 6, 7, 8)
	fits(t, n, at(s, 1), 0)
	fits(t, n, at(s, 9), 8)
}

func TestFitsOfPositions(t *testing.T) { // P12.1
	n := el("a", tx("x"), el("b"), el("c"), tx("y"), el("b"), el("u:b"), of(3, el("b")), el("c"), el("b"), tx("z"))
	fits(t, n, named("b"), 1, 4, 8)
	fits(t, n, at(named("b"), 0), 1, 4, 8)
	fits(t, n, at(named("b"), 1), 1)
	fits(t, n, at(named("b"), 2), 4)
	fits(t, n, at(named("b"), 3), 8)
	fits(t, n, at(named("b"), 4))
	fits(t, n, at(named("c"), 1), 2)
	fits(t, n, at(named("c"), 2), 7)
	fits(t, n, at(named("c"), 3))
	fits(t, n, at(named("u:b"), 1), 5)
	fits(t, n, at(named("u:b"), 2))
	fits(t, n, at(named("d"), 1))
	for i, want := range []int{1, 2, 4, 5, 7, 8} {
		fits(t, n, at(every(), i+1), want)
	}
	fits(t, n, at(every(), 7))
	for _, pos := range farNumbers() {
		fits(t, n, at(named("b"), pos))
		fits(t, n, at(every(), pos))
	}
}

func TestFitsOfAttributes(t *testing.T) { // P12.1
	n := el("a",
		with(attrs("k", "1"), el("b")),
		with(attrs("k", "2"), el("b")),
		el("b"),
		with(attrs("u:k", "1"), el("b")),
		with(attrs("l", "1", "v:k", "2", "k", "1"), el("c")),
		with(attrs("k", ""), el("b")),
		with(attrs("u:k", "2", "k", "1"), el("u:b")),
		with(attrs("k", "1", "k", "2"), el("b")),
		with(attrs("k", "2", "k", "1"), el("b")),
		with(attrs("K", "1", "kk", "1"), el("b")),
		with(attrs("k", " 1", "l", "2"), el("b")),
		with(attrs("k", "11"), el("b")))
	fits(t, n, by(every(), "k", "1"), 0, 4, 6, 7)
	fits(t, n, by(named("b"), "k", "1"), 0, 7)
	fits(t, n, by(named("b"), "k", "2"), 1, 8)
	fits(t, n, by(named("c"), "k", "1"), 4)
	fits(t, n, by(named("c"), "l", "1"), 4)
	fits(t, n, by(named("c"), "k", "2"))
	fits(t, n, by(every(), "u:k", "1"), 3)
	fits(t, n, by(every(), "u:k", "2"), 6)
	fits(t, n, by(every(), "v:k", "2"), 4)
	fits(t, n, by(every(), "w:k", "1"))
	fits(t, n, by(every(), "k", ""), 5)
	fits(t, n, by(every(), "m", ""))
	fits(t, n, by(every(), "", ""))
	fits(t, n, by(every(), "k", "3"))
	fits(t, n, by(every(), "k", " 1"), 10)
	fits(t, n, by(every(), "K", "1"), 9)
	fits(t, n, by(every(), "l", "2"), 10)
	fits(t, el("a", with([]api.Attr{{Name: api.Name{Space: "k"}, Value: "1"}}, el("b"))), by(every(), "k", "1"))
	fits(t, el("a", with(attrs("", "1"), el("b"))), by(every(), "", "1"), 0)
	// What stands in a step that doesn't ask for an attribute isn't looked at.
	s := by(named("b"), "k", "3")
	s.By = false
	fits(t, n, s, 0, 1, 2, 3, 5, 7, 8, 9, 10, 11)
	fits(t, n, at(s, 1), 0)
	// Of a kid that fits none of the rest, the attribute tells nothing.
	fits(t, el("a", with(attrs("k", "1"), of(api.Text, el("b")))), by(every(), "k", "1"))
}

func TestFitsOfAttributesWithPositions(t *testing.T) { // P12.1
	n := el("a", el("b"), el("c"), with(attrs("k", "1"), el("b")), tx("x"), with(attrs("k", "1"), el("c")), with(attrs("k", "1"), el("b")))
	fits(t, n, by(named("b"), "k", "1"), 2, 5)
	fits(t, n, by(at(named("b"), 1), "k", "1")) // the position counts those, too, that haven't the attribute
	fits(t, n, by(at(named("b"), 2), "k", "1"), 2)
	fits(t, n, by(at(named("b"), 3), "k", "1"), 5)
	fits(t, n, by(at(named("b"), 4), "k", "1"))
	fits(t, n, by(at(named("b"), 2), "k", "2"))
	fits(t, n, by(at(named("b"), -1), "k", "1"))
	fits(t, n, by(at(named("c"), 2), "k", "1"), 4)
	fits(t, n, by(at(every(), 2), "k", "1"))
	fits(t, n, by(at(every(), 3), "k", "1"), 2)
	fits(t, n, by(at(every(), 4), "k", "1"), 4)
	fits(t, n, by(at(every(), 5), "k", "1"), 5)
}

func TestTheRootIsAlone(t *testing.T) { // P12.1
	n := with(attrs("k", "1"), el("u:a", el("u:a"), el("b")))
	here := []int{}
	finds(t, n, []api.Step{named("u:a")}, here)
	finds(t, n, []api.Step{every()}, here)
	finds(t, n, []api.Step{at(named("u:a"), 1)}, here)
	finds(t, n, []api.Step{at(every(), 1)}, here)
	finds(t, n, []api.Step{by(at(every(), 1), "k", "1")}, here)
	finds(t, n, []api.Step{by(named("u:a"), "k", "1")}, here)
	finds(t, n, []api.Step{at(every(), 2)})
	finds(t, n, []api.Step{at(named("u:a"), 2)})
	finds(t, n, []api.Step{at(every(), -1)})
	finds(t, n, []api.Step{named("a")})
	finds(t, n, []api.Step{named("b")})
	finds(t, n, []api.Step{by(every(), "k", "2")})
	finds(t, n, []api.Step{by(every(), "u:k", "1")})
	finds(t, n, []api.Step{at(every(), 2), every()})
	finds(t, n, []api.Step{named("b"), every()})
	for _, kind := range kinds(api.Element) {
		finds(t, of(kind, n), []api.Step{every()})
		finds(t, of(kind, n), []api.Step{named("u:a")})
		finds(t, of(kind, n), []api.Step{every(), every()})
		refuses(t, of(kind, n), []api.Step{every()}, api.ErrNone)
	}
	finds(t, api.Node{}, []api.Step{every()})
	finds(t, api.Node{}, nil)
}

const house = "<a k='0'>t<b/><c/><b k='1'><b k='2'/>u<b><b/></b><d k='1'/></b>" +
	"<p:b xmlns:p='urn:p' k='1' p:k='2'><b/><d/></p:b><b>v<d/><b k='1'/><d k='1'/></b></a>"

func TestFindGoesStepByStep(t *testing.T) { // P12.1
	n := parsed(t, house)
	for s, want := range map[string][][]int{
		"a": {{}}, "*": {{}}, "a[@k='0']": {{}},
		"a/b": {{1}, {3}, {5}}, "*/b": {{1}, {3}, {5}}, "a/c": {{2}}, "a/p:b": {{4}},
		"a/*": {{1}, {2}, {3}, {4}, {5}}, "a/*[3]": {{3}}, "a/*[4]": {{4}}, "a/b[3]": {{5}}, "a/b[4]": nil, "a/*[6]": nil,
		"a/*[@k='1']": {{3}, {4}}, "a/b[@k='1']": {{3}}, "a/*[@p:k='2']": {{4}}, "a/*[4][@k='1']": {{4}}, "a/*[5][@k='1']": nil,
		"a/b/b": {{3, 0}, {3, 2}, {5, 2}}, "a/*/b": {{3, 0}, {3, 2}, {4, 0}, {5, 2}}, "a/b/b[1]": {{3, 0}, {5, 2}}, "a/b/b[2]": {{3, 2}},
		"a/*/d": {{3, 3}, {4, 1}, {5, 1}, {5, 3}}, "a/*/d[@k='1']": {{3, 3}, {5, 3}}, "a/*/d[2]": {{5, 3}}, "a/b[2]/d": {{3, 3}}, "a/b[3]/d[1]": {{5, 1}},
		"a/*/*": {{3, 0}, {3, 2}, {3, 3}, {4, 0}, {4, 1}, {5, 1}, {5, 2}, {5, 3}}, "a/*/*[3]": {{3, 3}, {5, 3}}, "a/*[@k='1']/*[2]": {{3, 2}, {4, 1}},
		"a/b/b/b": {{3, 2, 0}}, "*/*/*/*": {{3, 2, 0}}, "*/b[2]/*[2]/b[1]": {{3, 2, 0}}, "a/b[1]/b": nil, "a/b[2]/b[1]/b": nil,
		"*/*/*/*/*": nil, "a/b/b/b/b": nil, "b": nil, "b/b": nil, "a/a": nil, "a/z/b": nil, "p:a/b": nil, "a[2]/b": nil, "a[@k='1']/b": nil,
		"a/b/@k": nil, "a/namespace::*": nil, "a/@k": nil,
	} {
		finds(t, n, read(t, s), want...)
	}
}

func TestFindTellsThePlacesInTheirOrder(t *testing.T) { // P12.1
	// Kids of which each has as many kids, and so on: each number of a place counts.
	n := el("a")
	for range 3 {
		n = el("a", slices.Repeat([]api.Node{n}, 12)...)
	}
	var want [][]int
	for i := range 12 {
		for j := range 12 {
			for k := range 12 {
				want = append(want, []int{i, j, k})
			}
		}
	}
	l := []api.Step{named("a"), every(), named("a"), every()}
	finds(t, n, l, want...)
	finds(t, n, l[:1], []int{})
	l[3].Pos, l[2].Pos, l[1].Pos = 7, 3, 12
	finds(t, n, l, []int{11, 2, 6})
	l[2].Pos = 0
	want = nil
	for j := range 12 {
		want = append(want, []int{11, j})
	}
	finds(t, n, l[:3], want...)
}

func TestFindOfRowsThatSelectNothing(t *testing.T) { // P12.1
	n := parsed(t, house)
	finds(t, n, nil)
	finds(t, n, []api.Step{})
	finds(t, n, make([]api.Step, 3))
	for _, kind := range kinds(api.StepName) {
		odd := every()
		odd.Kind = kind
		finds(t, n, []api.Step{odd})
		for i := range 3 {
			l := []api.Step{every(), every(), every()}
			l[i] = odd
			finds(t, n, l)
			finds(t, n, slices.Insert([]api.Step{every(), every()}, i, odd))
		}
	}
	for _, odd := range []api.Step{attr("k"), attr("b"), spaces()} {
		finds(t, n, []api.Step{odd})
		finds(t, n, []api.Step{odd, named("a")})
		finds(t, n, []api.Step{odd, named("a"), named("b")})
		finds(t, n, []api.Step{named("a"), odd})
		finds(t, n, []api.Step{named("a"), odd, named("b")})
		finds(t, n, []api.Step{named("a"), named("b"), odd})
		finds(t, n, []api.Step{named("a"), odd, odd})
	}
	for more := range 30 {
		l := slices.Repeat([]api.Step{every()}, 5+more)
		finds(t, n, l)
		refuses(t, n, l, api.ErrNone)
	}
}

func TestOnlyElementsLeadToElements(t *testing.T) { // P12.1
	for _, kind := range kinds(api.Element) {
		within := of(kind, el("b", el("c"), el("c", el("d"))))
		n := el("a", within, el("b", el("c", el("d"))), within)
		finds(t, n, []api.Step{every(), every()}, []int{1})
		finds(t, n, []api.Step{every(), every(), every()}, []int{1, 0})
		finds(t, n, []api.Step{named("a"), named("b"), named("c")}, []int{1, 0})
		finds(t, n, []api.Step{every(), every(), every(), named("d")}, []int{1, 0, 0})
		selects(t, n, []api.Step{named("a"), named("b"), named("c"), named("d")}, 1, 0, 0)
	}
}
