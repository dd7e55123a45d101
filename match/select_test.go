package match_test

import (
	"fmt"
	"slices"
	"testing"

	"watchbill/api"
	"watchbill/match"
	"watchbill/path"
)

// splits: a row of steps must be parted so.
func splits(t *testing.T, l, want []api.Step, wantLast api.Step) {
	t.Helper()
	if steps, last := match.Split(l); !slices.Equal(steps, want) || last != wantLast {
		t.Errorf("Split(%+v) = %+v, %+v", l, steps, last)
	}
}

func TestSplitPartsTheLastStepOff(t *testing.T) { // P12.2
	a, b := by(at(named("u:a"), 2), "v:k", "1"), every()
	splits(t, nil, nil, api.Step{})
	splits(t, []api.Step{}, nil, api.Step{})
	for _, last := range []api.Step{attr("k"), attr("u:k"), spaces(), {Kind: api.StepAttr}, {Kind: api.StepSpace, Any: true, Name: in("u:a"), Pos: 3, By: true, Attr: in("v:k"), Value: "2"}} {
		splits(t, []api.Step{last}, nil, last)
		splits(t, []api.Step{a, last}, []api.Step{a}, last)
		splits(t, []api.Step{a, b, last}, []api.Step{a, b}, last)
		splits(t, []api.Step{b, a, a, b, last}, []api.Step{b, a, a, b}, last)
		// Nothing else is parted off: neither what isn't last, nor a second one.
		splits(t, []api.Step{last, a}, []api.Step{last, a}, api.Step{})
		splits(t, []api.Step{a, last, b}, []api.Step{a, last, b}, api.Step{})
		splits(t, []api.Step{last, last}, []api.Step{last}, last)
		splits(t, []api.Step{a, last, last}, []api.Step{a, last}, last)
		splits(t, []api.Step{last, attr("z")}, []api.Step{last}, attr("z"))
		splits(t, []api.Step{attr("z"), a, last}, []api.Step{attr("z"), a}, last)
	}
	for _, kind := range kinds(api.StepAttr, api.StepSpace) {
		last := a
		last.Kind = kind
		splits(t, []api.Step{last}, []api.Step{last}, api.Step{})
		splits(t, []api.Step{a, last}, []api.Step{a, last}, api.Step{})
		splits(t, []api.Step{a, b, last}, []api.Step{a, b, last}, api.Step{})
		splits(t, []api.Step{a, last, spaces()}, []api.Step{a, last}, spaces())
	}
}

func TestSelectTellsThePlace(t *testing.T) { // P12.2
	n := parsed(t, house)
	for s, want := range map[string][]int{
		"a": {}, "*": {}, "a[1]": {}, "*[1][@k='0']": {}, "a/c": {2}, "a/p:b": {4}, "a/b[1]": {1}, "a/b[2]": {3}, "a/b[3]": {5}, "a/*[5]": {5},
		"a/b[@k='1']": {3}, "a/*[@p:k='2']": {4}, "a/p:b/d": {4, 1}, "a/b/b[2]": {3, 2}, "a/b/b/b": {3, 2, 0}, "*/*/*/*": {3, 2, 0}, "a/b/d[2]": {5, 3},
		"a/@k": {}, "*/@k": {}, "a/p:b/@k": {4}, "a/p:b/@p:k": {4}, "a/b[2]/@k": {3}, "a/b[2]/b[1]/@k": {3, 0}, "a/b/d[2]/@k": {5, 3},
		"a/namespace::*": {}, "a/c/namespace::*": {2}, "a/b/b/b/namespace::*": {3, 2, 0}, "*/*[4]/namespace::*": {4},
	} {
		selects(t, n, read(t, s), want...)
	}
	selects(t, with(attrs("k", ""), el("a")), []api.Step{every(), attr("k")})
	selects(t, with(attrs("", ""), el("")), []api.Step{named(""), attr("")})
}

func TestSelectOfTheExamples(t *testing.T) { // P12.2
	n := parsed(t, "<a><b/><c/><b x=\"1\"/></a>")
	selects(t, n, read(t, "a/b[2]"), 2)
	selects(t, n, read(t, "a/*[2]"), 1)
	refuses(t, n, read(t, "a/b"), api.ErrMany)
	selects(t, n, read(t, "a/*[@x=\"1\"]"), 2)
	refuses(t, n, read(t, "a/b[1][@x=\"1\"]"), api.ErrNone)
}

func TestSelectOfNone(t *testing.T) { // P12.2
	n := parsed(t, house)
	for _, s := range []string{
		"b", "p:a", "a[2]", "a[@k='1']", "a[@p:k='0']", "a/z", "a/b[4]", "a/*[6]", "a/b[1][@k='1']", "a/*[@k='3']", "a/c/b", "a/c/*", "z/b", "a/b/b/b/b", "*/*/*/*/*",
		"b/@k", "a[2]/@k", "a/z/@k", "a/b[4]/@k", "b/namespace::*", "a/z/namespace::*", "*/*/*/*/*/namespace::*",
		"a/@z", "a/@p:k", "a/@a", "a/c/@k", "a/b[1]/@k", "a/b[2]/@p:k", "a/p:b/@z", "a/p:b/b/@k", "a/b[2]/@b", "a/b/b/b/@k",
	} {
		refuses(t, n, read(t, s), api.ErrNone)
	}
	refuses(t, n, nil, api.ErrNone)
	for _, last := range []api.Step{attr("k"), spaces(), {}} {
		refuses(t, n, []api.Step{last}, api.ErrNone)
		refuses(t, n, []api.Step{attr("k"), last}, api.ErrNone)
		refuses(t, n, []api.Step{named("a"), attr("k"), last}, api.ErrNone)
		refuses(t, n, []api.Step{named("a"), spaces(), last}, api.ErrNone)
		refuses(t, n, []api.Step{spaces(), named("a"), last}, api.ErrNone)
		refuses(t, n, []api.Step{last, named("a")}, api.ErrNone)
		refuses(t, n, []api.Step{named("a"), last, named("c")}, api.ErrNone)
	}
	refuses(t, el("a"), []api.Step{named("a"), {Kind: 4, Name: in("k")}}, api.ErrNone)
	refuses(t, with(attrs("u:", ""), el("a")), []api.Step{named("a"), attr("")}, api.ErrNone)
}

func TestSelectOfMany(t *testing.T) { // P12.2
	n := parsed(t, house)
	for _, s := range []string{"a/b", "a/*", "a/*[@k='1']", "a/b/b", "a/b/b[1]", "a/*/d", "a/b/d[@k='1']", "a/*/b[1]", "*/*/*"} {
		refuses(t, n, read(t, s), api.ErrMany)
		refuses(t, n, read(t, s+"/namespace::*"), api.ErrMany)
		refuses(t, n, read(t, s+"/@k"), api.ErrMany)
		refuses(t, n, read(t, s+"/@z"), api.ErrMany)
	}
	// Several, though just one of them, or none, has the attribute.
	for _, attribute := range []string{"k", "l", "u:k"} {
		two := el("a", with(attrs(attribute, "1"), el("b")), el("b"))
		refuses(t, two, []api.Step{named("a"), named("b"), attr("k")}, api.ErrMany)
		selects(t, two, []api.Step{named("a"), at(named("b"), 1), attr(attribute)}, 0)
		refuses(t, two, []api.Step{named("a"), at(named("b"), 2), attr(attribute)}, api.ErrNone)
	}
	for count := range 6 {
		many := el("a", slices.Repeat([]api.Node{el("b")}, count)...)
		switch l := []api.Step{named("a"), named("b")}; count {
		case 0:
			refuses(t, many, l, api.ErrNone)
		case 1:
			selects(t, many, l, 0)
		default:
			refuses(t, many, l, api.ErrMany)
		}
	}
}

func TestSelectOfWhatIsFurtherApart(t *testing.T) { // P12.2
	// One in each of two: several, though none has a sibling; and one alone, wherever it stands.
	one, none := el("b", el("c")), el("b")
	l := []api.Step{named("a"), named("b"), named("c")}
	for i := range 5 {
		for j := range 5 {
			kids := slices.Repeat([]api.Node{none}, 5)
			kids[i], kids[j] = one, one
			if n := el("a", kids...); i == j {
				selects(t, n, l, i, 0)
			} else {
				refuses(t, n, l, api.ErrMany)
			}
		}
	}
}

// own: the names and positions of the elements that lead to a place, one by one.
func own(n api.Node, place []int) []api.Step {
	l := []api.Step{{Kind: api.StepName, Name: n.Name, Pos: 1}}
	for _, i := range place {
		s := api.Step{Kind: api.StepName, Name: n.Kids[i].Name}
		for _, k := range n.Kids[:i+1] {
			if k.Kind == api.Element && k.Name == s.Name {
				s.Pos++
			}
		}
		l, n = append(l, s), n.Kids[i]
	}
	return l
}

// asked: a row of steps, each time with one thing more that it asks.
func asked(l []api.Step, name api.Name) [][]api.Step {
	var out [][]api.Step
	for i := range l {
		ask := func(change func(s *api.Step)) {
			more := slices.Clone(l)
			change(&more[i])
			out = append(out, more)
		}
		if l[i].Pos == 0 {
			for pos := range 4 {
				ask(func(s *api.Step) { s.Pos = pos + 1 })
			}
		}
		if !l[i].By {
			for _, value := range []string{"", "0", "1", "2"} {
				ask(func(s *api.Step) { *s = by(*s, "k", value) })
			}
		}
		if l[i].Any && l[i].Pos == 0 { // of a name positions count others
			ask(func(s *api.Step) { s.Any, s.Name = false, name })
		}
	}
	return out
}

// selectsNoMore: a row that asks one thing more than another selects nothing that the other doesn't.
func selectsNoMore(t *testing.T, n api.Node, l []api.Step, name api.Name) {
	t.Helper()
	all := map[string]int{}
	for _, p := range match.Find(n, l...) {
		all[fmt.Sprint(p)]++
	}
	for _, more := range asked(l, name) {
		for _, p := range match.Find(n, more...) {
			if all[fmt.Sprint(p)] != 1 {
				t.Errorf("%+v selects %v, which %+v doesn't", more, p, l)
			}
		}
	}
}

func TestEachElementIsSelectedByItsOwnSteps(t *testing.T) { // P12.3
	n := parsed(t, house)
	places := path.Places(n)
	for _, p := range places {
		l := own(n, p)
		selects(t, n, l, p...)
		finds(t, n, l, p)
		for i := range l {
			for _, pos := range []int{l[i].Pos + 9, -1} {
				other := slices.Clone(l)
				other[i].Pos = pos
				refuses(t, n, other, api.ErrNone)
			}
			other := slices.Clone(l)
			other[i].Name.Local += "z"
			refuses(t, n, other, api.ErrNone)
			other[i].Name = l[i].Name
			other[i].Name.Space += "z"
			refuses(t, n, other, api.ErrNone)
		}
		for _, q := range places {
			if !slices.Equal(p, q) && slices.Equal(l, own(n, q)) {
				t.Errorf("%v and %v have the same steps", p, q)
			}
		}
	}
}

func TestStepsWithPositionsSelectOneAtMost(t *testing.T) { // P12.3
	n := parsed(t, house)
	names := []string{"a", "b", "c", "d", "urn:p:b"}
	var rows func(l []api.Step, left int)
	rows = func(l []api.Step, left int) {
		if found := match.Find(n, l...); len(found) > 1 {
			t.Errorf("%+v selects %v", l, found)
		}
		if left == 0 {
			return
		}
		for _, name := range names {
			for pos := 1; pos < 4; pos++ {
				rows(append(slices.Clone(l), at(named(name), pos)), left-1)
			}
		}
	}
	rows([]api.Step{at(named("a"), 1)}, 3)
}

func TestWhatIsAskedMoreSelectsNoMore(t *testing.T) { // P12.3
	n := parsed(t, house)
	for _, s := range []string{"*", "a", "*/*", "a/*", "a/b", "*/b[2]", "a/*[@k='1']", "*/*/*", "a/b/*", "a/*/b", "a/*[3]/*", "*/b/d[@k='1']", "*/*/*/*"} {
		for _, name := range []string{"a", "b", "d", "urn:p:b", "z"} {
			selectsNoMore(t, n, read(t, s), in(name))
		}
	}
}
