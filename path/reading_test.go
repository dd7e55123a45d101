package path_test

import (
	"fmt"
	"math/rand"
	"slices"
	"testing"

	"watchbill/api"
	"watchbill/path"
)

// A second reading of the chapter: a tree as a list of its nodes, each with its place. Changes are made to that list.

// row: a node without its kids, and where it stands.
type row struct {
	place []int
	own   api.Node
}

// rows: all nodes of a tree.
func rows(n api.Node) []row {
	own := n
	own.Kids = nil
	l := []row{{nil, own}}
	for i, k := range n.Kids {
		l = append(l, under([]int{i}, rows(k))...)
	}
	return l
}

// under: the rows of a tree that stands at a place.
func under(place []int, l []row) []row {
	var out []row
	for _, r := range l {
		out = append(out, row{slices.Concat(place, r.place), r.own})
	}
	return out
}

// within: does a place stand at another one, or below it?
func within(place, top []int) bool {
	return len(place) >= len(top) && slices.Equal(place[:len(top)], top)
}

// own: the node at a place.
func own(l []row, place []int) (api.Node, bool) {
	for _, r := range l {
		if slices.Equal(r.place, place) {
			return r.own, true
		}
	}
	return api.Node{}, false
}

// split: the place that a place stands in, and which kid it is there.
func split(place []int) ([]int, int) { return place[:len(place)-1], place[len(place)-1] }

// shift: all kids of a place from a number on, with all in them, counted on by some.
func shift(l []row, in []int, from, by int) []row {
	var out []row
	for _, r := range l {
		if len(r.place) > len(in) && within(r.place, in) && r.place[len(in)] >= from {
			r.place = slices.Clone(r.place)
			r.place[len(in)] += by
		}
		out = append(out, r)
	}
	return out
}

// cut: without the node at a place, and all in it.
func cut(l []row, place []int) []row {
	in, at := split(place)
	l = slices.DeleteFunc(slices.Clone(l), func(r row) bool { return within(r.place, place) })
	return shift(l, in, at+1, -1)
}

// merge: the texts joined that are kids of a place: two at a time, from the front.
func merge(l []row, in []int) []row {
	for at := 0; ; {
		here, next := append(slices.Clone(in), at), append(slices.Clone(in), at+1)
		a, _ := own(l, here)
		b, there := own(l, next)
		switch {
		case !there:
			return l
		case a.Kind == api.Text && b.Kind == api.Text:
			l = cut(l, next)
			for i, r := range l {
				if slices.Equal(r.place, here) {
					l[i].own.Text += b.Text
				}
			}
		default:
			at++
		}
	}
}

// sorted: rows in the order in which a tree is gone through.
func sorted(l []row) []row {
	l = slices.Clone(l)
	slices.SortFunc(l, func(a, b row) int { return slices.Compare(a.place, b.place) })
	return l
}

// replaced, removed, inserted, set, dropped: as the chapter says.
func replaced(l []row, with api.Node, place []int) ([]row, bool) {
	if len(place) == 0 {
		return rows(with), true
	}
	in, at := split(place)
	_, there := own(l, place)
	if e, _ := own(l, in); !there || e.Kind != api.Element {
		return nil, false
	}
	l = shift(cut(l, place), in, at, 1)
	return merge(append(l, under(place, rows(with))...), in), true
}

func removed(l []row, place []int) ([]row, bool) {
	if len(place) == 0 {
		return nil, false
	}
	in, _ := split(place)
	_, there := own(l, place)
	if e, _ := own(l, in); !there || e.Kind != api.Element {
		return nil, false
	}
	return merge(cut(l, place), in), true
}

func inserted(l []row, kid api.Node, before int, place []int) ([]row, bool) {
	e, _ := own(l, place)
	_, behind := own(l, append(slices.Clone(place), before-1))
	if e.Kind != api.Element || before < 0 || before > 0 && !behind {
		return nil, false
	}
	l = shift(l, place, before, 1)
	return merge(append(l, under(append(slices.Clone(place), before), rows(kid))...), place), true
}

func set(l []row, a api.Attr, place []int) ([]row, bool) {
	return attributes(l, place, func(came []api.Attr) ([]api.Attr, bool) {
		var out []api.Attr
		for i, x := range came {
			if x.Name == a.Name {
				return append(append(out, a), came[i+1:]...), true
			}
			out = append(out, x)
		}
		return append(out, a), true
	})
}

func dropped(l []row, name api.Name, place []int) ([]row, bool) {
	return attributes(l, place, func(came []api.Attr) ([]api.Attr, bool) {
		var out []api.Attr
		for i, x := range came {
			if x.Name == name {
				return append(out, came[i+1:]...), true
			}
			out = append(out, x)
		}
		return nil, false
	})
}

// attributes: the rows in which the element at a place has other attributes.
func attributes(l []row, place []int, change func([]api.Attr) ([]api.Attr, bool)) ([]row, bool) {
	l = slices.Clone(l)
	for i, r := range l {
		if slices.Equal(r.place, place) && r.own.Kind == api.Element {
			attrs, ok := change(r.own.Attrs)
			l[i].own.Attrs = attrs
			return l, ok
		}
	}
	return nil, false
}

// elements: the places of all elements, but those within texts.
func elements(l []row) [][]int {
	var out [][]int
	if l[0].own.Kind != api.Element {
		return nil
	}
	for _, r := range l {
		inText := slices.ContainsFunc(l, func(t row) bool {
			return t.own.Kind == api.Text && len(t.place) < len(r.place) && within(r.place, t.place)
		})
		if r.own.Kind == api.Element && !inText {
			out = append(out, r.place)
		}
	}
	return out
}

// agrees: an answer must be as it was read here.
func agrees(t *testing.T, what string, got api.Node, ok bool, want []row, wanted bool) {
	t.Helper()
	if !wanted {
		none(t, what, got, ok)
		return
	}
	if a, b := fmt.Sprint(rows(got)), fmt.Sprint(sorted(want)); !ok || a != b {
		t.Errorf("%s: %v, %s, not %s", what, ok, a, b)
	}
}

// holds: all that is answered of a tree and a place, with other nodes and attributes, must be as it is read here.
func holds(t *testing.T, n api.Node, place []int, nodes []api.Node, as []api.Attr) {
	t.Helper()
	ahead := written(n)
	l := rows(n)
	what := func(call string) string { return call + " of " + ahead + " at " + fmt.Sprint(place) }

	var here []row
	for _, r := range l {
		if within(r.place, place) {
			here = append(here, row{r.place[len(place):], r.own})
		}
	}
	got, ok := path.At(n, place...)
	agrees(t, what("At"), got, ok, here, len(here) > 0)
	got, ok = path.Remove(n, place...)
	want, wanted := removed(l, place)
	agrees(t, what("Remove"), got, ok, want, wanted)
	for _, k := range nodes {
		got, ok = path.Replace(n, k, place...)
		want, wanted = replaced(l, k, place)
		agrees(t, what("Replace by "+written(k)), got, ok, want, wanted)
		for before := -1; before < 6; before++ {
			got, ok = path.Insert(n, k, before, place...)
			want, wanted = inserted(l, k, before, place)
			agrees(t, what(fmt.Sprint("Insert ", written(k), before)), got, ok, want, wanted)
			if ok {
				backAgain(t, n, got, k, before, place)
			}
		}
	}
	for _, a := range as {
		got, ok = path.SetAttr(n, a, place...)
		want, wanted = set(l, a, place)
		agrees(t, what(fmt.Sprint("SetAttr ", a)), got, ok, want, wanted)
		got, ok = path.DropAttr(n, a.Name, place...)
		want, wanted = dropped(l, a.Name, place)
		agrees(t, what(fmt.Sprint("DropAttr ", a)), got, ok, want, wanted)
	}
	if written(n) != ahead {
		t.Errorf("what was handed in is %s, not %s", written(n), ahead)
	}
}

// backAgain: what was inserted is there, and removed again the tree is as it was, where no texts were joined.
func backAgain(t *testing.T, n, with, kid api.Node, before int, place []int) {
	t.Helper()
	was, _ := path.At(n, place...)
	is, _ := path.At(with, place...)
	if len(is.Kids) != len(was.Kids)+1 || neighbours(was.Kids) {
		return // some are joined, by one call or by the other
	}
	at := append(slices.Clone(place), before)
	got, ok := path.At(with, at...)
	tells(t, "what was inserted", kid, got, ok)
	got, ok = path.Remove(with, at...)
	tells(t, "what was inserted and removed", n, got, ok)
}

// neighbours: are two texts among them?
func neighbours(kids []api.Node) bool {
	for i, k := range kids {
		if i > 0 && k.Kind == api.Text && kids[i-1].Kind == api.Text {
			return true
		}
	}
	return false
}

// lists: all lists of so many nodes at most, of some.
func lists(nodes []api.Node, most int) [][]api.Node {
	out := [][]api.Node{nil}
	last := out
	for range most {
		var longer [][]api.Node
		for _, l := range last {
			for _, n := range nodes {
				longer = append(longer, append(slices.Clone(l), n))
			}
		}
		out, last = append(out, longer...), longer
	}
	return out
}

// some: nodes of all kinds, right or not.
func some() []api.Node {
	return []api.Node{
		el("b"), with(attrs("k", "1"), el("c", tx("p"), tx("q"))), tx("x"), odd("y", "o", el("d", el("e")), tx("r")), other("m", el("f"), tx("s")),
	}
}

// placesOf: all places of a few numbers.
func placesOf() [][]int {
	out := [][]int{nil}
	for a := -1; a < 4; a++ {
		out = append(out, []int{a})
		for b := -1; b < 3; b++ {
			out = append(out, []int{a, b})
		}
		out = append(out, []int{a, 0, 0}, []int{a, 1, 0}, []int{a, 0, 0, 0})
	}
	return out
}

func TestAllSmallTrees(t *testing.T) { // P6.1, P6.2, P6.3
	nodes := []api.Node{tx("z"), el("w", tx("1"), tx("2"))}
	as := []api.Attr{attr("k", "9")}
	count := 0
	for _, l := range lists(some(), 3) {
		for _, n := range []api.Node{el("a", l...), with(attrs("u:k", "1", "k", "2", "k", "3"), el("a", el("h", l...)))} {
			count++
			for _, place := range placesOf() {
				holds(t, n, place, nodes, as)
			}
			if got, want := path.Places(n), elements(rows(n)); !slices.EqualFunc(got, want, slices.Equal[[]int]) {
				t.Errorf("Places(%s) = %v, not %v", written(n), got, want)
			}
		}
	}
	if count < 300 {
		t.Errorf("only %d trees", count)
	}
}

// chance: a tree by chance, so deep at most.
func chance(r *rand.Rand, depth int) api.Node {
	n := api.Node{Kind: api.Element, Name: in([]string{"a", "u:b", "c"}[r.Intn(3)])}
	switch r.Intn(12) {
	case 0, 1, 2, 3:
		n = tx([]string{"", "x", "yy"}[r.Intn(3)])
	case 4:
		n = odd("o", "u:o")
	case 5:
		n.Kind = r.Intn(5) - 1
	}
	for range r.Intn(4) {
		n.Attrs = append(n.Attrs, attr([]string{"k", "l", "u:k"}[r.Intn(3)], fmt.Sprint(r.Intn(9))))
	}
	if depth > 0 && (n.Kind != api.Text || r.Intn(3) == 0) {
		for range r.Intn(5) {
			n.Kids = append(n.Kids, chance(r, depth-1))
		}
	}
	return n
}

func TestChanceTrees(t *testing.T) { // P6.1, P6.2, P6.3
	r := rand.New(rand.NewSource(6))
	for range 1500 {
		n := chance(r, 5)
		if r.Intn(8) > 0 {
			n.Kind = api.Element
		}
		l := rows(n)
		place := slices.Clone(l[r.Intn(len(l))].place)
		switch r.Intn(6) {
		case 0:
			place = append(place, r.Intn(6)-1)
		case 1:
			place = append(place[:len(place)/2], r.Intn(4), r.Intn(3))
		}
		holds(t, n, place, []api.Node{chance(r, 1)}, []api.Attr{attr([]string{"k", "m"}[r.Intn(2)], "new")})
		if got, want := path.Places(n), elements(l); !slices.EqualFunc(got, want, slices.Equal[[]int]) {
			t.Errorf("Places(%s) = %v, not %v", written(n), got, want)
		}
	}
}
