package path_test

import (
	"fmt"
	"slices"
	"strings"
	"testing"

	"watchbill/api"
	"watchbill/path"
	"watchbill/tree"
)

// roomy: a node whose lists have spare room, in which something stands.
func roomy(n api.Node) api.Node {
	kids := make([]api.Node, 0, len(n.Kids)+3)
	for _, k := range n.Kids {
		kids = append(kids, roomy(k))
	}
	as := append(make([]api.Attr, 0, len(n.Attrs)+3), n.Attrs...)
	for i := len(kids); i < cap(kids); i++ {
		kids[:cap(kids)][i] = tx("spare")
	}
	for i := len(as); i < cap(as); i++ {
		as[:cap(as)][i] = attr("spare", "room")
	}
	n.Kids, n.Attrs = kids, as
	return n
}

// whole: a node with the spare room of its lists.
func whole(n api.Node) string {
	if len(n.Kids) == 0 && len(n.Attrs) == 0 && cap(n.Kids) == 0 && cap(n.Attrs) == 0 {
		return written(n)
	}
	var b strings.Builder
	own := n
	own.Kids = nil
	b.WriteString(written(own) + fmt.Sprint(n.Attrs[:cap(n.Attrs)]) + "{")
	for _, k := range n.Kids[:cap(n.Kids)] {
		b.WriteString(whole(k))
	}
	return b.String() + "}"
}

// spoil: everything is written over that a node can be reached by, spare room too.
func spoil(n api.Node) {
	for i := range n.Attrs[:cap(n.Attrs)] {
		n.Attrs[:cap(n.Attrs)][i] = attr("spoilt", "spoilt")
	}
	for i, k := range n.Kids[:cap(n.Kids)] {
		spoil(k)
		n.Kids[:cap(n.Kids)][i] = el("spoilt")
	}
}

// call: one of the package's functions with all that it is handed but the tree and a place.
type call struct {
	name string
	of   func(n api.Node, place ...int) (api.Node, bool)
}

// calls: of each function one at least; with what is handed to them beside, to be looked at and spoilt.
func calls() ([]call, []api.Node) {
	e := roomy(with(attrs("i", "1"), el("w", tx("1"), el("v", tx("2")))))
	x := roomy(odd("t", "u:t", el("v", tx("2"))))
	var l []call
	for _, k := range []api.Node{e, x} {
		l = append(l, call{"Replace by " + written(k), func(n api.Node, place ...int) (api.Node, bool) { return path.Replace(n, k, place...) }})
		for before := range 6 {
			l = append(l, call{fmt.Sprint("Insert ", before, written(k)), func(n api.Node, place ...int) (api.Node, bool) { return path.Insert(n, k, before, place...) }})
		}
	}
	for _, name := range []string{"k", "l", "new"} {
		l = append(l,
			call{"SetAttr " + name, func(n api.Node, place ...int) (api.Node, bool) {
				return path.SetAttr(n, attr(name, "set"), place...)
			}},
			call{"DropAttr " + name, func(n api.Node, place ...int) (api.Node, bool) { return path.DropAttr(n, in(name), place...) }})
	}
	return append(l, call{"At", path.At}, call{"Remove", path.Remove}), []api.Node{e, x}
}

// lively: a tree with attributes, texts that are neighbours, and a text with kids.
func lively() api.Node {
	c := with(attrs("k", "1", "l", "2"), el("c", tx("p"), tx("q"), with(attrs("k", "3"), el("d", tx("r"))), tx("s")))
	return with(attrs("k", "0"), el("a", tx("x"), tx("y"), c, odd("z", "u:z", with(attrs("k", "4"), el("e", tx("u")))), el("f")))
}

// pickedPlaces: some of lively, one that isn't there, with spare room.
func pickedPlaces() [][]int {
	var out [][]int
	for _, p := range [][]int{{}, {0}, {1}, {2}, {3}, {4}, {5}, {2, 0}, {2, 2}, {2, 2, 0}, {3, 0}, {3, 0, 0}} {
		out = append(out, append(make([]int, 0, 8), p...))
	}
	return out
}

func TestWhatIsHandedInStaysAsItWas(t *testing.T) { // P6.3
	n := roomy(lively())
	l, beside := calls()
	var ahead []string
	for _, k := range append([]api.Node{n}, beside...) {
		ahead = append(ahead, whole(k))
	}
	for _, c := range l {
		for _, place := range pickedPlaces() {
			room := place[len(place):cap(place)]
			for i := range room {
				room[i] = 7
			}
			was := slices.Clone(place)
			got, ok := c.of(n, place...)
			first := written(got)
			spoil(got)
			for i, k := range append([]api.Node{n}, beside...) {
				if whole(k) != ahead[i] {
					t.Fatalf("%s at %v: changed %s to %s", c.name, was, ahead[i], whole(k))
				}
			}
			if !slices.Equal(place, was) || slices.ContainsFunc(room, func(i int) bool { return i != 7 }) {
				t.Errorf("%s at %v: the place is %v", c.name, was, place[:cap(place)])
			}
			again, okAgain := c.of(n, place...)
			if written(again) != first || okAgain != ok {
				t.Errorf("%s at %v: %s, %v, then %s, %v", c.name, was, first, ok, written(again), okAgain)
			}
		}
	}
}

func TestAnswersAreNewMemory(t *testing.T) { // P6.3
	names, _ := calls()
	for i := range names {
		for _, place := range pickedPlaces() {
			l, beside := calls()
			n := roomy(lively())
			got, _ := l[i].of(n, place...)
			first := written(got)
			spoil(n)
			for _, k := range beside {
				spoil(k)
			}
			for j := range place {
				place[j] = 1000
			}
			if written(got) != first {
				t.Errorf("%s: %s came to be %s", l[i].name, first, written(got))
			}
		}
	}
}

// gather: all lists of a node, at any depth.
func gather(n *api.Node, kids *[]*[]api.Node, as *[]*[]api.Attr) {
	*kids, *as = append(*kids, &n.Kids), append(*as, &n.Attrs)
	for i := range n.Kids {
		gather(&n.Kids[i], kids, as)
	}
}

func TestNoTwoListsOfAnAnswerShare(t *testing.T) { // P6.3
	shared := el("s", tx("1"))
	shared.Attrs = attrs("k", "1")
	n := roomy(el("a", shared, el("b", shared, shared), shared)) // its own lists may be shared
	names, _ := calls()
	names = append(names, call{"Replace by itself", func(n api.Node, place ...int) (api.Node, bool) { return path.Replace(n, n, place...) }},
		call{"Insert of itself", func(n api.Node, place ...int) (api.Node, bool) { return path.Insert(n, n.Kids[1], 0, place...) }})
	for _, c := range names {
		for _, place := range [][]int{nil, {0}, {1}, {1, 0}, {2}} {
			got, _ := c.of(n, place...)
			var kids []*[]api.Node
			var as []*[]api.Attr
			gather(&got, &kids, &as)
			var lists [][]api.Node
			for _, l := range kids {
				lists = append(lists, (*l)[:cap(*l)])
			}
			for i, l := range as {
				for j := range (*l)[:cap(*l)] {
					(*l)[:cap(*l)][j].Value = fmt.Sprint(i)
				}
			}
			for i, l := range as {
				for _, a := range (*l)[:cap(*l)] {
					if a.Value != fmt.Sprint(i) {
						t.Errorf("%s at %v: two lists of attributes share", c.name, place)
					}
				}
			}
			for i, l := range lists {
				for j := range l {
					l[j] = tx(fmt.Sprint(i))
				}
			}
			for i, l := range lists {
				for _, k := range l {
					if k.Text != fmt.Sprint(i) {
						t.Errorf("%s at %v: two lists of kids share", c.name, place)
					}
				}
			}
		}
	}
}

func TestPlacesAreNewMemory(t *testing.T) { // P6.3
	n := roomy(big())
	ahead := whole(n)
	l := path.Places(n)
	first := fmt.Sprint(l)
	for i, p := range l {
		for j := range p[:cap(p)] {
			p[:cap(p)][j] = 100 + i
		}
	}
	for i, p := range l {
		for _, at := range p[:cap(p)] {
			if at != 100+i {
				t.Errorf("the place %d shares with another: %v", i, p[:cap(p)])
			}
		}
	}
	if whole(n) != ahead {
		t.Errorf("Places changed %s to %s", ahead, whole(n))
	}
	if again := fmt.Sprint(path.Places(n)); again != first {
		t.Errorf("%s, then %s", first, again)
	}
}

func TestWhatIsChangedIsChangedNowhereElse(t *testing.T) { // P6.3
	n := lively()
	all := rows(n)
	for _, place := range path.Places(n) {
		set, ok := path.SetAttr(n, attr("new", "1"), place...)
		if !ok {
			t.Errorf("SetAttr at %v: false", place)
		}
		now := rows(set)
		for i, r := range all {
			want := r.own
			if slices.Equal(r.place, place) {
				want.Attrs = append(slices.Clone(want.Attrs), attr("new", "1"))
			}
			if !slices.Equal(now[i].place, r.place) || written(now[i].own) != written(want) {
				t.Errorf("SetAttr at %v: at %v is %s, not %s", place, r.place, written(now[i].own), written(want))
			}
		}
		back, ok := path.DropAttr(set, in("new"), place...)
		tells(t, "DropAttr of what was set", n, back, ok)
		e, _ := path.At(n, place...)
		for before := range len(e.Kids) + 1 {
			with, _ := path.Insert(n, el("w"), before, place...)
			for _, r := range all {
				if within(r.place, place) {
					continue
				}
				a, _ := path.At(n, r.place...)
				b, ok := path.At(with, r.place...)
				if !within(place, r.place) {
					tells(t, fmt.Sprint("Insert at ", place, ": at ", r.place), a, b, ok)
				} else if !slices.Equal(a.Attrs, b.Attrs) || len(a.Kids) != len(b.Kids) || a.Name != b.Name {
					t.Errorf("Insert at %v: above, at %v, is %s, not %s", place, r.place, written(b), written(a))
				}
			}
		}
	}
}

func TestRightTreesStayRight(t *testing.T) { // P6.1, P6.3
	n := parsed(t, "<a k='1'>x<b><c/>y</b>z<d><e/></d></a>")
	for _, place := range path.Places(n) {
		e, _ := path.At(n, place...)
		for before := range len(e.Kids) + 1 {
			for _, k := range []api.Node{tx("t"), el("w")} {
				if got, ok := path.Insert(n, k, before, place...); !ok || !tree.Right(got) {
					t.Errorf("Insert %d at %v: %v, %s", before, place, ok, written(got))
				}
			}
		}
		for at := range e.Kids {
			kid := append(slices.Clone(place), at)
			if got, ok := path.Remove(n, kid...); !ok || !tree.Right(got) {
				t.Errorf("Remove %v: %v, %s", kid, ok, written(got))
			}
			if got, ok := path.Replace(n, tx("t"), kid...); !ok || !tree.Right(got) {
				t.Errorf("Replace %v: %v, %s", kid, ok, written(got))
			}
		}
	}
}

func TestDeepAndWideTrees(t *testing.T) { // P6.1, P6.2
	const deep, wide = 1 << 16, 1 << 17
	n := el("z")
	for range deep {
		n = el("a", n)
	}
	place := make([]int, deep)
	got, ok := path.At(n, place...)
	tells(t, "At the end", el("z"), got, ok)
	got, ok = path.SetAttr(n, attr("k", "1"), place...)
	got, there := path.At(got, place...)
	tells(t, "SetAttr at the end", with(attrs("k", "1"), el("z")), got, ok && there)
	got, ok = path.Remove(n, place...)
	got, there = path.At(got, place[1:]...)
	tells(t, "Remove of the end", el("a"), got, ok && there)
	got, ok = path.At(n, append(place, 0)...)
	none(t, "At behind the end", got, ok)

	kids := slices.Repeat([]api.Node{tx("x")}, wide)
	got, ok = path.Insert(el("a", kids...), el("b"), wide/2)
	half := tx(strings.Repeat("x", wide/2))
	tells(t, "Insert in texts", el("a", half, el("b"), half), got, ok)
	got, ok = path.Remove(el("a", append(kids, el("b"))...), wide)
	tells(t, "Remove behind texts", el("a", tx(strings.Repeat("x", wide))), got, ok)
	if l := path.Places(el("a", slices.Repeat([]api.Node{el("b")}, wide)...)); len(l) != wide+1 || !slices.Equal(l[wide], []int{wide - 1}) {
		t.Errorf("Places of a wide tree: %d", len(l))
	}
}
