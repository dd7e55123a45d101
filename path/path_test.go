package path_test

import (
	"fmt"
	"math"
	"slices"
	"strings"
	"testing"

	"watchbill/api"
	"watchbill/path"
	"watchbill/tree"
)

// in: a name in a namespace; a name without a colon is in none, else the part behind the last one is the local one.
func in(name string) api.Name {
	i := strings.LastIndexByte(name, ':')
	return api.Name{Space: name[:max(i, 0)], Local: name[i+1:]}
}

// attr, attrs: attributes, of names and values in turn.
func attr(name, value string) api.Attr { return api.Attr{Name: in(name), Value: value} }

func attrs(l ...string) []api.Attr {
	var out []api.Attr
	for i := 0; i < len(l); i += 2 {
		out = append(out, attr(l[i], l[i+1]))
	}
	return out
}

// el, with, tx: nodes.
func el(name string, kids ...api.Node) api.Node {
	return api.Node{Kind: api.Element, Name: in(name), Kids: kids}
}

func with(l []api.Attr, n api.Node) api.Node {
	n.Attrs = l
	return n
}

func tx(s string) api.Node { return api.Node{Kind: api.Text, Text: s} }

// odd: a text that has what no right one has.
func odd(s, name string, kids ...api.Node) api.Node {
	return api.Node{Kind: api.Text, Text: s, Name: in(name), Attrs: attrs("of", name), Kids: kids}
}

// other: a node that is neither an element nor a text.
func other(name string, kids ...api.Node) api.Node {
	return api.Node{Kind: 3, Name: in(name), Kids: kids}
}

// written: all of a node, in one form.
func written(n api.Node) string {
	var b strings.Builder
	fmt.Fprintf(&b, "(%d %q %q %q", n.Kind, n.Name.Space, n.Name.Local, n.Text)
	for _, a := range n.Attrs {
		fmt.Fprintf(&b, " %q:%q=%q", a.Name.Space, a.Name.Local, a.Value)
	}
	for _, k := range n.Kids {
		b.WriteString(" " + written(k))
	}
	return b.String() + ")"
}

// tells: an answer must be true, with that node.
func tells(t *testing.T, what string, want, n api.Node, ok bool) {
	t.Helper()
	if got := written(n); !ok || got != written(want) {
		t.Errorf("%s: %v, %s, not %s", what, ok, got, written(want))
	}
}

// none: an answer must be false, with no node.
func none(t *testing.T, what string, n api.Node, ok bool) {
	t.Helper()
	if got := written(n); ok || got != written(api.Node{}) {
		t.Errorf("%s: %v, %s, not false", what, ok, got)
	}
}

// parsed: a document's tree.
func parsed(t *testing.T, s string) api.Node {
	t.Helper()
	n, at, e := tree.Parse(s)
	if e != api.OK {
		t.Fatal(s, at, e)
	}
	return n
}

// big: a tree with places of several numbers.
func big() api.Node {
	c := el("u:c", tx("1"), el("d", el("e"), tx("2")), el("f"))
	return with(attrs("k", "1"), el("a", tx("x"), el("b"), with(attrs("l", "2", "m", "3"), c), tx("y"), el("g", tx("z"))))
}

func TestAtTellsTheNode(t *testing.T) { // P6.1
	n := big()
	for _, x := range []struct {
		want  api.Node
		place []int
	}{
		{n, nil},
		{n, []int{}},
		{tx("x"), []int{0}},
		{el("b"), []int{1}},
		{n.Kids[2], []int{2}},
		{tx("1"), []int{2, 0}},
		{el("d", el("e"), tx("2")), []int{2, 1}},
		{el("e"), []int{2, 1, 0}},
		{tx("2"), []int{2, 1, 1}},
		{el("f"), []int{2, 2}},
		{tx("y"), []int{3}},
		{tx("z"), []int{4, 0}},
	} {
		got, ok := path.At(n, x.place...)
		tells(t, fmt.Sprint("At ", x.place), x.want, got, ok)
	}
	got, ok := path.At(tx("x"))
	tells(t, "At of a text", tx("x"), got, ok)
	got, ok = path.At(api.Node{})
	tells(t, "At of nothing", api.Node{}, got, ok)
	inText := el("a", odd("x", "o", el("b", el("c"))), other("p", tx("y")))
	got, ok = path.At(inText, 0, 0, 0)
	tells(t, "At in a text", el("c"), got, ok)
	got, ok = path.At(inText, 1, 0)
	tells(t, "At in another node", tx("y"), got, ok)
}

// nowhere: places at which big has no node.
func nowhere() [][]int {
	l := [][]int{
		{0, 0}, {3, 0}, {1, 0}, {2, 0, 0}, {2, 2, 0}, {2, 1, 0, 0}, {2, 1, 1, 0}, {4, 0, 0}, // within texts, and elements of no kids
		{2, 1, 2}, {2, 1, 3}, {2, 1, -1}, {2, 3}, {2, -1, 0}, {2, 3, 0}, {2, 4}, {4, 1}, {-1, 0}, {5, 0}, {0, 0, 0, 0, 0, 0},
	}
	for _, at := range []int{-1, -2, 5, 6, 7, 1 << 31, -1 << 31, 1 << 32, 1<<32 + 1, math.MaxInt, math.MinInt} {
		l = append(l, []int{at}, []int{2, at}, []int{at, 0}, []int{2, at, 0})
	}
	return l
}

func TestNothingIsNowhere(t *testing.T) { // P6.1, P6.2
	n := big()
	for _, place := range nowhere() {
		got, ok := path.At(n, place...)
		none(t, fmt.Sprint("At ", place), got, ok)
		got, ok = path.Replace(n, el("w"), place...)
		none(t, fmt.Sprint("Replace ", place), got, ok)
		got, ok = path.Remove(n, place...)
		none(t, fmt.Sprint("Remove ", place), got, ok)
		got, ok = path.Insert(n, el("w"), 0, place...)
		none(t, fmt.Sprint("Insert ", place), got, ok)
		got, ok = path.SetAttr(n, attr("k", "2"), place...)
		none(t, fmt.Sprint("SetAttr ", place), got, ok)
		got, ok = path.DropAttr(n, in("k"), place...)
		none(t, fmt.Sprint("DropAttr ", place), got, ok)
	}
}

func TestReplaceTellsTheTree(t *testing.T) { // P6.1
	n := parsed(t, "<a>x<b k='1'><c/>z</b>y<d/></a>")
	w := parsed(t, "<w l='2'>v<u/></w>")
	b := with(attrs("k", "1"), el("b", el("c"), tx("z")))
	for _, x := range []struct {
		with, want api.Node
		place      []int
	}{
		{w, w, nil},
		{tx("q"), tx("q"), nil},
		{api.Node{}, api.Node{}, nil},
		{w, el("a", w, b, tx("y"), el("d")), []int{0}},
		{w, el("a", tx("x"), w, tx("y"), el("d")), []int{1}},
		{w, el("a", tx("x"), b, w, el("d")), []int{2}},
		{w, el("a", tx("x"), b, tx("y"), w), []int{3}},
		{w, el("a", tx("x"), with(attrs("k", "1"), el("b", w, tx("z"))), tx("y"), el("d")), []int{1, 0}},
		{w, el("a", tx("x"), with(attrs("k", "1"), el("b", el("c"), w)), tx("y"), el("d")), []int{1, 1}},
		{tx("q"), el("a", tx("q"), b, tx("y"), el("d")), []int{0}},
		{tx("q"), el("a", tx("xqy"), el("d")), []int{1}},
		{tx("q"), el("a", tx("x"), b, tx("q"), el("d")), []int{2}},
		{tx("q"), el("a", tx("x"), b, tx("yq")), []int{3}},
		{tx("q"), el("a", tx("x"), with(attrs("k", "1"), el("b", tx("qz"))), tx("y"), el("d")), []int{1, 0}},
		{tx(""), el("a", tx("xy"), el("d")), []int{1}},
		{tx(""), el("a", tx(""), b, tx("y"), el("d")), []int{0}},
		{other("p"), el("a", tx("x"), other("p"), tx("y"), el("d")), []int{1}},
		{n, el("a", tx("x"), n, tx("y"), el("d")), []int{1}},
	} {
		got, ok := path.Replace(n, x.with, x.place...)
		tells(t, fmt.Sprint("Replace ", x.place, written(x.with)), x.want, got, ok)
	}
	got, ok := path.Replace(tx("x"), w)
	tells(t, "Replace of a text", w, got, ok)
	got, ok = path.Replace(api.Node{}, w)
	tells(t, "Replace of nothing", w, got, ok)
}

func TestRemoveTellsTheTree(t *testing.T) { // P6.1
	n := parsed(t, "<a>x<b k='1'><c/>z</b>y<d/></a>")
	b := with(attrs("k", "1"), el("b", el("c"), tx("z")))
	for _, x := range []struct {
		want  api.Node
		place []int
	}{
		{el("a", b, tx("y"), el("d")), []int{0}},
		{el("a", tx("xy"), el("d")), []int{1}},
		{el("a", tx("x"), b, el("d")), []int{2}},
		{el("a", tx("x"), b, tx("y")), []int{3}},
		{el("a", tx("x"), with(attrs("k", "1"), el("b", tx("z"))), tx("y"), el("d")), []int{1, 0}},
		{el("a", tx("x"), with(attrs("k", "1"), el("b", el("c"))), tx("y"), el("d")), []int{1, 1}},
	} {
		got, ok := path.Remove(n, x.place...)
		tells(t, fmt.Sprint("Remove ", x.place), x.want, got, ok)
	}
	got, ok := path.Remove(el("a", el("b")), 0)
	tells(t, "Remove of the only kid", el("a"), got, ok)
	for _, root := range []api.Node{n, el("a"), tx("x"), {}} {
		got, ok = path.Remove(root)
		none(t, "Remove of the root", got, ok)
		got, ok = path.Remove(root, []int{}...)
		none(t, "Remove of the root", got, ok)
	}
}

func TestInsertTellsTheTree(t *testing.T) { // P6.1
	n := parsed(t, "<a>x<b/>y<d>z</d></a>")
	b, d := el("b"), el("d", tx("z"))
	w := el("w", tx("v"), tx("u"))
	for _, x := range []struct {
		kid, want api.Node
		before    int
		place     []int
	}{
		{w, el("a", w, tx("x"), b, tx("y"), d), 0, nil},
		{w, el("a", tx("x"), w, b, tx("y"), d), 1, nil},
		{w, el("a", tx("x"), b, w, tx("y"), d), 2, nil},
		{w, el("a", tx("x"), b, tx("y"), w, d), 3, nil},
		{w, el("a", tx("x"), b, tx("y"), d, w), 4, nil},
		{tx("q"), el("a", tx("qx"), b, tx("y"), d), 0, nil},
		{tx("q"), el("a", tx("xq"), b, tx("y"), d), 1, nil},
		{tx("q"), el("a", tx("x"), b, tx("qy"), d), 2, nil},
		{tx("q"), el("a", tx("x"), b, tx("yq"), d), 3, nil},
		{tx("q"), el("a", tx("x"), b, tx("y"), d, tx("q")), 4, nil},
		{tx(""), el("a", tx("x"), b, tx("y"), d), 1, nil},
		{tx(""), el("a", tx("x"), b, tx("y"), d, tx("")), 4, nil},
		{w, el("a", tx("x"), el("b", w), tx("y"), d), 0, []int{1}},
		{tx("q"), el("a", tx("x"), el("b", tx("q")), tx("y"), d), 0, []int{1}},
		{w, el("a", tx("x"), b, tx("y"), el("d", w, tx("z"))), 0, []int{3}},
		{w, el("a", tx("x"), b, tx("y"), el("d", tx("z"), w)), 1, []int{3}},
		{api.Node{}, el("a", tx("x"), b, tx("y"), el("d", tx("z"), api.Node{})), 1, []int{3}},
		{n, el("a", tx("x"), n, b, tx("y"), d), 1, nil},
	} {
		got, ok := path.Insert(n, x.kid, x.before, x.place...)
		tells(t, fmt.Sprint("Insert ", x.before, x.place, written(x.kid)), x.want, got, ok)
	}
	c := parsed(t, "<a>x<b/></a>")
	got, ok := path.Insert(c, el("c"), 0)
	tells(t, "the chapter's example", el("a", el("c"), tx("x"), b), got, ok)
}

func TestInsertCountsTheKids(t *testing.T) { // P6.1
	for kids := range 5 {
		n := el("a", tx("x"), el("b"))
		for i := range kids {
			n.Kids[1].Kids = append(n.Kids[1].Kids, el(fmt.Sprint("c", i)))
		}
		for before := -3; before < kids+4; before++ {
			got, ok := path.Insert(n, el("w"), before, 1)
			if before < 0 || before > kids {
				none(t, fmt.Sprint(before, " of ", kids), got, ok)
				continue
			}
			want := el("a", tx("x"), el("b", slices.Insert(slices.Clone(n.Kids[1].Kids), before, el("w"))...))
			tells(t, fmt.Sprint(before, " of ", kids), want, got, ok)
		}
		for _, before := range []int{1 << 31, -1 << 31, 1 << 32, math.MaxInt, math.MinInt} {
			got, ok := path.Insert(n, el("w"), before, 1)
			none(t, fmt.Sprint(before, " of ", kids), got, ok)
		}
	}
}

func TestTextsAreJoined(t *testing.T) { // P6.1
	b, c := el("b", tx("1"), tx("2")), el("c")
	n := el("a", tx("p"), tx("q"), b, tx("r"), tx(""), tx("s"), c, tx("t"), tx("u"))
	rest := []api.Node{tx("rs"), c, tx("tu")}
	w := el("w", tx("3"), tx("4"))

	got, ok := path.Replace(n, w, 2)
	tells(t, "Replace", el("a", append([]api.Node{tx("pq"), w}, rest...)...), got, ok)
	got, ok = path.Replace(n, tx("w"), 2)
	tells(t, "Replace by a text", el("a", tx("pqwrs"), c, tx("tu")), got, ok)
	got, ok = path.Replace(n, tx("w"), 1)
	tells(t, "Replace of a text", el("a", append([]api.Node{tx("pw"), b}, rest...)...), got, ok)
	got, ok = path.Replace(n, w, 4)
	tells(t, "Replace between texts", el("a", tx("pq"), b, tx("r"), w, tx("s"), c, tx("tu")), got, ok)
	got, ok = path.Remove(n, 2)
	tells(t, "Remove", el("a", tx("pqrs"), c, tx("tu")), got, ok)
	got, ok = path.Remove(n, 6)
	tells(t, "Remove of c", el("a", tx("pq"), b, tx("rstu")), got, ok)
	got, ok = path.Remove(n, 0)
	tells(t, "Remove of a text", el("a", append([]api.Node{tx("q"), b}, rest...)...), got, ok)
	got, ok = path.Insert(n, w, 3)
	tells(t, "Insert", el("a", append([]api.Node{tx("pq"), b, w}, rest...)...), got, ok)
	got, ok = path.Insert(n, w, 1)
	tells(t, "Insert between texts", el("a", append([]api.Node{tx("p"), w, tx("q"), b}, rest...)...), got, ok)
	got, ok = path.Insert(n, tx("w"), 5)
	tells(t, "Insert of a text", el("a", tx("pq"), b, tx("rws"), c, tx("tu")), got, ok)

	// Where no kids were changed, none are joined: neither around an element whose kids were, nor within one.
	got, ok = path.Remove(n, 2, 0)
	tells(t, "Remove within", el("a", slices.Replace(slices.Clone(n.Kids), 2, 3, el("b", tx("2")))...), got, ok)
	got, ok = path.Insert(n, c, 2, 2)
	tells(t, "Insert within", el("a", slices.Replace(slices.Clone(n.Kids), 2, 3, el("b", tx("12"), c))...), got, ok)
	got, ok = path.Replace(n, c, 2, 1)
	tells(t, "Replace within", el("a", slices.Replace(slices.Clone(n.Kids), 2, 3, el("b", tx("1"), c))...), got, ok)
	got, ok = path.Replace(n, w)
	tells(t, "Replace of the root", w, got, ok)
	got, ok = path.SetAttr(n, attr("k", "1"))
	tells(t, "SetAttr", with(attrs("k", "1"), n), got, ok)
	got, ok = path.DropAttr(with(attrs("k", "1"), n), in("k"))
	tells(t, "DropAttr", n, got, ok)
	got, ok = path.At(n)
	tells(t, "At", n, got, ok)
}

func TestTheFirstTextKeepsItsFields(t *testing.T) { // P6.1
	p, q, r := odd("p", "u:p", el("k", tx("1"), tx("2"))), odd("q", "u:q", el("l")), odd("r", "u:r")
	joined := func(first api.Node, s string) api.Node {
		first.Text = s
		return first
	}
	n := el("a", p, el("b"), q, r)
	got, ok := path.Remove(n, 1)
	tells(t, "Remove", el("a", joined(p, "pqr")), got, ok)
	got, ok = path.Remove(n, 0)
	tells(t, "Remove of the first", el("a", el("b"), joined(q, "qr")), got, ok)
	got, ok = path.Replace(n, r, 1)
	tells(t, "Replace", el("a", joined(p, "prqr")), got, ok)
	got, ok = path.Replace(n, r, 0)
	tells(t, "Replace of the first", el("a", r, el("b"), joined(q, "qr")), got, ok)
	got, ok = path.Insert(n, r, 0)
	tells(t, "Insert ahead", el("a", joined(r, "rp"), el("b"), joined(q, "qr")), got, ok)
	got, ok = path.Insert(n, r, 2)
	tells(t, "Insert ahead of q", el("a", p, el("b"), joined(r, "rqr")), got, ok)
	got, ok = path.Insert(n, tx("t"), 4)
	tells(t, "Insert behind", el("a", p, el("b"), joined(q, "qrt")), got, ok)
	// Other nodes are no texts, whatever Text they have.
	o, e := other("o"), el("e")
	o.Text, e.Text = "o", "e"
	got, ok = path.Insert(el("a", o, o, e, e), o, 4)
	tells(t, "Insert of another node", el("a", o, o, e, e, o), got, ok)
	got, ok = path.Insert(el("a", o, o, e, e), tx("x"), 1)
	tells(t, "Insert between other nodes", el("a", o, tx("x"), o, e, e), got, ok)
}

func TestOnlyElementsAreChanged(t *testing.T) { // P6.1, P6.2
	for _, holder := range []api.Node{odd("x", "k", el("b"), tx("y")), other("k", el("b"), tx("y")), {Kids: []api.Node{el("b"), tx("y")}}} {
		holder.Attrs = attrs("k", "1")
		for _, x := range []struct {
			n     api.Node
			place []int
		}{
			{holder, nil},
			{el("a", tx("z"), holder), []int{1}},
			{el("a", el("c", holder)), []int{0, 0}},
		} {
			what := fmt.Sprint(written(x.n), x.place)
			kid, last := append(slices.Clone(x.place), 0), append(slices.Clone(x.place), 1)
			got, ok := path.At(x.n, kid...)
			tells(t, "At "+what, el("b"), got, ok)
			for _, place := range [][]int{kid, last} {
				got, ok = path.Replace(x.n, el("w"), place...)
				none(t, "Replace "+what, got, ok)
				got, ok = path.Remove(x.n, place...)
				none(t, "Remove "+what, got, ok)
			}
			for before := range 3 {
				got, ok = path.Insert(x.n, el("w"), before, x.place...)
				none(t, "Insert "+what, got, ok)
			}
			got, ok = path.SetAttr(x.n, attr("k", "2"), x.place...)
			none(t, "SetAttr "+what, got, ok)
			got, ok = path.SetAttr(x.n, attr("l", "2"), x.place...)
			none(t, "SetAttr of a new one "+what, got, ok)
			got, ok = path.DropAttr(x.n, in("k"), x.place...)
			none(t, "DropAttr "+what, got, ok)
		}
	}
}

func TestSetAttrTellsTheTree(t *testing.T) { // P6.2
	l := attrs("k", "1", "u:k", "2", "m", "3")
	for _, x := range []struct {
		ahead []api.Attr
		a     api.Attr
		want  []api.Attr
	}{
		{nil, attr("k", "1"), attrs("k", "1")},
		{nil, api.Attr{}, []api.Attr{{}}},
		{l, attr("k", "9"), attrs("k", "9", "u:k", "2", "m", "3")},
		{l, attr("u:k", "9"), attrs("k", "1", "u:k", "9", "m", "3")},
		{l, attr("m", "9"), attrs("k", "1", "u:k", "2", "m", "9")},
		{l, attr("m", ""), attrs("k", "1", "u:k", "2", "m", "")},
		{l, attr("m", "3"), l},
		{l, attr("v:k", "9"), attrs("k", "1", "u:k", "2", "m", "3", "v:k", "9")},
		{l, attr("a", "9"), attrs("k", "1", "u:k", "2", "m", "3", "a", "9")},
		{l, attr("u:m", "1"), attrs("k", "1", "u:k", "2", "m", "3", "u:m", "1")},
		{attrs("m", "0", "k", "1", "l", "2", "k", "3"), attr("k", "9"), attrs("m", "0", "k", "9", "l", "2", "k", "3")},
		{attrs("k", "9", "k", "9"), attr("k", "8"), attrs("k", "8", "k", "9")},
	} {
		kids := []api.Node{tx("x"), tx("y"), with(attrs("k", "5"), el("b"))}
		n := with(x.ahead, el("a", kids...))
		got, ok := path.SetAttr(n, x.a)
		tells(t, "SetAttr", with(x.want, el("a", kids...)), got, ok)
		got, ok = path.SetAttr(el("p", n, tx("z"), n), x.a, 2)
		tells(t, "SetAttr within", el("p", n, tx("z"), with(x.want, el("a", kids...))), got, ok)
	}
}

func TestDropAttrTellsTheTree(t *testing.T) { // P6.2
	l := attrs("k", "1", "u:k", "2", "m", "3")
	for _, x := range []struct {
		ahead []api.Attr
		name  string
		want  []api.Attr
	}{
		{l, "k", attrs("u:k", "2", "m", "3")},
		{l, "u:k", attrs("k", "1", "m", "3")},
		{l, "m", attrs("k", "1", "u:k", "2")},
		{attrs("k", "1"), "k", nil},
		{[]api.Attr{{}}, "", nil},
		{attrs("m", "0", "k", "1", "l", "2", "k", "3"), "k", attrs("m", "0", "l", "2", "k", "3")},
	} {
		kids := []api.Node{tx("x"), tx("y"), with(attrs("k", "5"), el("b"))}
		n := with(x.ahead, el("a", kids...))
		got, ok := path.DropAttr(n, in(x.name))
		tells(t, "DropAttr of "+x.name, with(x.want, el("a", kids...)), got, ok)
		got, ok = path.DropAttr(el("p", n, tx("z"), n), in(x.name), 2)
		tells(t, "DropAttr within of "+x.name, el("p", n, tx("z"), with(x.want, el("a", kids...))), got, ok)
	}
	for _, name := range []string{"", "K", "kk", "v:k", "u:m", "u:", "l", "1"} {
		got, ok := path.DropAttr(el("p", with(l, el("a", with(attrs(name, "1"), el("b"))))), in(name), 0)
		none(t, "DropAttr of "+name, got, ok)
	}
	got, ok := path.DropAttr(el("a"), api.Name{})
	none(t, "DropAttr of no name", got, ok)
}

func TestPlacesTellsElements(t *testing.T) { // P6.2
	deep := el("z")
	var down [][]int
	for i := range 30 {
		deep = el("d", tx("x"), deep)
		down = append(down, slices.Repeat([]int{1}, i))
	}
	for _, x := range []struct {
		n    api.Node
		want [][]int
	}{
		{el("a"), [][]int{{}}},
		{el("a", tx("x")), [][]int{{}}},
		{el("a", tx("x"), el("b")), [][]int{{}, {1}}},
		{big(), [][]int{{}, {1}, {2}, {2, 1}, {2, 1, 0}, {2, 2}, {4}}},
		{el("a", el("b", el("c"), el("d")), el("e", el("f"))), [][]int{{}, {0}, {0, 0}, {0, 1}, {1}, {1, 0}}},
		{deep, append(down, slices.Repeat([]int{1}, 30))},
		{tx("x"), nil},
		{api.Node{}, nil},
		{odd("x", "k", el("b")), nil},
		{other("k", el("b")), nil},
		{api.Node{Kids: []api.Node{el("b")}}, nil},
		{el("a", odd("x", "k", el("b", el("c")), el("d")), el("e")), [][]int{{}, {1}}},
		{el("a", el("b", odd("x", "k", el("c"))), el("e")), [][]int{{}, {0}, {1}}},
		{el("a", other("k", el("b"), odd("x", "k", el("c"))), el("e")), [][]int{{}, {0, 0}, {1}}},
	} {
		if got := path.Places(x.n); !slices.EqualFunc(got, x.want, slices.Equal[[]int]) {
			t.Errorf("Places(%s) = %v, not %v", written(x.n), got, x.want)
		}
	}
}

func TestTheChaptersExamples(t *testing.T) { // P6.1
	n := parsed(t, "<a>x<b/>y</a>")
	got, ok := path.At(n, 1)
	tells(t, "At", el("b"), got, ok)
	got, ok = path.Remove(n, 1)
	tells(t, "Remove", el("a", tx("xy")), got, ok)
	got, ok = path.Insert(parsed(t, "<a>x<b/></a>"), el("c"), 0)
	tells(t, "Insert", el("a", el("c"), tx("x"), el("b")), got, ok)
}
