package print_test

import (
	stdxml "encoding/xml"
	"fmt"
	"io"
	"math/rand"
	"slices"
	"sort"
	"strings"
	"testing"

	"watchbill/api"
	"watchbill/print"
	"watchbill/qname"
	"watchbill/tree"
)

// wanted: a right tree as the chapter says that it is printed, however long.
func wanted(n api.Node) string { return wantedIn("", n) }

func wantedIn(space string, n api.Node) string {
	if n.Kind == api.Text {
		return escaped(n.Text, false)
	}
	tag, declarations, inner := n.Name.Local, "", space
	switch n.Name.Space {
	case qname.XML:
		tag = "xml:" + tag
	case space:
	default:
		inner = n.Name.Space
		declarations = ` xmlns="` + escaped(inner, true) + `"`
	}
	prefixes := map[string]string{"": "", qname.XML: "xml:"}
	var spaces []string
	for _, a := range n.Attrs {
		if _, there := prefixes[a.Name.Space]; !there {
			prefixes[a.Name.Space] = "?"
			spaces = append(spaces, a.Name.Space)
		}
	}
	sort.Strings(spaces)
	for i, s := range spaces {
		prefixes[s] = fmt.Sprintf("n%d:", i+1)
		declarations += fmt.Sprintf(` xmlns:n%d="%s"`, i+1, escaped(s, true))
	}
	var b strings.Builder
	for _, a := range sorted(n).Attrs {
		fmt.Fprintf(&b, ` %s%s="%s"`, prefixes[a.Name.Space], a.Name.Local, escaped(a.Value, true))
	}
	begin := "<" + tag + declarations + b.String()
	if len(n.Kids) == 0 {
		return begin + "/>"
	}
	b.Reset()
	for _, k := range n.Kids {
		b.WriteString(wantedIn(inner, k))
	}
	return begin + ">" + b.String() + "</" + tag + ">"
}

// sorted: a node with all that is in it, its attributes in one order.
func sorted(n api.Node) api.Node {
	n.Attrs, n.Kids = slices.Clone(n.Attrs), slices.Clone(n.Kids)
	sort.Slice(n.Attrs, func(i, j int) bool {
		a, b := n.Attrs[i].Name, n.Attrs[j].Name
		return a.Space < b.Space || a.Space == b.Space && a.Local < b.Local
	})
	for i, k := range n.Kids {
		n.Kids[i] = sorted(k)
	}
	return n
}

// decoded: the tree that another reader of documents, that of Go's library, makes of one.
func decoded(s string) (api.Node, error) {
	d := stdxml.NewDecoder(strings.NewReader(s))
	open := []api.Node{{}}
	for {
		token, err := d.Token()
		last := len(open) - 1
		switch x := token.(type) {
		case stdxml.StartElement:
			n := api.Node{Kind: api.Element, Name: api.Name{Space: x.Name.Space, Local: x.Name.Local}}
			for _, a := range x.Attr {
				if a.Name.Space != "xmlns" && (a.Name.Space != "" || a.Name.Local != "xmlns") {
					n.Attrs = append(n.Attrs, api.Attr{Name: api.Name{Space: a.Name.Space, Local: a.Name.Local}, Value: a.Value})
				}
			}
			open = append(open, n)
		case stdxml.EndElement:
			open[last-1].Kids = append(open[last-1].Kids, open[last])
			open = open[:last]
		case stdxml.CharData:
			open[last].Kids = append(open[last].Kids, tx(string(x)))
		}
		if err == io.EOF && len(open) == 1 && len(open[0].Kids) == 1 {
			return open[0].Kids[0], nil
		}
		if err != nil {
			return api.Node{}, fmt.Errorf("%w", err)
		}
	}
}

// holds: a tree must be printed as it is read here, and that be parsed, by both readers, as the tree.
func holds(t *testing.T, n api.Node) string {
	t.Helper()
	want, e := wanted(n), api.OK
	if !tree.Right(n) {
		want, e = "", api.ErrForm
	} else if len(want) > api.MaxBytes {
		want, e = "", api.ErrLong
	}
	s, got := print.Print(n)
	if s != want || got != e {
		t.Errorf("Print = %.500q, %v, not %.500q, %v", s, got, want, e)
	}
	if got != api.OK {
		return s
	}
	back, at, e := tree.Parse(s)
	if e != api.OK || !tree.Same(back, n) {
		t.Errorf("Parse(%.500q): another tree, %d, %v", s, at, e)
	}
	if again, e := print.Print(back); again != s || e != api.OK {
		t.Errorf("%.500q is parsed and printed again as %.500q, %v", s, again, e)
	}
	if other, err := decoded(s); err != nil || !tree.Same(other, n) {
		t.Errorf("%.500q is another tree to another reader: %v", s, err)
	}
	return s
}

// all: trees of all names, attributes and kids of a few kinds.
func all() []api.Node {
	spaces := []string{"", "u:", "v:", xml}
	lists := [][]api.Attr{nil}
	for _, a := range []string{"", "u:", "v:", xml} {
		lists = append(lists, attrs(a+"x", "1"), attrs(a+"y", "1"), attrs(a+"x", "2"))
		for _, b := range []string{"", "u:", "v:", xml} {
			lists = append(lists, attrs(a+"x", "1", b+"y", "2"))
			if a != b {
				lists = append(lists, attrs(a+"x", "1", b+"x", "2"), attrs(a+"x", "1", b+"x", "1", b+"y", ""))
			}
		}
	}
	var leaves, out []api.Node
	for _, s := range spaces {
		leaves = append(leaves, el(s+"a"), el(s+"b"), el(s+"a", tx("x")), with(attrs("u:x", "1"), el(s+"a")))
		for _, l := range lists {
			out = append(out, with(l, el(s+"a")), with(l, el(s+"a", tx("x"))), el("a", with(l, el(s+"a"))))
		}
	}
	for _, s := range spaces {
		out = append(out, el(s+"a"), el(s+"b"), el(s+"a", tx("y")), el(s+"a", tx("xy")))
		for _, k := range leaves {
			out = append(out, el(s+"a", k), el(s+"a", tx("x"), k), el(s+"a", k, tx("x")))
			for _, r := range leaves {
				out = append(out, el(s+"a", k, r), el(s+"a", k, tx("x"), r), el(s+"a", el(s+"a", k), r), el(s+"a", k, el("v:a", r)))
			}
		}
	}
	return out
}

func TestPrintOfAllSmallTrees(t *testing.T) { // P5.1, P5.2
	// Of printed ones, the trees; of trees, what they were printed as.
	trees, texts := map[string]string{}, map[string]string{}
	for _, n := range all() {
		s := holds(t, n)
		canon := string(written(nil, sorted(n)))
		if first, there := trees[s]; there && first != canon {
			t.Errorf("two trees are printed alike, as %q: %s and %s", s, first, canon)
		}
		if first, there := texts[canon]; there && first != s {
			t.Errorf("one tree is printed as %q and %q", first, s)
		}
		trees[s], texts[canon] = canon, s
	}
	if len(trees) < 1500 {
		t.Errorf("only %d trees", len(trees))
	}
}

// orders: a list's attributes in all orders.
func orders(l []api.Attr) [][]api.Attr {
	if len(l) == 0 {
		return [][]api.Attr{nil}
	}
	var out [][]api.Attr
	for i, a := range l {
		for _, rest := range orders(slices.Delete(slices.Clone(l), i, i+1)) {
			out = append(out, append([]api.Attr{a}, rest...))
		}
	}
	return out
}

func TestPrintDoesNotHangOnTheOrderOfAttributes(t *testing.T) { // P5.2
	l := attrs("b", "1", "u:b", "2", "u:c", "3", xml+"b", "4", "v:b", "5", "v:a", "6", "c", "7")
	want := `<a xmlns:n1="u" xmlns:n2="v" b="1" c="7" xml:b="4" n1:b="2" n1:c="3" n2:a="6" n2:b="5">`
	for _, l := range orders(l) {
		if s, e := print.Print(with(l, el("a", tx("x")))); s != want+"x</a>" || e != api.OK {
			t.Errorf("Print of attributes as %v = %q, %v", l, s, e)
		}
	}
	for _, l := range orders(l[:4]) {
		for _, m := range orders(l[:3]) {
			n := with(l, el("a", with(m, el("b"))))
			if s := holds(t, n); s != wanted(n) {
				t.Errorf("Print of attributes as %v, %v = %q", l, m, s)
			}
		}
	}
}

func TestPrintTellsTreesApart(t *testing.T) { // P5.2
	base := with(attrs("b", "1", "u:b", "2"), el("u:a", tx("x"), el("b", tx("y")), el("u:c")))
	others := []api.Node{
		with(attrs("b", "1", "u:b", "2"), el("v:a", tx("x"), el("b", tx("y")), el("u:c"))),
		with(attrs("b", "1", "u:b", "2"), el("a", tx("x"), el("b", tx("y")), el("u:c"))),
		with(attrs("b", "1", "u:b", "2"), el("u:d", tx("x"), el("b", tx("y")), el("u:c"))),
		with(attrs("b", "2", "u:b", "1"), el("u:a", tx("x"), el("b", tx("y")), el("u:c"))),
		with(attrs("b", "1"), el("u:a", tx("x"), el("b", tx("y")), el("u:c"))),
		with(attrs("b", "1", "v:b", "2"), el("u:a", tx("x"), el("b", tx("y")), el("u:c"))),
		with(attrs("b", "1", "u:c", "2"), el("u:a", tx("x"), el("b", tx("y")), el("u:c"))),
		with(attrs("b", "1", xml+"b", "2"), el("u:a", tx("x"), el("b", tx("y")), el("u:c"))),
		with(attrs("b", "1", "u:b", "2"), el("u:a", tx("z"), el("b", tx("y")), el("u:c"))),
		with(attrs("b", "1", "u:b", "2"), el("u:a", el("b", tx("y")), tx("x"), el("u:c"))),
		with(attrs("b", "1", "u:b", "2"), el("u:a", tx("x"), el("u:b", tx("y")), el("u:c"))),
		with(attrs("b", "1", "u:b", "2"), el("u:a", tx("x"), el("u:c"), el("b", tx("y")))),
		with(attrs("b", "1", "u:b", "2"), el("u:a", tx("x"), el("b", tx("y")), el("c"))),
		with(attrs("b", "1", "u:b", "2"), el("u:a", tx("x"), el("b", tx("y"), el("u:c")))),
		with(attrs("b", "1", "u:b", "2"), el("u:a", tx("x"), el("b"), tx("y"), el("u:c"))),
		el("u:a", tx("x"), with(attrs("b", "1", "u:b", "2"), el("b", tx("y"))), el("u:c")),
		el("a", tx("<")), el("a", tx("&lt;")), el("a", tx("&amp;lt;")), el("a", tx("\n")), el("a", tx("\r")), el("a", tx("\r\n")), el("a", tx("&#13;")), el("a", tx(" ")), el("a", tx("\t")), el("a"),
		with(attrs("b", "\n"), el("a")), with(attrs("b", "\r"), el("a")), with(attrs("b", "\t"), el("a")), with(attrs("b", " "), el("a")), with(attrs("b", ""), el("a")), with(attrs("b", "&quot;"), el("a")), with(attrs("b", "\""), el("a")),
	}
	came := map[string]int{holds(t, base): -1}
	for i, n := range others {
		s := holds(t, n)
		if first, there := came[s]; there {
			t.Errorf("%d and %d are printed alike: %q", first, i, s)
		}
		came[s] = i
	}
}

// pick: one of several, by chance.
func pick(chance *rand.Rand, l ...string) string { return l[chance.Intn(len(l))] }

// chanceName, chanceText, chanceNode: by chance, such as may be.
func chanceName(chance *rand.Rand) api.Name {
	return api.Name{
		Space: pick(chance, "", "", "u", "u", "v", "n1", "xml", "&\"<", "\t\r\n '>", "é", "\U00010000", qname.XML, qname.XML[:30], qname.XML+"/"),
		Local: pick(chance, "a", "b", "c", "B", "a-b", "a.b", "_", "n1", "xml", "é", strings.Repeat("a", 64)),
	}
}

func chanceText(chance *rand.Rand) string {
	s := ""
	for range 1 + chance.Intn(4) {
		s += pick(chance, "x", "y", " ", "&", "<", ">", "\"", "'", "\t", "\n", "\r", "]]>", "&lt;", "é", "\U0001f600", strings.Repeat("z", chance.Intn(9)))
	}
	return s
}

func chanceNode(chance *rand.Rand, deep int) api.Node {
	n := api.Node{Kind: api.Element, Name: chanceName(chance)}
	for range chance.Intn(3) * chance.Intn(4) {
		a := api.Attr{Name: chanceName(chance), Value: chanceText(chance)}
		if chance.Intn(4) == 0 {
			a.Value = ""
		}
		if _, there := tree.Get(n, a.Name); !there {
			n.Attrs = append(n.Attrs, a)
		}
	}
	if deep == 0 {
		return n
	}
	text := false
	for range chance.Intn(7) {
		text = !text && chance.Intn(2) == 0
		if s := chanceText(chance); text && s != "" {
			n.Kids = append(n.Kids, tx(s))
			continue
		}
		text = false
		n.Kids = append(n.Kids, chanceNode(chance, deep-1))
	}
	return n
}

func TestPrintOfChanceTrees(t *testing.T) { // P5.1, P5.2
	chance := rand.New(rand.NewSource(5))
	told := map[api.Errno]int{}
	for range 3000 {
		n := chanceNode(chance, chance.Intn(8))
		s := holds(t, n)
		_, e := print.Print(n)
		told[e]++
		chance.Shuffle(len(n.Attrs), func(i, j int) { n.Attrs[i], n.Attrs[j] = n.Attrs[j], n.Attrs[i] })
		if again, f := print.Print(n); again != s || f != e {
			t.Errorf("in another order of attributes: %.500q, %v, not %.500q, %v", again, f, s, e)
		}
	}
	if told[api.OK] < 2000 || told[api.ErrLong] < 20 || told[api.ErrForm] > 100 {
		t.Errorf("too few trees of one kind: %v", told)
	}
}

// parsedAgain: if bytes are parsed, and what is parsed can be printed, that must be parsed as the same.
func parsedAgain(t *testing.T, s string) {
	t.Helper()
	n, _, e := tree.Parse(s)
	if e != api.OK {
		return
	}
	want := wanted(n)
	p, e := print.Print(n)
	if len(want) > api.MaxBytes {
		if p != "" || e != api.ErrLong {
			t.Errorf("Print of Parse(%.300q): %d bytes, %v", s, len(p), e)
		}
		return
	}
	if p != want || e != api.OK {
		t.Errorf("Print of Parse(%.300q) = %.500q, %v, not %.500q", s, p, e, want)
	}
	if back, at, e := tree.Parse(p); e != api.OK || !tree.Same(back, n) {
		t.Errorf("Parse(%.300q), printed as %.500q: another tree, %d, %v", s, p, at, e)
	}
}

// documents: with what may stand in one.
func documents() []string {
	return []string{
		`<a/>`, `<a></a>`, `<a ></a >`, `<?xml version="1.0" encoding="UTF-8"?><!-- x --><a/><?p x?> `,
		"<a>x<![CDATA[<y>&]]>z<!-- -->\r\n\r\t&#13;&#x41;&apos;&quot;&lt;&gt;&amp;]]&gt;</a>",
		"<a b='\"\r\n\t&#9;&#10;&#13;&apos;&quot;&lt;>&amp;' c=\"'\"/>",
		`<p:a xmlns:p="u" p:x="1" x="2"><p:b/><b/><b xmlns="u" xmlns:p="v" p:x="3"/></p:a>`,
		`<a xmlns="u"><b xmlns="v"><c xmlns=""><d xmlns="u"/></c></b></a>`,
		`<n2:a xmlns:n1="v" xmlns:n2="u" n1:x="1" n2:x="2"><n1:b/></n2:a>`,
		`<xml:a xml:lang="e" xmlns:xml="` + qname.XML + `"><b/></xml:a>`,
		`<a xmlns:p="` + "u&amp;&#10;v" + `" p:b=""><p:c/></a>`,
		"<a>" + strings.Repeat("<![CDATA[x]]><b/>", 999) + "</a>",
		"<a>" + strings.Repeat("&#38;", 6552) + "</a>",
		"<a><![CDATA[" + strings.Repeat("&", 6552) + "]]></a>", "<a><![CDATA[" + strings.Repeat("&", 6553) + "]]></a>", "<a><![CDATA[" + strings.Repeat("<", 30000) + "]]></a>",
		"<a>" + strings.Repeat("x", 32761) + "</a>", "<a xmlns='u'>" + strings.Repeat("<b/>", 1998) + "</a>",
		`<p:a xmlns:p="urn:x">` + strings.Repeat("<p:b>x</p:b>", 999) + `</p:a>`,
		`<p:a xmlns:p="urn:x">` + strings.Repeat(`<b p:c="1"/>`, 1900) + `</p:a>`,
		strings.Repeat("<a>", 24) + strings.Repeat("</a>", 24),
	}
}

func TestParsedPrintedAndParsedIsTheSame(t *testing.T) { // P5.2
	for _, s := range documents() {
		if _, at, e := tree.Parse(s); e != api.OK {
			t.Errorf("Parse(%.300q): %d, %v", s, at, e)
		}
		parsedAgain(t, s)
	}
	// All short rows of pieces; most come to nothing.
	l := []string{"<a>", "</a>", "<a xmlns='u'>", "<p:b xmlns:p='u' p:x='&#9;' x='&lt;'/>", "<b xmlns='' xmlns:q='v' q:x='\"'/>", "<xml:b/>", "x", "&gt;", "\r", "<![CDATA[<]]>"}
	var rows func(n int, s string)
	rows = func(n int, s string) {
		parsedAgain(t, s)
		if n > 0 {
			for _, x := range l {
				rows(n-1, s+x)
			}
		}
	}
	rows(4, "<a>")
	rows(3, "<a xmlns='u'>")
	rows(3, "<q:a xmlns:q='w' xmlns='v'>")
}

func FuzzPrint(f *testing.F) { // P5.2: what is parsed of any bytes, printed and parsed again, is the same
	for _, s := range documents() {
		f.Add(s)
	}
	f.Fuzz(func(t *testing.T, s string) { parsedAgain(t, s) })
}
