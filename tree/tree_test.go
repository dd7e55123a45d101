package tree_test

import (
	"fmt"
	"slices"
	"strings"
	"testing"

	"watchbill/api"
	"watchbill/lex"
	"watchbill/qname"
	"watchbill/tree"
)

// in: a name in a namespace; a name without a colon is in none, else the part behind the last one is the local one.
func in(name string) api.Name {
	i := strings.LastIndexByte(name, ':')
	return api.Name{Space: name[:max(i, 0)], Local: name[i+1:]}
}

// attrs: attributes, of names and values in turn.
func attrs(l ...string) []api.Attr {
	var out []api.Attr
	for i := 0; i < len(l); i += 2 {
		out = append(out, api.Attr{Name: in(l[i]), Value: l[i+1]})
	}
	return out
}

// el, with, tx: nodes.
func el(name string, kids ...api.Node) api.Node {
	return api.Node{Kind: api.Element, Name: in(name), Kids: kids}
}

func with(l []api.Attr, n api.Node) api.Node {
	n.Attrs = l
	return n
}

func tx(s string) api.Node { return api.Node{Kind: api.Text, Text: s} }

// shown: a node with all that is in it, as one text that tells any two apart but for empty lists of two kinds.
func shown(n api.Node) string { return string(written(nil, n, false)) }

// written: the same behind other bytes; with room, the spare room of all lists too.
func written(b []byte, n api.Node, room bool) []byte {
	l, kids := n.Attrs, n.Kids
	if room {
		l, kids = l[:cap(l)], kids[:cap(kids)]
	}
	b = fmt.Appendf(b, "{%d %q %q %q %d %d", n.Kind, n.Name.Space, n.Name.Local, n.Text, len(n.Attrs), len(n.Kids))
	for _, a := range l {
		b = fmt.Appendf(b, " (%q %q %q)", a.Name.Space, a.Name.Local, a.Value)
	}
	for _, k := range kids {
		b = written(b, k, room)
	}
	return append(b, '}')
}

// like: are they the same nodes, with attributes in one order?
func like(a, b api.Node) bool { return shown(a) == shown(b) }

// parsed: a document must have just this tree.
func parsed(t *testing.T, s string, want api.Node) {
	t.Helper()
	if n, at, e := tree.Parse(s); !like(n, want) || at != 0 || e != api.OK {
		t.Errorf("Parse(%.200q) = %.500s, %d, %v, not %.500s", s, shown(n), at, e, shown(want))
	}
}

// wrong: a document must be wrong there, and so.
func wrong(t *testing.T, s string, at int, e api.Errno) {
	t.Helper()
	if n, gotAt, gotE := tree.Parse(s); !like(n, api.Node{}) || gotAt != at || gotE != e {
		t.Errorf("Parse(%.200q) = %.500s, %d, %v, not %d, %v", s, shown(n), gotAt, gotE, at, e)
	}
}

// fits: a document must be taken.
func fits(t *testing.T, s string) {
	t.Helper()
	if _, at, e := tree.Parse(s); at != 0 || e != api.OK {
		t.Errorf("Parse(%.200q): %d, %v", s, at, e)
	}
}

// some: so many pieces, made of their numbers from 100 on, which are alike long.
func some(n int, ahead, behind string) string {
	var b strings.Builder
	for i := range n {
		fmt.Fprintf(&b, "%s%d%s", ahead, 100+i, behind)
	}
	return b.String()
}

func TestParseTellsTheTree(t *testing.T) { // P4.1
	parsed(t, "<a/>", el("a"))
	parsed(t, "<a></a>", el("a"))
	parsed(t, "<a ></a >", el("a"))
	parsed(t, "<a>x</a>", el("a", tx("x")))
	parsed(t, "<a> \n</a>", el("a", tx(" \n")))
	parsed(t, "<a><b/>x<c>y</c><d/></a>", el("a", el("b"), tx("x"), el("c", tx("y")), el("d")))
	parsed(t, "<a><a><a/></a><a/></a>", el("a", el("a", el("a")), el("a")))
	parsed(t, "<a>x<b>y<c>z</c>u</b>v</a>", el("a", tx("x"), el("b", tx("y"), el("c", tx("z")), tx("u")), tx("v")))
	parsed(t, "<a b='1' c=\"2\"><d e='3'/></a>", with(attrs("b", "1", "c", "2"), el("a", with(attrs("e", "3"), el("d")))))
	parsed(t, "<a c='' b=' x\ny&#10;&lt;'/>", with(attrs("c", "", "b", " x y\n<"), el("a")))
	parsed(t, "<a>x\r\n&lt;&#13;</a>", el("a", tx("x\n<\r")))
	parsed(t, "<\u00e9>\u4e2d</\u00e9>", el("\u00e9", tx("\u4e2d")))
	parsed(t, "<xmlns/>", el("xmlns"))
}

func TestParseTellsWhatStandsOutsideOfTheRoot(t *testing.T) { // P4.1
	for _, s := range []string{"", " ", "\t\r\n ", "<!---->", "<!--x-->", "<?p x?>", " <?p?>\n<!-- --> ", "<![CDATA[]]>", "<![CDATA[ \n]]>", "&#32;", "&#9;&#10;&#13;"} {
		parsed(t, s+"<a/>", el("a"))
		parsed(t, "<a/>"+s, el("a"))
		parsed(t, s+"<a>x</a>"+s, el("a", tx("x")))
		parsed(t, "<?xml version='1.0'?>"+s+"<a/>"+s, el("a"))
		wrong(t, s, len(s), api.ErrRoot)
		wrong(t, s+"<a>", len(s)+3, api.ErrShort)
		wrong(t, s+"<a>"+s, 2*len(s)+3, api.ErrShort)
		wrong(t, s+"</a>", len(s), api.ErrEnd)
		wrong(t, "<a/>"+s+"<a/>", 4+len(s), api.ErrRoot)
		wrong(t, "<a></a>"+s+"<a>", 7+len(s), api.ErrRoot)
		wrong(t, "<a/>"+s+"</a>", 4+len(s), api.ErrEnd)
	}
	for _, s := range []string{"x", " x ", "\u00a0", "\u2003", "\u0085", "<![CDATA[x]]>", "<![CDATA[<]]>", "&lt;", "&#160;", "\ufeff", ";", "0"} {
		wrong(t, s, 0, api.ErrRoot)
		wrong(t, s+"<a/>", 0, api.ErrRoot)
		wrong(t, "<a/>"+s, 4, api.ErrRoot)
		wrong(t, "<a></a><!---->"+s, 14, api.ErrRoot)
		wrong(t, "<!---->"+s+"</b>", 7, api.ErrRoot)
		wrong(t, "<a/>"+s+"<b/>", 4, api.ErrRoot)
	}
	wrong(t, "<?xml version='1.0'?>", 21, api.ErrRoot)
}

func TestParseMakesOneTextOfNeighbours(t *testing.T) { // P4.1
	parsed(t, "<a>x<![CDATA[<y>]]>z</a>", el("a", tx("x<y>z")))
	parsed(t, "<a>x<!-- -->y<?p?>z</a>", el("a", tx("xyz")))
	parsed(t, "<a><![CDATA[]]></a>", el("a"))
	parsed(t, "<a><![CDATA[]]><!----><![CDATA[]]></a>", el("a"))
	parsed(t, "<a>x<![CDATA[]]>y<![CDATA[]]></a>", el("a", tx("xy")))
	parsed(t, "<a><![CDATA[]]>x</a>", el("a", tx("x")))
	parsed(t, "<a>x<b/>y<![CDATA[]]><c/><![CDATA[]]><d/><!---->z</a>", el("a", tx("x"), el("b"), tx("y"), el("c"), el("d"), tx("z")))
	parsed(t, "<a>x<b>y</b><![CDATA[z]]></a>", el("a", tx("x"), el("b", tx("y")), tx("z")))
	parsed(t, "<a>"+strings.Repeat("x<!---->", 4000)+"</a>", el("a", tx(strings.Repeat("x", 4000))))
	parsed(t, "<a>"+strings.Repeat("<![CDATA[y]]>", 2500)+"</a>", el("a", tx(strings.Repeat("y", 2500))))
}

func TestParseTellsNamespaces(t *testing.T) { // P4.1
	parsed(t, "<a xmlns='u'>x<b/></a>", el("u:a", tx("x"), el("u:b")))
	parsed(t, "<a xmlns='u'><b xmlns='v'><c/></b><d/></a>", el("u:a", el("v:b", el("v:c")), el("u:d")))
	parsed(t, "<a xmlns='u'><b xmlns=''><c/></b><d/></a>", el("u:a", el("b", el("c")), el("u:d")))
	parsed(t, "<a xmlns='u'><b xmlns='v'/><c/></a>", el("u:a", el("v:b"), el("u:c")))
	parsed(t, "<p:a xmlns:p='u'><b/><p:b/></p:a>", el("u:a", el("b"), el("u:b")))
	parsed(t, "<p:a xmlns:p='u'><p:b xmlns:p='v'><p:c/></p:b><p:d/></p:a>", el("u:a", el("v:b", el("v:c")), el("u:d")))
	parsed(t, "<p:a xmlns:q='v' xmlns:p='u'><q:b/></p:a>", el("u:a", el("v:b")))
	parsed(t, "<a p:x='1' xmlns:p='u' x='2'/>", with(attrs("u:x", "1", "x", "2"), el("a")))
	parsed(t, "<a xmlns='u' x='1'><b y='2'/></a>", with(attrs("x", "1"), el("u:a", with(attrs("y", "2"), el("u:b")))))
	parsed(t, "<a xmlns:p='u'><b p:x='1'/><c xmlns:p='v' p:x='2'/></a>", el("a", with(attrs("u:x", "1"), el("b")), with(attrs("v:x", "2"), el("c"))))
	parsed(t, "<a xmlns='u' xmlns:p='u'><p:b/><b/></a>", el("u:a", el("u:b"), el("u:b")))
	parsed(t, "<a xml:lang='e' xmlns:xml='"+qname.XML+"'><xml:b/></a>", with(attrs(qname.XML+":lang", "e"), el("a", el(qname.XML+":b"))))
	parsed(t, "<a xmlns:p='u' p:xmlns='1' xmlnsx='2'/>", with(attrs("u:xmlns", "1", "xmlnsx", "2"), el("a")))
	parsed(t, "<a xmlns=' u &lt; '/>", api.Node{Kind: api.Element, Name: api.Name{Space: " u < ", Local: "a"}})
	parsed(t, "<XML/>", el("XML"))
}

func TestParseTellsTagsThatDoNotFit(t *testing.T) { // P4.1
	wrong(t, "</a>", 0, api.ErrEnd)
	wrong(t, "<a></b>", 3, api.ErrEnd)
	wrong(t, "<a></A>", 3, api.ErrEnd)
	wrong(t, "<a></aa>", 3, api.ErrEnd)
	wrong(t, "<aa></a>", 4, api.ErrEnd)
	wrong(t, "<a><b></a></b>", 6, api.ErrEnd)
	wrong(t, "<a><b/></b></a>", 7, api.ErrEnd)
	wrong(t, "<a><b></b></b></a>", 10, api.ErrEnd)
	wrong(t, "<a></a></a>", 7, api.ErrEnd)
	wrong(t, "<a></a:b:c>", 3, api.ErrEnd)
	wrong(t, "<a></1>", 3, api.ErrEnd)
	// The name as it stands counts, not what it comes to.
	wrong(t, "<p:a xmlns:p='u' xmlns:q='u'></q:a>", 29, api.ErrEnd)
	wrong(t, "<p:a xmlns:p='u'></a>", 17, api.ErrEnd)
	wrong(t, "<p:a xmlns:p='u' xmlns='u'></a>", 27, api.ErrEnd)
	wrong(t, "<a xmlns:p='u' xmlns='u'></p:a>", 25, api.ErrEnd)
	// At the end.
	for _, s := range []string{"<a>", "<a>x", "<a> ", "<a><b>", "<a><b/>", "<a><b></b>", "<a><!---->", "<a><b/><![CDATA[]]>"} {
		wrong(t, s, len(s), api.ErrShort)
	}
}

func TestParseTellsNamesAndPrefixes(t *testing.T) { // P4.1
	for s, e := range map[string]api.Errno{
		"<1": api.ErrName, "<-a": api.ErrName, "<a:b:c": api.ErrName, "<:a": api.ErrName, "<a:": api.ErrName, "<a:1": api.ErrName, "<a;": api.ErrName, "<\u00b7": api.ErrName, "<" + strings.Repeat("a", 65): api.ErrName,
		"<p:a": api.ErrPrefix, "<xmlns:a": api.ErrPrefix, "<xmlns:p xmlns:p='u'": api.ErrPrefix, "<q:a xmlns:p='u'": api.ErrPrefix, "<P:a xmlns:p='u'": api.ErrPrefix,
		"<a 1=''": api.ErrName, "<a b:c:d=''": api.ErrName, "<a :b=''": api.ErrName, "<a b:=''": api.ErrName, "<a b='' p:x=''": api.ErrPrefix, "<a xmlns='u' p:x=''": api.ErrPrefix,
		"<a x='' x=''": api.ErrTwice, "<a x='1' y='' x='2'": api.ErrTwice, "<a xmlns:p='u' xmlns:q='u' p:x='' q:x=''": api.ErrTwice, "<a xmlns='' xmlns=''": api.ErrTwice, "<a xmlns:p='u' xmlns:p='v'": api.ErrTwice, "<a xml:x='' xml:x=''": api.ErrTwice,
		"<a xmlns:=''": api.ErrName, "<a xmlns:1='u'": api.ErrName, "<a xmlns:p=''": api.ErrPrefix, "<a xmlns:xmlns='u'": api.ErrPrefix, "<a xmlns:xml='u'": api.ErrPrefix, "<a xmlns='" + qname.XML + "'": api.ErrPrefix, "<a xmlns='" + qname.XMLNS + "'": api.ErrPrefix, "<a xmlns:p='" + qname.XML + "'": api.ErrPrefix,
		// Declarations are told ahead of the tag's name, and that ahead of attributes.
		"<a:b:c xmlns:p=''": api.ErrPrefix, "<p:a xmlns:1='u'": api.ErrName, "<1 x='' x='' xmlns:p='' ": api.ErrPrefix, "<p:a xmlns='' xmlns=''": api.ErrTwice,
		"<1 p:x=''": api.ErrName, "<1 x='' x=''": api.ErrName, "<p:a x='' x=''": api.ErrPrefix, "<p:a b:c:d=''": api.ErrPrefix,
	} {
		for _, end := range []string{">", "/>", "></a>"} {
			wrong(t, s+end, 0, e)
			wrong(t, "<!--x-->"+s+end, 8, e)
			wrong(t, "<r>"+s+end, 3, e)
			wrong(t, "<r>x<b></b>"+s+end+"</r>", 11, e)
		}
	}
	// What an element binds is bound in it alone.
	wrong(t, "<a><p:b xmlns:p='u'/><p:c/></a>", 21, api.ErrPrefix)
	wrong(t, "<a><b xmlns:p='u'></b><c p:x=''/></a>", 22, api.ErrPrefix)
	wrong(t, "<a><b xmlns:p='u'><p:c/></b><p:c/></a>", 28, api.ErrPrefix)
	wrong(t, "<p:a><b xmlns:p='u'/></p:a>", 0, api.ErrPrefix)
}

func TestParseTellsTheErrorsOfTokensFirst(t *testing.T) { // P4.1
	for s, want := range map[string]struct {
		at int
		e  api.Errno
	}{
		"<": {0, api.ErrShort}, "<>": {1, api.ErrName}, "<a b>": {4, api.ErrForm}, "&": {0, api.ErrRef}, "]]>": {0, api.ErrChar}, "<!DOCTYPE a>": {0, api.ErrDTD}, "<!E>": {0, api.ErrForm}, "<!--": {0, api.ErrShort}, "<a b='<": {0, api.ErrShort}, "<a b='<'>": {6, api.ErrChar}, "<a b='x&'>": {7, api.ErrRef}, "<?xml version='1.0'?>": {0, api.ErrName}, "</a": {0, api.ErrShort}, "\x00": {0, api.ErrChar}, "\xff": {0, api.ErrUTF},
	} {
		for _, ahead := range []string{" ", "x", "<a>", "<a/>", "</a>", "<a></b>", "<p:a/>", "<a/><a/>", strings.Repeat("<a>", 30), "<a>" + strings.Repeat("<b/>", 2000), "<1 x='' x=''/>"} {
			wrong(t, ahead+s, len(ahead)+want.at, want.e)
		}
	}
	wrong(t, "<?xml version='1.1'?><a/>", 0, api.ErrForm)
	wrong(t, "<a>"+strings.Repeat("x", 32769-7)+"</a>", 0, api.ErrLong)
	parsed(t, "<a>"+strings.Repeat("x", 32768-7)+"</a>", el("a", tx(strings.Repeat("x", 32768-7))))
	wrong(t, "<a"+some(66, " x", "=''")+"/>", 2+65*8+1, api.ErrLong)
}

func TestParseTellsWhatIsTooDeep(t *testing.T) { // P4.1
	open, closed := strings.Repeat("<a>", 24), strings.Repeat("</a>", 24)
	deep := el("a")
	for range 23 {
		deep = el("a", deep)
	}
	parsed(t, open+closed, deep)
	fits(t, open+"x"+closed)
	fits(t, open[3:]+"<a/><a/>"+closed[4:])
	fits(t, open+"</a><a>"+closed)
	for _, s := range []string{"<a>", "<a/>", "<b></b>", "<1/>", "<a xmlns:p=''/>", "<a" + some(33, " x", "=''") + "/>"} {
		wrong(t, open+s, 72, api.ErrDeep)
		wrong(t, open+"x"+s, 73, api.ErrDeep)
		wrong(t, open+"</a><a>"+s, 79, api.ErrDeep)
		wrong(t, open+closed+s, 72+96, api.ErrRoot)
	}
	wrong(t, open+"</b>", 72, api.ErrEnd)
	wrong(t, open, 72, api.ErrShort)
	// That is told ahead of too many nodes.
	full := "<a>" + strings.Repeat("<b/>", 1999-23) + open[3:]
	fits(t, full+closed)
	for _, s := range []string{"<a>", "<a/>"} {
		wrong(t, full+s, len(full), api.ErrDeep)
	}
	wrong(t, full+"x", len(full), api.ErrLong)
}

func TestParseTellsTooManyNodes(t *testing.T) { // P4.1
	for _, x := range []struct {
		pair string // two nodes
		last string // perhaps one more
	}{{"<b/><b/>", "<b/>"}, {"<b></b><b/>", "<b></b>"}, {"x<b/>", "x"}, {"<b>x</b>", "<c/>"}, {"<b/><![CDATA[x]]><!---->", "<b/>"}} {
		full := "<a>" + strings.Repeat(x.pair, 999) + x.last
		fits(t, full+"</a>")
		fits(t, full+"<![CDATA[]]></a>")
		fits(t, full+"<!----><?p?></a>\n<!---->\n")
		if n, _, _ := tree.Parse(full + "</a>"); real(tree.Cost(n)) != 2000 || !tree.Right(n) {
			t.Errorf("%.99q: its cost is %v", full, tree.Cost(n))
		}
		for _, s := range []string{"<b>", "<b/>", "<1/>", "<p:a/>", "<b xmlns:p=''/>", "<b x='' x=''/>"} {
			wrong(t, full+s, len(full), api.ErrLong)
			wrong(t, full+"</a>"+s, len(full)+4, api.ErrRoot)
		}
		wrong(t, full+"</b>", len(full), api.ErrEnd)
		wrong(t, full+"</a>y", len(full)+4, api.ErrRoot)
		wrong(t, full, len(full), api.ErrShort)
	}
	elements, text := "<a>"+strings.Repeat("<b/>", 1999), "<a>"+strings.Repeat("<b/>", 1998)+"x"
	for _, s := range []string{"x", " ", "&lt;", "<![CDATA[x]]>", "<![CDATA[ ]]>"} {
		wrong(t, elements+s+"</a>", len(elements), api.ErrLong)
		wrong(t, elements+"<!---->"+s+"</a>", len(elements)+7, api.ErrLong)
		// A text that is its neighbour's is no node more.
		fits(t, text+"<!---->"+s+"<!---->"+s+"</a>")
	}
	// Nor is one outside of the root.
	fits(t, " <!----> "+elements+"</a> ")
}

func TestParseTellsTooManyAttributes(t *testing.T) { // P4.1
	many := some(32, " x", "=''")
	if n, _, e := tree.Parse("<a" + many + "/>"); len(n.Attrs) != 32 || n.Attrs[31].Name.Local != "x131" || e != api.OK {
		t.Error(shown(n), e)
	}
	if n, _, e := tree.Parse("<a" + some(33, " xmlns:p", "='u'") + many + "/>"); len(n.Attrs) != 32 || e != api.OK { // declarations don't count
		t.Error(shown(n), e)
	}
	fits(t, "<a"+some(65, " xmlns:p", "='u'")+"/>")
	fits(t, "<a"+many+"><b"+many+"/></a>")
	for _, x := range []string{" y=''", " x100=''", " p:x=''", " 1=''", " xmlnsx=''", " xml:x=''"} {
		for _, s := range []string{x + many, many + x, " xmlns:p='u'" + x + many + " xmlns='u'"} {
			wrong(t, "<a"+s+"/>", 0, api.ErrLong)
			wrong(t, "<a"+s+">", 0, api.ErrLong)
			wrong(t, "<r>x<1"+s+"/>", 4, api.ErrLong) // ahead of the tag's name, too
			wrong(t, "<r>x<p:a xmlns:q=''"+s+"/>", 4, api.ErrPrefix)
			wrong(t, "<r>x<p:a xmlns:1='u'"+s+"/>", 4, api.ErrName)
		}
	}
	for n := 33; n <= 65; n++ {
		wrong(t, "<a"+some(n, " x", "=''")+"/>", 0, api.ErrLong)
	}
}

func TestParseSharesNoMemory(t *testing.T) { // rule 3
	s := "<a b='1' c='2' xmlns='u'>x<d e='3'>y<f/><g/></d><d e='3'/><d>z</d></a>"
	one, _, _ := tree.Parse(s)
	two, _, _ := tree.Parse(s)
	apart(t, one, two)
	want := shown(one)
	spoil(two)
	if shown(one) != want {
		t.Errorf("the tree is %s, was %s", shown(one), want)
	}
}

// slots: the places in memory of all lists of nodes, spare room too.
func slots(t *testing.T, nodes ...api.Node) map[any]struct{} {
	t.Helper()
	l := map[any]struct{}{}
	add := func(p any) {
		if _, there := l[p]; there {
			t.Errorf("two lists share memory")
		}
		l[p] = struct{}{}
	}
	var walk func(n api.Node)
	walk = func(n api.Node) {
		for i := range n.Attrs[:cap(n.Attrs)] {
			add(&n.Attrs[:cap(n.Attrs)][i])
		}
		for i := range n.Kids[:cap(n.Kids)] {
			add(&n.Kids[:cap(n.Kids)][i])
		}
		for _, k := range n.Kids {
			walk(k)
		}
	}
	for _, n := range nodes {
		walk(n)
	}
	return l
}

// apart: no two lists of the nodes may share memory.
func apart(t *testing.T, nodes ...api.Node) {
	t.Helper()
	slots(t, nodes...)
}

// spoil: writes over all lists of a node, and their spare room.
func spoil(n api.Node) {
	for _, k := range n.Kids {
		spoil(k)
	}
	for i := range n.Attrs[:cap(n.Attrs)] {
		n.Attrs[:cap(n.Attrs)][i] = api.Attr{Name: in("spoilt"), Value: "spoilt"}
	}
	for i := range n.Kids[:cap(n.Kids)] {
		n.Kids[:cap(n.Kids)][i] = el("spoilt")
	}
}

// roomy: a node with spare room behind all its lists, and a check that all of it stayed as it was.
func roomy(t *testing.T, n api.Node) (api.Node, func()) {
	t.Helper()
	n = roomier(n)
	was := room(n)
	return n, func() {
		t.Helper()
		if room(n) != was {
			t.Errorf("what was handed in is %s, was %s", room(n), was)
		}
	}
}

func roomier(n api.Node) api.Node {
	attrs, kids := slices.Clone(n.Attrs), slices.Clone(n.Kids)
	for i, k := range kids {
		kids[i] = roomier(k)
	}
	for range 9 {
		attrs = append(attrs, api.Attr{Name: in("spare"), Value: "spare"})
		kids = append(kids, el("spare"))
	}
	n.Attrs, n.Kids = attrs[:len(n.Attrs)], kids[:len(n.Kids)]
	return n
}

// room: a node with all its lists' spare room, as a text.
func room(n api.Node) string { return string(written(nil, n, true)) }

func TestRightTakesWhatMayBe(t *testing.T) { // P4.2
	long := strings.Repeat("n", 64)
	for _, n := range []api.Node{
		el("a"), el("u:a"), el(long), el("\u00e9\u00b7"), el("_-.0"), el("xmlns"), el("xml"), el(qname.XML + ":a"), el(qname.XMLNS + "x:a"),
		el(" \t\n\r<&\"':a"), el("1:a"), el("\ud7ff\U0010ffff:a"),
		el("a", tx("x")), el("a", tx(" ")), el("a", tx("\t\n\r<&>\ufffd\U0010ffff]]>")), el("a", tx("x"), el("b"), tx("y"), el("c"), el("d"), tx("z")),
		el("a", el("a", el("a")), el("a")), el("a", tx(strings.Repeat("x", 100000))),
		with(attrs("x", ""), el("a")), with(attrs("x", "\t\n\r<&\"'"), el("a")), with(attrs("x", "1", "u:x", "1", "v:x", "1", "X", "1"), el("a")), with(attrs("u:xmlns", "u", "xmlnsx", "u", qname.XML+":lang", "e"), el("a")),
		with(attrs("yz:x", "1", "y:zx", "2", "yzx", "3", "y:z:x", "4"), el("a")),
		el("a", with(attrs("x", "1"), el("b")), with(attrs("x", "1"), el("b"))), with(attrs(long, strings.Repeat("x", 100000)), el("a")),
		{Kind: api.Element, Name: in("a"), Attrs: []api.Attr{}, Kids: []api.Node{{Kind: api.Text, Text: "x", Attrs: []api.Attr{}, Kids: []api.Node{}}}},
	} {
		for _, n := range []api.Node{n, el("r", n), el("r", tx("x"), el("s", n, tx("y")))} {
			n, same := roomy(t, n)
			if !tree.Right(n) {
				t.Errorf("not right: %.200s", shown(n))
			}
			same()
		}
	}
}

func TestRightTellsWhatMayNotBe(t *testing.T) { // P4.2
	faults := []api.Node{
		{}, {Kind: 3}, {Kind: -1}, {Kind: 3, Name: in("a")}, {Kind: 3, Text: "x"}, {Name: in("a")}, {Text: "x"}, {Kind: 1 << 32, Name: in("a")},
		{Kind: api.Element}, {Kind: api.Element, Name: in("a"), Text: "x"}, {Kind: api.Element, Name: in("a"), Text: " "},
		el("u:"), el("1"), el("-a"), el("a b"), el("a\xff"), el("a\x00"), el(strings.Repeat("n", 65)),
		{Kind: api.Element, Name: api.Name{Local: "a:b"}}, {Kind: api.Element, Name: api.Name{Local: ":a"}},
		el("\x00:a"), el("u\x01:a"), el("\xff:a"), el("u\xc3:a"), el("\ufffe:a"), el(qname.XMLNS + ":a"), el(qname.XMLNS + ":xmlns"),
		tx(""), tx("\x00"), tx("x\x01"), tx("\xff"), tx("x\xc3"), tx("x\uffff"), tx("\xed\xa0\x80"), tx("x\x0b"),
		{Kind: api.Text, Text: "x", Name: api.Name{Local: "a"}}, {Kind: api.Text, Text: "x", Name: api.Name{Space: "u"}}, {Kind: api.Text, Text: "x", Attrs: attrs("x", "1")}, {Kind: api.Text, Text: "x", Kids: []api.Node{el("b")}}, {Kind: api.Text, Text: "x", Kids: []api.Node{tx("y")}}, {Kind: api.Text, Name: in("a"), Kids: []api.Node{el("b")}},
		el("b", tx("x"), tx("y")), el("b", tx("x"), tx("x")), el("b", el("c"), tx("x"), tx("y")), el("b", tx("x"), el("c"), tx("y"), tx("z"), el("d")),
	}
	for _, x := range []api.Attr{{}, {Value: "1"}} {
		faults = append(faults, with([]api.Attr{x}, el("b")))
	}
	for _, name := range []string{"1", "u:", "u:1", "xmlns", qname.XMLNS + ":x", "\x00:x", "u\xff:x", "a b", strings.Repeat("n", 65)} {
		faults = append(faults, with(attrs(name, "1"), el("b")), with(attrs("first", "1", name, "1"), el("b")), with(attrs(name, "1", "last", "1"), el("b")))
	}
	faults = append(faults, with([]api.Attr{{Name: api.Name{Local: "a:b"}, Value: "1"}}, el("b")))
	for _, value := range []string{"\x00", "x\x01", "\xff", "x\xc3", "\ufffe", "\x0c"} {
		faults = append(faults, with(attrs("x", value), el("b")), with(attrs("x", "", "y", value), el("b")))
	}
	for _, l := range [][]string{{"x", "1", "x", "1"}, {"x", "1", "x", "2"}, {"u:x", "1", "x", "1", "u:x", "2"}, {"x", "1", "y", "1", "z", "1", "y", "1"}} {
		faults = append(faults, with(attrs(l...), el("b")))
	}
	for _, n := range faults {
		l := []api.Node{n, el("r", n), el("r", el("s", n)), el("r", el("s"), n, el("t")), el("r", el("s", el("t"), n), tx("x"))}
		if n.Kind == api.Element {
			l = append(l, el("r", tx("x"), n, tx("y")))
		}
		for _, n := range l {
			n, same := roomy(t, n)
			if tree.Right(n) {
				t.Errorf("right: %.200s", shown(n))
			}
			same()
		}
	}
	for _, n := range []api.Node{tx("x"), tx(" "), tx("<a/>")} { // a tree is an element
		if tree.Right(n) || !tree.Right(el("a", n)) {
			t.Errorf("right: %s", shown(n))
		}
	}
}

// chain: elements in one another, so many deep, the innermost one with these kids.
func chain(n int, kids ...api.Node) api.Node {
	x := el("a", kids...)
	for range n - 1 {
		x = el("a", x)
	}
	return x
}

// wide: an element with so many kids, of which each second one is a text.
func wide(n int) api.Node {
	kids := make([]api.Node, n)
	for i := range kids {
		if kids[i] = tx("x"); i%2 == 1 {
			kids[i] = el("b")
		}
	}
	return el("a", kids...)
}

// numbered: so many attributes.
func numbered(n int) []api.Attr {
	var l []api.Attr
	for i := range n {
		l = append(l, api.Attr{Name: in(fmt.Sprint("x", i)), Value: "1"})
	}
	return l
}

func TestRightTellsTheLimits(t *testing.T) { // P4.2
	full := wide(1990)
	full.Kids = append(full.Kids, chain(9))
	over := wide(1990)
	over.Kids = append(over.Kids, chain(9, tx("x")))
	bush := func(k int) api.Node { // 39 elements and 1 of another count of nodes
		var kids []api.Node
		for range 39 {
			kids = append(kids, wide(50))
		}
		return el("a", append(kids, wide(k))...)
	}
	for _, x := range []struct {
		n    api.Node
		want bool
	}{
		{chain(24), true}, {chain(24, tx("x")), true}, {chain(24, tx("x"), tx("y")), false}, {chain(25), false}, {chain(26), false}, {chain(23, tx("x"), el("b"), tx("y"), el("c")), true}, {chain(24, tx("x"), el("b")), false},
		{el("a", tx("x"), chain(23), tx("x"), chain(22), chain(23)), true}, {el("a", chain(23), chain(24)), false}, {el("a", chain(24), chain(2)), false},
		{wide(1999), true}, {wide(2000), false}, {wide(2001), false}, {full, true}, {over, false}, {bush(9), true}, {bush(10), false}, {bush(11), false},
		{with(numbered(32), el("a")), true}, {with(numbered(33), el("a")), false}, {with(numbered(1000), el("a")), false},
		{el("r", with(numbered(32), el("a")), with(numbered(32), el("a"))), true}, {el("r", with(numbered(32), el("a")), with(numbered(33), el("a"))), false},
	} {
		if tree.Right(x.n) != x.want {
			t.Errorf("Right of a tree of %v nodes: %v", real(tree.Cost(x.n)), !x.want)
		}
	}
}

func TestSameTellsAnyChange(t *testing.T) { // P4.2
	n := with(attrs("x", "1", "u:x", "1", "y", "2"), el("u:a", tx("x"), el("b", tx("y"), el("c")), tx("z"), with(attrs("x", "1"), el("b"))))
	all := changes(n)
	var checks []func()
	for i, n := range all {
		n, same := roomy(t, n)
		all[i], checks = n, append(checks, same)
	}
	for i, a := range all {
		for j, b := range all {
			if got := tree.Same(a, b); got != (i == j) {
				t.Errorf("Same of %s and %s: %v", shown(a), shown(b), got)
			}
		}
	}
	for _, same := range checks {
		same()
	}
	if len(all) < 100 {
		t.Errorf("there are %d changes", len(all))
	}
}

// changes: a node, and what it may be changed to by one change at one place, no two of which are the same.
func changes(n api.Node) []api.Node {
	var l []api.Node
	came := map[string]bool{}
	keep := func(n api.Node) {
		if s := shown(sorted(n)); !came[s] {
			came[s] = true
			l = append(l, n)
		}
	}
	keep(n)
	for _, f := range []func(*api.Node){
		func(n *api.Node) { n.Kind = 0 }, func(n *api.Node) { n.Kind = 1 }, func(n *api.Node) { n.Kind = 2 }, func(n *api.Node) { n.Kind = 3 },
		func(n *api.Node) { n.Name.Space = "v" }, func(n *api.Node) { n.Name.Space = "" }, func(n *api.Node) { n.Name.Local = "d" }, func(n *api.Node) { n.Name.Local = "" },
		func(n *api.Node) { n.Name.Space, n.Name.Local = n.Name.Local, n.Name.Space }, func(n *api.Node) { n.Name.Space, n.Name.Local = "", n.Name.Space+n.Name.Local },
		func(n *api.Node) { n.Text += "t" }, func(n *api.Node) { n.Text = "" },
		func(n *api.Node) { n.Attrs = append(slices.Clone(n.Attrs), attrs("x", "1")...) }, func(n *api.Node) { n.Attrs = append(slices.Clone(n.Attrs), attrs("z", "")...) }, func(n *api.Node) { n.Attrs = nil },
		func(n *api.Node) { n.Kids = append(slices.Clone(n.Kids), el("d")) }, func(n *api.Node) { n.Kids = append(slices.Clone(n.Kids), tx("")) }, func(n *api.Node) { n.Kids = nil },
		func(n *api.Node) { n.Kids = append([]api.Node{{}}, n.Kids...) },
	} {
		x := n
		f(&x)
		keep(x)
	}
	for i := range n.Attrs {
		for _, f := range []func(*api.Attr){
			func(a *api.Attr) { a.Name.Space = "v" }, func(a *api.Attr) { a.Name.Space = "" }, func(a *api.Attr) { a.Name.Local = "v" }, func(a *api.Attr) { a.Value = "v" }, func(a *api.Attr) { a.Value = "" },
			func(a *api.Attr) { a.Name.Space, a.Name.Local = "", a.Name.Space+a.Name.Local }, func(a *api.Attr) { a.Name.Local, a.Value = a.Name.Local+a.Value, "" },
		} {
			x := n
			x.Attrs = slices.Clone(n.Attrs)
			f(&x.Attrs[i])
			keep(x)
		}
		x := n
		x.Attrs = slices.Delete(slices.Clone(n.Attrs), i, i+1)
		keep(x)
		x.Attrs = append(slices.Delete(slices.Clone(n.Attrs), i, i+1), n.Attrs[len(n.Attrs)-1-i])
		keep(x)
	}
	for i, k := range n.Kids {
		for _, y := range changes(k)[1:] {
			x := n
			x.Kids = slices.Clone(n.Kids)
			x.Kids[i] = y
			keep(x)
		}
		x := n
		x.Kids = slices.Delete(slices.Clone(n.Kids), i, i+1)
		keep(x)
		x.Kids = slices.Clone(n.Kids)
		x.Kids[0], x.Kids[i] = x.Kids[i], x.Kids[0]
		keep(x)
	}
	return l
}

// sorted: a node whose attributes are in one order, at each place.
func sorted(n api.Node) api.Node {
	n.Attrs = slices.SortedFunc(slices.Values(n.Attrs), func(a, b api.Attr) int {
		return strings.Compare(fmt.Sprintf("%q", a), fmt.Sprintf("%q", b))
	})
	n.Kids = slices.Clone(n.Kids)
	for i, k := range n.Kids {
		n.Kids[i] = sorted(k)
	}
	return n
}

// orders: all orders of attributes.
func orders(l []api.Attr) [][]api.Attr {
	if len(l) == 0 {
		return [][]api.Attr{nil}
	}
	var out [][]api.Attr
	for i := range l {
		for _, rest := range orders(slices.Delete(slices.Clone(l), i, i+1)) {
			out = append(out, append([]api.Attr{l[i]}, rest...))
		}
	}
	return out
}

func TestSameTakesAttributesInAnyOrder(t *testing.T) { // P4.2
	for _, l := range [][]api.Attr{nil, attrs("x", "1"), attrs("x", "1", "y", "1"), attrs("x", "1", "u:x", "1", "y", "2", "v:y", "2"), attrs("x", "1", "x", "2", "x", "1"), attrs("x", "1", "x", "1", "x", "2", "x", "2")} {
		for _, one := range orders(l) {
			for _, two := range orders(l) {
				for _, pair := range [][2]api.Node{{with(one, el("a")), with(two, el("a"))}, {el("r", tx("x"), with(one, el("a"))), el("r", tx("x"), with(two, el("a")))}, {with(one, api.Node{}), with(two, api.Node{})}} {
					if !tree.Same(pair[0], pair[1]) {
						t.Errorf("not the same: %s and %s", shown(pair[0]), shown(pair[1]))
					}
				}
			}
		}
	}
	// Each one counts as often as it is there.
	for _, x := range [][2][]api.Attr{
		{attrs("x", "1", "x", "1", "x", "2"), attrs("x", "1", "x", "2", "x", "2")},
		{attrs("x", "1", "y", "2"), attrs("x", "2", "y", "1")},
		{attrs("x", "1", "y", "1"), attrs("x", "1", "x", "1")},
		{attrs("x", "1"), attrs("x", "1", "x", "1")},
		{attrs("x", "1", "x", "1"), attrs("x", "1")},
		{attrs("x", ""), nil},
		{attrs("u:x", "1", "v:y", "1"), attrs("v:x", "1", "u:y", "1")},
	} {
		if a, b := with(x[0], el("a")), with(x[1], el("a")); tree.Same(a, b) || tree.Same(b, a) {
			t.Errorf("the same: %s and %s", shown(a), shown(b))
		}
	}
	if !tree.Same(api.Node{}, api.Node{Attrs: []api.Attr{}, Kids: []api.Node{}}) || !tree.Same(el("a"), el("a", []api.Node{}...)) {
		t.Error("an empty list may be nil or not")
	}
	if tree.Same(el("a", tx("x"), tx("y")), el("a", tx("xy"))) || tree.Same(el("a", el("b"), el("c")), el("a", el("c"), el("b"))) {
		t.Error("kids have an order, and texts are nodes")
	}
}

// odd: nodes of all kinds, right and not.
func odd() []api.Node {
	l := []api.Node{
		{}, el("a"), tx("x"), tx(""), el("u:a", tx("xyz"), el("b")), with(attrs("x", "1", "u:y", "22"), el("a")),
		{Kind: 3, Name: in("u:a"), Text: "xyz", Attrs: attrs("x", "1"), Kids: []api.Node{tx("y"), el("b"), {Kind: 3, Text: "z"}}},
		{Kind: api.Text, Name: in("u:a"), Text: "xyz", Attrs: attrs("x", "1"), Kids: []api.Node{tx("y"), el("b")}},
		{Kind: api.Element, Text: "xyz", Attrs: attrs("x", "1", "x", "2"), Kids: []api.Node{tx("y"), tx("z"), {Text: "u"}, el("b", tx("v"))}},
		el("a\xff", tx("\xff\x00")), chain(30, tx("x"), with(attrs("x", "1"), el("b"))), wide(2500), with(numbered(40), el("a")),
		el("a", with(attrs("x", "1"), el("b", with(attrs("y", "2"), el("c", tx("t"))))), tx("u"), el("d", tx("v"), el("e"), el("f"))),
	}
	return append(l, el("r", l...))
}

func TestCopyIsTheSameInMemoryOfItsOwn(t *testing.T) { // P4.2
	for _, n := range odd() {
		n, same := roomy(t, n)
		c := tree.Copy(n)
		if !like(c, n) || !tree.Same(c, n) {
			t.Errorf("Copy(%.300s) = %.300s", shown(n), shown(c))
		}
		apart(t, n, c)
		same()
		d := tree.Copy(n)
		spoil(c)
		same()
		if !like(d, n) {
			t.Errorf("two copies share memory: %.300s", shown(d))
		}
	}
}

// counted: a node's cost, told by its nodes one by one.
func counted(n api.Node) (nodes, bytes int) {
	for todo := []api.Node{n}; len(todo) > 0; {
		n := todo[len(todo)-1]
		todo = append(todo[:len(todo)-1], n.Kids...)
		nodes++
		s := n.Text
		if n.Kind == api.Element {
			s = n.Name.Local + n.Name.Space
			for _, a := range n.Attrs {
				s += a.Value + a.Name.Local + a.Name.Space
			}
		}
		bytes += len(s)
	}
	return nodes, bytes
}

func TestCostTellsNodesAndBytes(t *testing.T) { // P4.2
	for _, x := range []struct {
		n    api.Node
		want complex128
	}{
		{el("a"), 1 + 1i}, {el("urn:x:a"), 1 + 6i}, {el("\u00e9"), 1 + 2i}, {el(""), 1}, {tx("xyz"), 1 + 3i}, {tx(""), 1}, {tx("\u4e2d"), 1 + 3i}, {api.Node{}, 1},
		{with(attrs("u:x", "123"), el("a")), 1 + 6i}, {with(attrs("x", "", "y", "1"), el("bc")), 1 + 5i},
		{el("u:a", tx("x"), el("u:b")), 3 + 5i}, {el("a", el("b", el("c", tx("d")))), 4 + 4i}, {wide(1999), complex(2000, 2000)}, {chain(24), 24 + 24i},
		// Of an element its Text is not counted, of any other node nothing else is; but all that is in it.
		{api.Node{Kind: api.Element, Name: in("a"), Text: "xyz"}, 1 + 1i}, {api.Node{Kind: api.Text, Name: in("u:a"), Text: "xyz", Attrs: attrs("x", "1")}, 1 + 3i}, {api.Node{Kind: 3, Name: in("u:a"), Text: "xyz", Attrs: attrs("x", "1")}, 1 + 3i}, {api.Node{Text: "xyz", Kids: []api.Node{el("b"), tx("xy")}}, 3 + 6i}, {api.Node{Kind: api.Text, Text: "xyz", Kids: []api.Node{el("b")}}, 2 + 4i},
		{el("a", tx(strings.Repeat("x", 1<<24)), tx(strings.Repeat("x", 1<<24+1))), complex(3, 1<<25+2)},
	} {
		if got := tree.Cost(x.n); got != x.want {
			t.Errorf("Cost(%.200s) = %v, not %v", shown(x.n), got, x.want)
		}
	}
	for _, n := range odd() {
		n, same := roomy(t, n)
		nodes, bytes := counted(n)
		if got := tree.Cost(n); got != complex(float64(nodes), float64(bytes)) {
			t.Errorf("Cost(%.200s) = %v, not %d and %d", shown(n), got, nodes, bytes)
		}
		same()
	}
}

func TestCostIsThatOfTheParts(t *testing.T) { // P4.2
	for _, n := range odd() {
		alone := n
		alone.Kids = nil
		sum := tree.Cost(alone)
		for _, k := range n.Kids {
			sum += tree.Cost(k)
		}
		if tree.Cost(n) != sum {
			t.Errorf("Cost(%.200s) = %v, not %v", shown(n), tree.Cost(n), sum)
		}
	}
}

func TestGetTellsAnAttribute(t *testing.T) { // P4.3
	n := with(attrs("x", "1", "u:x", "2", "v:x", "3", "y", "", "z", "5"), el("u:a", with(attrs("w", "6"), el("b"))))
	twice := with(attrs("y", "0", "x", "1", "x", "2"), el("a"))
	for _, x := range []struct {
		n           api.Node
		name, value string
		ok          bool
	}{
		{n, "x", "1", true}, {n, "u:x", "2", true}, {n, "v:x", "3", true}, {n, "y", "", true}, {n, "z", "5", true},
		{n, "w", "", false}, {n, "w:x", "", false}, {n, "u:y", "", false}, {n, "X", "", false}, {n, "", "", false}, {n, "u:", "", false}, {n, "a", "", false}, {n, "ux", "", false}, {n, "xx", "", false},
		{el("a"), "x", "", false}, {el("a"), "", "", false}, {tx("x"), "x", "", false}, {api.Node{}, "", "", false}, {twice, "x", "1", true}, {with([]api.Attr{{Value: "1"}}, el("a")), "", "1", true},
	} {
		n, same := roomy(t, x.n)
		if value, ok := tree.Get(n, in(x.name)); value != x.value || ok != x.ok {
			t.Errorf("Get(%s, %q) = %q, %v", shown(n), x.name, value, ok)
		}
		same()
	}
	for _, n := range odd() {
		for i, a := range n.Attrs {
			value, ok := tree.Get(n, a.Name)
			first := slices.IndexFunc(n.Attrs, func(x api.Attr) bool { return x.Name == a.Name })
			if value != n.Attrs[first].Value || !ok {
				t.Errorf("Get(%.200s, %q): %q, %v at %d", shown(n), a.Name, value, ok, i)
			}
		}
	}
}

func TestElementsTellsTheKidsThatAre(t *testing.T) { // P4.3
	for _, n := range odd() {
		n, same := roomy(t, n)
		var want []api.Node
		for _, k := range n.Kids {
			if k.Kind == api.Element {
				want = append(want, k)
			}
		}
		l := tree.Elements(n)
		if !slices.EqualFunc(l, want, like) {
			t.Errorf("Elements(%.300s) = %.300s", shown(n), shown(el("", l...)))
		}
		apart(t, append([]api.Node{n}, el("", l...))...)
		same()
		spoil(el("", l...))
		same()
	}
	if l := tree.Elements(el("a", tx("x"), el("b", el("c")), tx("y"), el("d"))); len(l) != 2 || !like(l[0], el("b", el("c"))) || !like(l[1], el("d")) {
		t.Error(l)
	}
}

func TestValueTellsTheTexts(t *testing.T) { // P4.3
	for _, x := range []struct {
		n    api.Node
		want string
	}{
		{el("a"), ""}, {tx("x"), "x"}, {tx(""), ""}, {api.Node{}, ""}, {el("a", tx("x")), "x"}, {el("a", tx(" x\n")), " x\n"},
		{el("a", tx("x"), el("b", tx("y")), tx("z")), "xz"}, {el("a", el("b", tx("y"))), ""}, {el("a", tx("x"), tx(""), tx("y"), tx("\xff")), "xy\xff"}, {wide(1999), strings.Repeat("x", 1000)},
		{api.Node{Kind: api.Element, Text: "t", Kids: []api.Node{tx("x"), {Text: "y"}, {Kind: 3, Text: "z"}}}, "x"},
		{api.Node{Kind: api.Text, Text: "t", Kids: []api.Node{tx("x")}}, "t"}, {api.Node{Kind: 3, Text: "t", Kids: []api.Node{tx("x"), tx("y")}}, "xy"}, {api.Node{Text: "t", Kids: []api.Node{tx("x")}}, "x"},
	} {
		n, same := roomy(t, x.n)
		if got := tree.Value(n); got != x.want {
			t.Errorf("Value(%.200s) = %.200q, not %.200q", shown(n), got, x.want)
		}
		same()
	}
}

func TestEveryCallEnds(t *testing.T) { // rule 5
	deep := chain(1<<16, tx("x"))
	if tree.Right(deep) || !tree.Same(deep, deep) || tree.Same(deep, chain(1<<16, tx("y"))) || tree.Cost(deep) != complex(1<<16+1, 1<<16+1) || tree.Value(deep) != "" {
		t.Error("a deep tree")
	}
	if l := tree.Elements(deep); len(l) != 1 || tree.Cost(l[0]) != complex(1<<16, 1<<16) || !tree.Same(tree.Copy(deep), deep) {
		t.Error("a deep tree")
	}
	broad := with(numbered(1<<16), wide(1<<18))
	if tree.Right(broad) || !tree.Same(broad, tree.Copy(broad)) || real(tree.Cost(broad)) != 1<<18+1 || len(tree.Elements(broad)) != 1<<17 || len(tree.Value(broad)) != 1<<17 {
		t.Error("a broad tree")
	}
	if v, ok := tree.Get(broad, in("x65535")); v != "1" || !ok {
		t.Error(v, ok)
	}
	round := el("a", el("b"), el("c")) // leads to itself
	round.Kids[0].Kids, round.Kids[1].Kids = round.Kids, round.Kids
	if tree.Right(round) {
		t.Error("a tree without an end")
	}
	bush := el("a") // one list of kids stands at all places of its depth
	for range 22 {
		bush = el("a", bush, bush, bush, bush, bush, bush)
	}
	if tree.Right(bush) {
		t.Error("a tree of many nodes")
	}
	for _, s := range []string{strings.Repeat("<a>", 10922), strings.Repeat("</a>", 8192), strings.Repeat("<a/>", 8192), strings.Repeat("<", 32768), "<a>" + strings.Repeat("&#0;", 8000), "<a>" + strings.Repeat("<![CDATA[", 3000)} {
		if n, at, e := tree.Parse(s); !like(n, api.Node{}) || e == api.OK || at > len(s) {
			t.Errorf("Parse(%.99q): %d, %v", s, at, e)
		}
	}
}

func FuzzParse(f *testing.F) { // P4.1, P4.4: any bytes are answered, and what is parsed is right
	for _, s := range []string{"<?xml version='1.0'?><a b='1'>x&lt;<b/><![CDATA[y]]></a>", "<a xmlns:p='u'><p:b p:x='1' x='2'/> </a>", "<a><b></a></b>", "x", "<p:a/>", "<a x='' x=''/>", strings.Repeat("<a>", 25)} {
		f.Add(s)
	}
	f.Fuzz(func(t *testing.T, s string) {
		n, at, e := tree.Parse(s)
		if e == api.OK && (at != 0 || !tree.Right(n)) || e != api.OK && !like(n, api.Node{}) || at < 0 || at > len(s) {
			t.Errorf("Parse(%q) = %s, %d, %v", s, shown(n), at, e)
		}
		if _, bad, fault := lex.Tokens(s); fault != api.OK && (bad != at || fault != e) {
			t.Errorf("Parse(%q): %d, %v", s, at, e)
		}
	})
}
