package print_test

import (
	"fmt"
	"runtime"
	"slices"
	"strings"
	"testing"

	"watchbill/api"
	"watchbill/lex"
	"watchbill/print"
	"watchbill/qname"
	"watchbill/tree"
)

// in: a name in a namespace; a name without a colon is in none, else the part behind the last one is the local one.
func in(name string) api.Name {
	i := strings.LastIndexByte(name, ':')
	return api.Name{Space: name[:max(i, 0)], Local: name[i+1:]}
}

// attrs: attributes, of names and values in turn.
func attrs(l ...string) []api.Attr {
	var out []api.Attr
	for i := 0; i < len(l); i += 2 {
		out = append(out, api.Attr{Name: in(l[i]), Value: l[i+1]})
	}
	return out
}

// el, with, tx: nodes.
func el(name string, kids ...api.Node) api.Node {
	return api.Node{Kind: api.Element, Name: in(name), Kids: kids}
}

func with(l []api.Attr, n api.Node) api.Node {
	n.Attrs = l
	return n
}

func tx(s string) api.Node { return api.Node{Kind: api.Text, Text: s} }

// xml: XML's namespace, ahead of a colon and a local part.
const xml = qname.XML + ":"

// prints: a tree must be printed as that, and that parsed as the tree.
func prints(t *testing.T, want string, n api.Node) {
	t.Helper()
	s, e := print.Print(n)
	if s != want || e != api.OK {
		t.Errorf("Print = %.500q, %v, not %.500q", s, e, want)
	}
	back, at, e := tree.Parse(s)
	if !tree.Same(back, n) || e != api.OK {
		t.Errorf("Parse(%.500q): another tree, %d, %v", s, at, e)
	}
}

// refuses: a tree must be answered with that error, and nothing beside.
func refuses(t *testing.T, what string, want api.Errno, n api.Node) {
	t.Helper()
	if s, e := print.Print(n); s != "" || e != want {
		t.Errorf("%s: %.100q, %v, not %v", what, s, e, want)
	}
}

// escapes: what bytes are escaped as in a text, and in a value; any other one stands as it is.
func escapes(attr bool) map[byte]string {
	if attr {
		return map[byte]string{'&': "&amp;", '<': "&lt;", '"': "&quot;", 9: "&#9;", 10: "&#10;", 13: "&#13;"}
	}
	return map[byte]string{'&': "&amp;", '<': "&lt;", '>': "&gt;", 13: "&#13;"}
}

// escaped: a text, byte by byte.
func escaped(s string, attr bool) string {
	var b []byte
	to := escapes(attr)
	for _, c := range []byte(s) {
		if r, is := to[c]; is {
			b = append(b, r...)
		} else {
			b = append(b, c)
		}
	}
	return string(b)
}

func TestEscapeTellsEachByte(t *testing.T) { // P5.1
	for _, attr := range []bool{false, true} {
		to := escapes(attr)
		one := func(c int) string {
			if r, is := to[byte(c)]; is {
				return r
			}
			return string([]byte{byte(c)})
		}
		for c := range 256 {
			for d := range 256 {
				s, want := string([]byte{byte(c), byte(d)}), one(c)+one(d)
				if got := print.Escape(s, attr); got != want {
					t.Errorf("Escape(%q, %v) = %q, not %q", s, attr, got, want)
				}
			}
			s, want := string([]byte{byte(c)}), one(c)
			if got := print.Escape(s, attr); got != want {
				t.Errorf("Escape(%q, %v) = %q, not %q", s, attr, got, want)
			}
			if got := print.Escape("xy"+s+"z", attr); got != "xy"+want+"z" {
				t.Errorf("Escape(xy%qz, %v) = %q", s, attr, got)
			}
		}
	}
}

func TestEscapeTellsTexts(t *testing.T) { // P5.1
	for _, x := range []struct{ s, text, value string }{
		{"", "", ""},
		{"x", "x", "x"},
		{"a<b", "a&lt;b", "a&lt;b"},
		{"a>b", "a&gt;b", "a>b"},
		{`"'"`, `"'"`, `&quot;'&quot;`},
		{"\r\n\t ", "&#13;\n\t ", "&#13;&#10;&#9; "},
		{"\n\r\r", "\n&#13;&#13;", "&#10;&#13;&#13;"},
		{"&&amp;&#13;", "&amp;&amp;amp;&amp;#13;", "&amp;&amp;amp;&amp;#13;"},
		{"]]>", "]]&gt;", "]]>"},
		{"<![CDATA[x]]>", "&lt;![CDATA[x]]&gt;", "&lt;![CDATA[x]]>"},
		{"\u00e9\u4e2d\U0001f600\u0085\u00a0\u2028", "\u00e9\u4e2d\U0001f600\u0085\u00a0\u2028", "\u00e9\u4e2d\U0001f600\u0085\u00a0\u2028"},
		// What no document takes is escaped all the same.
		{"\x00\x0b\x7f\xff\xc3<\ufffe", "\x00\x0b\x7f\xff\xc3&lt;\ufffe", "\x00\x0b\x7f\xff\xc3&lt;\ufffe"},
	} {
		if got := print.Escape(x.s, false); got != x.text {
			t.Errorf("Escape(%q, false) = %q, not %q", x.s, got, x.text)
		}
		if got := print.Escape(x.s, true); got != x.value {
			t.Errorf("Escape(%q, true) = %q, not %q", x.s, got, x.value)
		}
	}
}

func TestEscapeHasNoLimit(t *testing.T) { // P5.1
	for _, attr := range []bool{false, true} {
		for _, n := range []int{api.MaxBytes, api.MaxBytes + 1, 100000} {
			if s := strings.Repeat("x", n); print.Escape(s, attr) != s {
				t.Errorf("Escape of %d bytes, %v: not these", n, attr)
			}
			if print.Escape(strings.Repeat("&", n), attr) != strings.Repeat("&amp;", n) {
				t.Errorf("Escape of %d &, %v: not these", n, attr)
			}
		}
	}
}

func TestEscapedIsUnescapedAgain(t *testing.T) { // P5.2
	for _, s := range []string{"", "x", "&<>\"'\t\n\r ", "&amp;", "&#13;", "\r\n", "\n\r", "]]>", "\u00e9\U0001f600", strings.Repeat("<&\r\n", 9000)} {
		for _, attr := range []bool{false, true} {
			if back, at, e := lex.Unescape(print.Escape(s, attr), attr); back != s || e != api.OK {
				t.Errorf("Unescape of Escape(%.100q, %v) = %.100q, %d, %v", s, attr, back, at, e)
			}
		}
	}
}

func TestPrintTellsNamespaces(t *testing.T) { // P5.1
	prints(t, `<a/>`, el("a"))
	prints(t, `<a xmlns="urn:x"/>`, el("urn:x:a"))
	prints(t, `<a xmlns="urn:x"><b/></a>`, el("urn:x:a", el("urn:x:b")))
	prints(t, `<a xmlns="urn:x"><b><c/></b></a>`, el("urn:x:a", el("urn:x:b", el("urn:x:c"))))
	prints(t, `<a><b xmlns="u"/></a>`, el("a", el("u:b")))
	// What a kid declares is over behind it.
	prints(t, `<a><b xmlns="u"/><c/><d xmlns="u"/></a>`, el("a", el("u:b"), el("c"), el("u:d")))
	prints(t, `<a xmlns="u"><b xmlns="v"><c/></b><d/></a>`, el("u:a", el("v:b", el("v:c")), el("u:d")))
	prints(t, `<a xmlns="u"><b xmlns="v"><c xmlns="u"><d xmlns="v"/></c></b></a>`, el("u:a", el("v:b", el("u:c", el("v:d")))))
	// Taken back to none.
	prints(t, `<a xmlns="u"><b xmlns=""/></a>`, el("u:a", el("b")))
	prints(t, `<a xmlns="u"><b xmlns=""><c/></b><d/></a>`, el("u:a", el("b", el("c")), el("u:d")))
	prints(t, `<a xmlns="u"><b xmlns=""><c xmlns="u"><d xmlns=""/></c></b></a>`, el("u:a", el("b", el("u:c", el("d")))))
	// XML's namespace: neither declared nor a default.
	prints(t, `<xml:a/>`, el(xml+"a"))
	prints(t, `<xml:a><b/></xml:a>`, el(xml+"a", el("b")))
	prints(t, `<xml:a><xml:b/></xml:a>`, el(xml+"a", el(xml+"b")))
	prints(t, `<xml:a><b xmlns="u"/></xml:a>`, el(xml+"a", el("u:b")))
	prints(t, `<a xmlns="u"><xml:b><c/><d xmlns=""/></xml:b><e/></a>`, el("u:a", el(xml+"b", el("u:c"), el("d")), el("u:e")))
	prints(t, `<a xmlns="u"><xml:b><xml:c>x</xml:c></xml:b></a>`, el("u:a", el(xml+"b", el(xml+"c", tx("x")))))
	// Names that look like others.
	prints(t, `<xml xmlns="xml"/>`, el("xml:xml"))
	prints(t, `<xmlns xmlns="xmlns"><n1/></xmlns>`, el("xmlns:xmlns", el("xmlns:n1")))
	prints(t, `<a xmlns="`+qname.XML+`x"><b xmlns="HTTP://www.w3.org/XML/1998/namespace"/></a>`, el(qname.XML+"x:a", el("HTTP://www.w3.org/XML/1998/namespace:b")))
	prints(t, `<a xmlns="u"><b xmlns="u "/><c xmlns="U"/></a>`, el("u:a", el("u :b"), el("U:c")))
	// A Space is escaped as a value.
	prints(t, `<a xmlns="&amp;&lt;>&quot;'&#9;&#10;&#13; é"><b/></a>`, el("&<>\"'\t\n\r é:a", el("&<>\"'\t\n\r é:b")))
	long := strings.Repeat("a", api.MaxName)
	prints(t, "<xml:"+long+"><"+long+` xmlns="u"/></xml:`+long+">", el(xml+long, el("u:"+long)))
	prints(t, "<é·/>", el("é·"))
}

func TestPrintTellsAttributes(t *testing.T) { // P5.1
	prints(t, `<a b="1"/>`, with(attrs("b", "1"), el("a")))
	prints(t, `<a b="">x</a>`, with(attrs("b", ""), el("a", tx("x"))))
	prints(t, `<a xmlns="urn:x" xmlns:n1="urn:y" n1:b="1"/>`, with(attrs("urn:y:b", "1"), el("urn:x:a")))
	// None is in the default namespace, unless it has a prefix.
	prints(t, `<a xmlns="u" b="1"/>`, with(attrs("b", "1"), el("u:a")))
	prints(t, `<a xmlns="u" xmlns:n1="u" n1:b="1"/>`, with(attrs("u:b", "1"), el("u:a")))
	prints(t, `<a xmlns="u" xmlns:n1="u" b="1" n1:b="2"/>`, with(attrs("u:b", "2", "b", "1"), el("u:a")))
	// XML's Space isn't declared, nor has it a number.
	prints(t, `<a xml:lang="en"/>`, with(attrs(xml+"lang", "en"), el("a")))
	prints(t, `<xml:a xml:a="1"/>`, with(attrs(xml+"a", "1"), el(xml+"a")))
	prints(t, `<a xmlns:n1="a" xmlns:n2="z" n1:b="1" xml:b="2" n2:b="3"/>`, with(attrs("z:b", "3", xml+"b", "2", "a:b", "1"), el("a")))
	prints(t, `<a xmlns:n1="`+qname.XML[:35]+`" xmlns:n2="`+qname.XML+`x" n1:b="1" xml:b="2" n2:b="3"/>`, with(attrs(qname.XML+"x:b", "3", xml+"b", "2", qname.XML[:35]+":b", "1"), el("a")))
	// Each Space once; by Space, then by Local.
	prints(t, `<a xmlns:n1="u" xmlns:n2="v" n1:c="2" n1:d="1" n2:a="4" n2:b="3"/>`, with(attrs("u:d", "1", "u:c", "2", "v:b", "3", "v:a", "4"), el("a")))
	prints(t, `<a xmlns:n1="u" xmlns:n2="v" z="5" n1:c="2" n1:d="1" n2:a="4" n2:b="3"/>`, with(attrs("v:b", "3", "u:d", "1", "z", "5", "v:a", "4", "u:c", "2"), el("a")))
	// By bytes: capitals ahead, then longer ones, é behind z, and what is above 65535 behind all.
	prints(t, `<a A="" B="" _="" a="" a-="" a.="" a0="" aa="" b="" z="" é="" `+"\u4e2d=\"\" \ufa10=\"\" \U00010000=\"\"/>",
		with(attrs("\U00010000", "", "\ufa10", "", "\u4e2d", "", "é", "", "z", "", "b", "", "aa", "", "a0", "", "a.", "", "a-", "", "a", "", "_", "", "B", "", "A", ""), el("a")))
	prints(t, `<a xmlns:n1="&#9;" xmlns:n2=" " xmlns:n3="&quot;" xmlns:n4="&amp;" xmlns:n5="&lt;" xmlns:n6="U" xmlns:n7="u" xmlns:n8="u " xmlns:n9="ua" xmlns:n10="é" xmlns:n11="`+"\ufa10\" xmlns:n12=\"\U00010000"+`" n1:x="" n2:x="" n3:x="" n4:x="" n5:x="" n6:x="" n7:x="" n8:x="" n9:x="" n10:x="" n11:x="" n12:x=""/>`,
		with(attrs("\U00010000:x", "", "\ufa10:x", "", "é:x", "", "ua:x", "", "u :x", "", "u:x", "", "U:x", "", "<:x", "", "&:x", "", "\":x", "", " :x", "", "\t:x", ""), el("a")))
	// The order is that of what they are, not of what they are escaped as, nor of their values.
	prints(t, `<a xmlns:n1="&quot;" xmlns:n2="#" n1:b="9" n2:b="1"/>`, with(attrs("#:b", "1", "\":b", "9"), el("a")))
	prints(t, `<a b="2" c="1"/>`, with(attrs("c", "1", "b", "2"), el("a")))
	// Numbers begin anew in each element.
	prints(t, `<a xmlns:n1="u" xmlns:n2="v" n1:x="1" n2:x="2"><b xmlns:n1="v" n1:x="3"><c xmlns:n1="u" n1:x="4"/></b><d xmlns:n1="w" n1:x="5"/><e x="6"/></a>`,
		with(attrs("u:x", "1", "v:x", "2"), el("a", with(attrs("v:x", "3"), el("b", with(attrs("u:x", "4"), el("c")))), with(attrs("w:x", "5"), el("d")), with(attrs("x", "6"), el("e")))))
	// Names that look like others.
	prints(t, `<n1 xmlns="n1" xmlns:n1="n1" xmlns:n2="xmlns" n1="1" xml="2" n1:n1="3" n1:xmlns="4" n2:xmlns="5"/>`,
		with(attrs("n1", "1", "xml", "2", "n1:n1", "3", "n1:xmlns", "4", "xmlns:xmlns", "5"), el("n1:n1")))
	prints(t, `<a xml:xmlns="1"/>`, with(attrs(xml+"xmlns", "1"), el("a")))
	// A value, and a Space, are escaped.
	prints(t, `<a xmlns:n1="&amp;&lt;>&quot;'&#9;&#10;&#13; é" b="&amp;&lt;>&quot;'&#9;&#10;&#13; é" n1:b="]]>"/>`,
		with(attrs("&<>\"'\t\n\r é:b", "]]>", "b", "&<>\"'\t\n\r é"), el("a")))
}

func TestPrintTellsAsManyAttributesAsMayBe(t *testing.T) { // P5.1, P5.2
	for _, own := range []string{"", "own:"} {
		var l []api.Attr
		spaces, values := "", ""
		for i := range api.MaxAttrs {
			l = append(l, attrs(fmt.Sprintf("urn:%d:b", 100+i), fmt.Sprint(i))...)
			spaces += fmt.Sprintf(` xmlns:n%d="urn:%d"`, i+1, 100+i)
			values += fmt.Sprintf(` n%d:b="%d"`, i+1, i)
		}
		slices.Reverse(l)
		begin := "<a"
		if own != "" {
			begin = `<a xmlns="own"`
		}
		prints(t, begin+spaces+values+"/>", with(l, el(own+"a")))
		prints(t, begin+spaces+values+"><a"+spaces+values+">x</a></a>", with(l, el(own+"a", with(l, el(own+"a", tx("x"))))))
	}
	var l []api.Attr
	want := ""
	for i := range api.MaxAttrs {
		l = append(l, attrs(fmt.Sprintf("b%d", 199-i), "")...)
		want = fmt.Sprintf(` b%d=""`, 199-i) + want
	}
	prints(t, "<a"+want+"/>", with(l, el("a")))
}

func TestPrintTellsKids(t *testing.T) { // P5.1
	prints(t, `<a/>`, el("a"))
	prints(t, `<a/>`, with([]api.Attr{}, el("a", []api.Node{}...)))
	prints(t, `<a>x</a>`, el("a", tx("x")))
	prints(t, `<a> </a>`, el("a", tx(" ")))
	prints(t, `<a><b/></a>`, el("a", el("b")))
	prints(t, `<a><b/><b/><c/></a>`, el("a", el("b"), el("b"), el("c")))
	prints(t, `<a>x<b/>y</a>`, el("a", tx("x"), el("b"), tx("y")))
	prints(t, `<a><b/>x<c>y</c>z<d/></a>`, el("a", el("b"), tx("x"), el("c", tx("y")), tx("z"), el("d")))
	prints(t, `<a><b><c>x<d/></c>y</b><b/></a>`, el("a", el("b", el("c", tx("x"), el("d")), tx("y")), el("b")))
	prints(t, "<a>\n\t<b/>\n</a>", el("a", tx("\n\t"), el("b"), tx("\n")))
	prints(t, "<a>&amp;&lt;&gt;\"'\t\n&#13; é]]&gt;&amp;lt;</a>", el("a", tx("&<>\"'\t\n\r é]]>&lt;")))
	prints(t, `<a>&lt;b/&gt;<b/>&lt;!-- --&gt;</a>`, el("a", tx("<b/>"), el("b"), tx("<!-- -->")))
	prints(t, "<a>\ud7ff\ue000\ufffd\U00010000\U0010ffff\u007f\u0085</a>", el("a", tx("\ud7ff\ue000\ufffd\U00010000\U0010ffff\u007f\u0085")))
}

// nest: so many elements in one another, with kids in the innermost.
func nest(n int, kids ...api.Node) api.Node {
	in := el("a", kids...)
	for range n - 1 {
		in = el("a", in)
	}
	return in
}

// wide: a tree of so many nodes.
func wide(n int) api.Node {
	root := el("a")
	for range n - 1 {
		root.Kids = append(root.Kids, el("b"))
	}
	return root
}

func TestPrintTellsTreesAsGreatAsMayBe(t *testing.T) { // P5.1
	prints(t, strings.Repeat("<a>", 23)+"<a/>"+strings.Repeat("</a>", 23), nest(24))
	prints(t, strings.Repeat("<a>", 24)+"x"+strings.Repeat("</a>", 24), nest(24, tx("x")))
	prints(t, "<a>"+strings.Repeat("<b/>", 1999)+"</a>", wide(2000))
}

// tails: trees with a text that comes first; behind it all kinds of pieces stand, so that the limit may fall into any.
func tails(s string) []api.Node {
	return []api.Node{
		el("a", tx(s)),
		el("u:a", tx(s), el("b"), tx("&<>\r\n"), el("u:c", el("v:c")), el(xml+"d", tx("\ré"))),
		el("a", tx(s), with(attrs("b", "&\"<\n", "u:b", "1", xml+"b", "2", "v\":b", "", "v\":c", ""), el("w&:b", el("w&:c")))),
		el(xml+"a", tx(s), el(xml+"b")),
		with(attrs("a", s, "b", "x", "c", "&"), el("a", el("b", el("c")))),
		with(attrs("b", "", "u:b", "\""), el("a", tx(s))),
	}
}

func TestPrintTellsWhatIsTooLong(t *testing.T) { // P5.1
	for i, n := range tails("x") {
		short := len(wanted(n)) - 1
		for more := -130; more <= 3; more++ {
			n := tails(strings.Repeat("x", api.MaxBytes-short+more))[i]
			s, e := print.Print(n)
			if want := wanted(n); len(want) > api.MaxBytes {
				want = ""
				if s != "" || e != api.ErrLong {
					t.Errorf("%d, %d: %d bytes, %v, not ErrLong", i, more, len(s), e)
				}
			} else if s != want || e != api.OK {
				t.Errorf("%d, %d: %d bytes, %v, not %d", i, more, len(s), e, len(want))
			}
		}
		// The limit may fall into any piece behind the text.
		for more := 1; more < short; more++ {
			refuses(t, fmt.Sprint(i, more), api.ErrLong, tails(strings.Repeat("x", api.MaxBytes-short+more))[i])
		}
	}
}

func TestPrintCountsTheBytesThatArePrinted(t *testing.T) { // P5.1
	fits := func(what string, n api.Node) {
		t.Helper()
		if s, e := print.Print(n); s != wanted(n) || len(s) != api.MaxBytes || e != api.OK {
			t.Errorf("%s: %d bytes, %v", what, len(s), e)
		}
	}
	run := strings.Repeat
	fits("a text", el("a", tx(run("x", 32761))))
	refuses(t, "a text", api.ErrLong, el("a", tx(run("x", 32762))))
	fits("references", el("a", tx(run("&", 6552)+"x")))
	refuses(t, "references", api.ErrLong, el("a", tx(run("&", 6552)+"xy")))
	refuses(t, "references", api.ErrLong, el("a", tx(run("&", 6553))))
	fits("signs", el("a", tx(run("\u4e2d", 10920)+"x")))
	refuses(t, "signs", api.ErrLong, el("a", tx(run("\u4e2d", 10920)+"xx")))
	fits("a value", with(attrs("b", run("x", 32759)), el("a")))
	refuses(t, "a value", api.ErrLong, with(attrs("b", run("x", 32760)), el("a")))
	fits("quotes", with(attrs("b", run("\"", 5459)+"xxxxx"), el("a")))
	refuses(t, "quotes", api.ErrLong, with(attrs("b", run("\"", 5459)+"xxxxx\""), el("a")))
	refuses(t, "quotes", api.ErrLong, with(attrs("b", run("\"", 5460)), el("a")))
	fits("a Space", el(run("u", 32755)+":a"))
	refuses(t, "a Space", api.ErrLong, el(run("u", 32756)+":a"))
	fits("an attribute's Space", with(attrs(run("u", 16370)+":b", "", run("v", 16354)+":b", ""), el("a")))
	refuses(t, "an attribute's Space", api.ErrLong, with(attrs(run("u", 16370)+":b", "", run("v", 16355)+":b", ""), el("a")))
	var many []api.Node
	for range 1023 {
		many = append(many, el(run("b", 29)))
	}
	fits("elements", el("a", append(many, tx(run("x", 25)))...))
	refuses(t, "elements", api.ErrLong, el("a", append(many, tx(run("x", 26)))...))
	refuses(t, "elements", api.ErrLong, el("a", append(many, el(run("b", 23)))...))
	fits("elements", el("a", append(many, el(run("b", 22)))...))
}

// full: a tree with as many nodes and attributes as may be, each attribute in a Space of its own, with that value.
func full(value string) api.Node {
	n := wide(2000)
	for i := range n.Kids {
		for k := range api.MaxAttrs {
			n.Kids[i].Attrs = append(n.Kids[i].Attrs, attrs(fmt.Sprintf("u%d:b", k), value)...)
		}
	}
	return n
}

func TestPrintGathersNoMoreThanMayBe(t *testing.T) { // P5.1, rule 5
	for what, n := range map[string]api.Node{
		"a text":     el("a", tx(strings.Repeat("&", 8<<20))),
		"plain text": el("a", tx(strings.Repeat("x", 64<<20))),
		"a value":    with(attrs("b", strings.Repeat("\r", 8<<20)), el("a")),
		"a Space":    el(strings.Repeat("\"", 8<<20) + ":a"),
		"attributes": full(strings.Repeat("<", 100)),
	} {
		var before, after runtime.MemStats
		runtime.ReadMemStats(&before)
		refuses(t, what, api.ErrLong, n)
		runtime.ReadMemStats(&after)
		if got := after.TotalAlloc - before.TotalAlloc; what != "attributes" && got > 4<<20 {
			t.Errorf("%s: gathered %d bytes", what, got)
		}
	}
}

// broken: trees that aren't right, each wrong in one thing.
func broken() map[string]api.Node {
	a := el("a")
	a.Text = "x"
	named, attributed, kinned := tx("x"), tx("x"), tx("x")
	named.Name.Local = "a"
	attributed.Attrs = attrs("a", "")
	kinned.Kids = []api.Node{el("a")}
	spaced := tx("x")
	spaced.Name.Space = "u"
	var many []string
	for i := range api.MaxAttrs + 1 {
		many = append(many, fmt.Sprintf("b%d", i), "")
	}
	return map[string]api.Node{
		"nothing": {}, "kind 3": {Kind: 3, Name: in("a")}, "kind -1": {Kind: -1, Name: in("a")}, "kind 0": {Name: in("a")},
		"no name": el(""), "no name in a namespace": el("u:"), "a colon": {Kind: api.Element, Name: api.Name{Local: "a:b"}},
		"a digit": el("1"), "a blank": el("a b"), "an end": el("a/"), "a long name": el(strings.Repeat("a", 65)), "no sign in a name": el("a\xff"), "a quote": el("a\""),
		"xmlns": el(qname.XMLNS + ":a"), "no sign in a Space": el("\xff:a"), "no sign of XML's in a Space": el("\x00:a"), "a surrogate in a Space": el("\xed\xa0\x80:a"), "fffe in a Space": el("\ufffe:a"),
		"a text in an element": a, "a name in a text": el("a", named), "a Space in a text": el("a", spaced), "an attribute in a text": el("a", attributed), "a kid in a text": el("a", kinned),
		"an empty text": el("a", tx("")), "neighbours": el("a", tx("x"), tx("y")), "no sign": el("a", tx("x\xc3")), "no sign of XML's": el("a", tx("\x0b")), "ffff": el("a", tx("\uffff")),
		"an attribute without a name": with(attrs("", "1"), el("a")), "a wrong attribute's name": with(attrs("-", "1"), el("a")), "an attribute xmlns": with(attrs("xmlns", "u"), el("a")), "an attribute in xmlns": with(attrs(qname.XMLNS+":b", "u"), el("a")),
		"an attribute's Space": with(attrs("\x01:b", "1"), el("a")), "an attribute's value": with(attrs("b", "\x00"), el("a")), "an attribute's value's sign": with(attrs("b", "\xff"), el("a")),
		"an attribute twice": with(attrs("b", "1", "c", "", "b", "1"), el("a")), "one of a namespace twice": with(attrs("u:b", "1", "u:b", "2"), el("a")), "attributes": with(attrs(many...), el("a")),
		"deep": nest(25), "deep with a text": nest(25, tx("x")), "deep by far": nest(3000), "nodes": wide(2001), "nodes by far": wide(100000),
	}
}

func TestPrintTellsWhatIsNotRight(t *testing.T) { // P5.1
	long := tx(strings.Repeat("x", api.MaxBytes+1))
	refuses(t, "a text as the root", api.ErrForm, tx("x"))
	refuses(t, "a long text as the root", api.ErrForm, long)
	for what, n := range broken() {
		refuses(t, what, api.ErrForm, n)
		refuses(t, what+" within", api.ErrForm, el("a", el("b"), el("c", n)))
		refuses(t, what+" at the end of what is too long", api.ErrForm, el("a", long, n))
		refuses(t, what+" ahead of what is too long", api.ErrForm, el("a", n, long))
		refuses(t, what+" behind a value that is too long", api.ErrForm, with(attrs("b", long.Text), el("a", n)))
	}
	cycle := el("a", el("b"))
	cycle.Kids[0].Kids = cycle.Kids
	refuses(t, "an element in itself", api.ErrForm, cycle)
	refuses(t, "too long and right", api.ErrLong, el("a", long))
}

// written: a node with all that is in it, the spare room of its lists too, as bytes.
func written(b []byte, n api.Node) []byte {
	l, kids := n.Attrs[:cap(n.Attrs)], n.Kids[:cap(n.Kids)]
	b = fmt.Appendf(b, "{%d %q %q %q %d %d", n.Kind, n.Name.Space, n.Name.Local, n.Text, len(n.Attrs), len(n.Kids))
	for _, a := range l {
		b = fmt.Appendf(b, " (%q %q %q)", a.Name.Space, a.Name.Local, a.Value)
	}
	for _, k := range kids {
		b = written(b, k)
	}
	return append(b, '}')
}

// roomy: a node whose lists have spare room that something stands in.
func roomy(n api.Node) api.Node {
	l := append(slices.Clone(n.Attrs), attrs("spare", "1", "u:spare", "2")...)
	kids := slices.Clone(n.Kids)
	for i := range kids {
		kids[i] = roomy(kids[i])
	}
	kids = append(kids, el("spare"), tx("spare"))
	n.Attrs, n.Kids = l[:len(n.Attrs)], kids[:len(n.Kids)]
	return n
}

func TestWhatIsHandedInStaysAsItWas(t *testing.T) { // rule 3
	l := broken()
	for i, n := range tails("x") {
		l[fmt.Sprint("right ", i)] = n
	}
	for i, n := range tails(strings.Repeat("x", api.MaxBytes)) {
		l[fmt.Sprint("long ", i)] = n
	}
	for i, n := range all() {
		l[fmt.Sprint("one of all ", i)] = n
	}
	delete(l, "deep by far")
	for what, n := range l {
		n = roomy(n)
		before := string(written(nil, n))
		s, e := print.Print(n)
		if string(written(nil, n)) != before {
			t.Errorf("%s: Print changed its tree", what)
		}
		if again, f := print.Print(n); again != s || f != e {
			t.Errorf("%s: Print has two answers", what)
		}
	}
}
