package sel_test

import (
	"net/url"
	"slices"
	"strconv"
	"strings"
	"testing"

	"watchbill/api"
	"watchbill/qname"
	"watchbill/sel"
)

// bare: a text that is encoded, decoded.
func bare(t *testing.T, s string) string {
	t.Helper()
	out, err := url.PathUnescape(s)
	if err != nil {
		t.Errorf("%.300q isn't encoded", s)
	}
	return out
}

// prints: steps must be printed so in the default namespace; what is wanted is told decoded.
func prints(t *testing.T, selector, query string, l ...api.Step) {
	t.Helper()
	printsIn(t, deflt, selector, query, l...)
}

// printsIn: likewise, in another one. What was printed must be parsed as the same steps.
func printsIn(t *testing.T, space, selector, query string, l ...api.Step) {
	t.Helper()
	s, q, e := sel.Print(space, l...)
	if bare(t, s) != selector || bare(t, q) != query || e != api.OK {
		t.Errorf("Print(%q, %+v) = %.300q, %.300q, %v, not %.300q, %.300q", space, l, s, q, e, selector, query)
	}
	comesBack(t, space, l...)
}

// comesBack: what steps are printed as must be parsed, with its query's bindings, as the same steps.
func comesBack(t *testing.T, space string, l ...api.Step) {
	t.Helper()
	s, q, e := sel.Print(space, l...)
	if e != api.OK {
		t.Errorf("Print(%q, %+v): %v", space, l, e)
		return
	}
	binds, e := sel.ParseBinds(q)
	if e != api.OK {
		t.Errorf("Print(%q, %+v): the query %.300q: %v", space, l, q, e)
	}
	parsesIn(t, s, space, binds, l...)
}

// printsJust: steps must be printed so, byte by byte.
func printsJust(t *testing.T, selector, query string, l ...api.Step) {
	t.Helper()
	if s, q, e := sel.Print(deflt, l...); s != selector || q != query || e != api.OK {
		t.Errorf("Print(%+v) = %.300q, %.300q, %v, not %.300q, %.300q", l, s, q, e, selector, query)
	}
}

// refuses: steps must not be printed.
func refuses(t *testing.T, want api.Errno, l ...api.Step) {
	t.Helper()
	refusesIn(t, deflt, want, l...)
}

// refusesIn: likewise, in another default namespace.
func refusesIn(t *testing.T, space string, want api.Errno, l ...api.Step) {
	t.Helper()
	if s, q, e := sel.Print(space, l...); s != "" || q != "" || e != want {
		t.Errorf("Print(%q, %+v) = %.300q, %.300q, %v, not %v", space, l, s, q, e, want)
	}
}

func TestPrint(t *testing.T) { // P10.3
	prints(t, "a", "", el(deflt, "a"))
	prints(t, "a/b[2]/@c", "", el(deflt, "a"), at(el(deflt, "b"), 2), attr("", "c"))
	prints(t, "*", "", every())
	prints(t, "*/a/*", "", every(), el(deflt, "a"), every())
	prints(t, "*[3]/namespace::*", "", at(every(), 3), spaces())
	prints(t, "*[@x=\"1\"]", "", by(every(), "", "x", "1"))
	prints(t, "a[9999][@b=\"\"]", "", by(at(el(deflt, "a"), 9999), "", "b", ""))
	prints(t, "n1:a", "xmlns(n1=urn:x)", el("urn:x", "a"))
	prints(t, "n1:a[1][@n1:b=\"c\"]/@n1:d", "xmlns(n1=urn:x)", by(at(el("urn:x", "a"), 1), "urn:x", "b", "c"), attr("urn:x", "d"))
	printsIn(t, "", "a[@b=\"c\"]", "", by(el("", "a"), "", "b", "c"))
	printsIn(t, "", "n1:a/b", "xmlns(n1=urn:d)", el(deflt, "a"), el("", "b"))
	prints(t, xs(64)+"/@"+xs(64), "", el(deflt, xs(64)), attr("", xs(64)))
	prints(t, "\u00e9/@\U0001f600", "", el(deflt, "\u00e9"), attr("", "\U0001f600"))
}

func TestPrintEncodes(t *testing.T) { // P10.3
	printsJust(t, "a", "", el(deflt, "a"))
	printsJust(t, "a/b/c-1.d_", "", el(deflt, "a"), el(deflt, "b"), el(deflt, "c-1.d_"))
	printsJust(t, "%2A", "", every())
	printsJust(t, "%2A%5B12%5D", "", at(every(), 12))
	printsJust(t, "a/%40b", "", el(deflt, "a"), attr("", "b"))
	printsJust(t, "a/namespace%3A%3A%2A", "", el(deflt, "a"), spaces())
	printsJust(t, "%C3%A9", "", el(deflt, "\u00e9"))
	printsJust(t, "xml%3Aa", "", el(qname.XML, "a"))
	printsJust(t, "n1%3Aa", "xmlns%28n1%3Durn%3Ax%2Fy~z%25%20%29", el("urn:x/y~z% ", "a"))
	printsJust(t, "a%5B%40b%3D%22%2F%25%27%5D%22%5D", "", by(el(deflt, "a"), "", "b", "/%']"))
	printsJust(t, "a%5B%40b%3D%22%E2%82%AC~%22%5D", "", by(el(deflt, "a"), "", "b", "\u20ac~"))
	printsJust(t, "n1%3Aa/n2%3Ab", "xmlns%28n1%3D%21%29xmlns%28n2%3D%28%29", el("!", "a"), el("(", "b"))
}

func TestPrintEscapesValues(t *testing.T) { // P10.3, P10.4
	for _, x := range [][2]string{{"", ""}, {"&", "&amp;"}, {"<", "&lt;"}, {">", ">"}, {"\"", "&quot;"}, {"'", "'"}, {"\t", "&#9;"}, {"\n", "&#10;"}, {"\r", "&#13;"}, {"\r\n", "&#13;&#10;"}, {"&lt;", "&amp;lt;"}, {"%", "%"}, {"%41", "%41"}, {"/", "/"}, {"//a/@b", "//a/@b"}, {"[1]", "[1]"}, {"\"]", "&quot;]"}, {"'][@c='", "'][@c='"}, {"x=y", "x=y"}, {" ", " "}, {"\u00e9\u20ac\U0001f600", "\u00e9\u20ac\U0001f600"}, {"\ufffd\ue000\ud7ff\U0010ffff", "\ufffd\ue000\ud7ff\U0010ffff"}, {"?a#b", "?a#b"}, {")", ")"}, {xs(100000), xs(100000)}} {
		prints(t, "a[@b=\""+x[1]+"\"]", "", by(el(deflt, "a"), "", "b", x[0]))
		prints(t, "*[2][@n1:b=\""+x[1]+"\"]/@n1:c", "xmlns(n1=u)", by(at(every(), 2), "u", "b", x[0]), attr("u", "c"))
	}
}

func TestPrintOfPrefixes(t *testing.T) { // P10.3
	// An element's name of the default namespace is told plainly, and an attribute's of none.
	prints(t, "a[@n1:b=\"\"]/@n1:c", "xmlns(n1=urn:d)", by(el(deflt, "a"), deflt, "b", ""), attr(deflt, "c"))
	printsIn(t, "", "n1:a[@b=\"\"]/@c", "xmlns(n1=urn:d)", by(el(deflt, "a"), "", "b", ""), attr("", "c"))
	prints(t, "xml:a[@xml:b=\"\"]/@xml:c", "", by(el(qname.XML, "a"), qname.XML, "b", ""), attr(qname.XML, "c"))
	printsIn(t, qname.XML, "a[@xml:b=\"\"]/@c", "", by(el(qname.XML, "a"), qname.XML, "b", ""), attr("", "c"))
	printsIn(t, qname.XML, "n1:a/xml/@n1", "xmlns(n1=u)", el("u", "a"), el(qname.XML, "xml"), attr("", "n1"))
	// n1, n2 and so on come in the order of the Spaces, an element's ahead of its attribute's.
	prints(t, "n1:a/n2:a/n1:b/n3:a/n2:b", "xmlns(n1=z)xmlns(n2=y)xmlns(n3=x)", el("z", "a"), el("y", "a"), el("z", "b"), el("x", "a"), el("y", "b"))
	prints(t, "n1:a[@n2:a=\"\"]/n3:a[@n1:a=\"\"]/@n2:b", "xmlns(n1=u)xmlns(n2=t)xmlns(n3=s)", by(el("u", "a"), "t", "a", ""), by(el("s", "a"), "u", "a", ""), attr("t", "b"))
	prints(t, "*[@n1:a=\"\"]/n2:a/n1:a", "xmlns(n1=u)xmlns(n2=t)", by(every(), "u", "a", ""), el("t", "a"), el("u", "a"))
	prints(t, "a/xml:a/n1:a/b/n2:a", "xmlns(n1=u)xmlns(n2=v)", el(deflt, "a"), el(qname.XML, "a"), el("u", "a"), el(deflt, "b"), el("v", "a"))
	prints(t, "n1:a/n2:a/n3:a", "xmlns(n1=n2)xmlns(n2=n1)xmlns(n3= n1)", el("n2", "a"), el("n1", "a"), el(" n1", "a"))
	for _, space := range []string{"u", " ", "\t\r\n", "=", "(", "xmlns(a=b", "%", "%41", "&amp;", "<\"'>", "\u00e9\u20ac\U0001f600", "\ufffd", qname.XML + " ", qname.XMLNS + "x", "xml", "xmlns", xs(100000)} {
		prints(t, "n1:a", "xmlns(n1="+space+")", el(space, "a"))
		prints(t, "*[@n1:a=\"b\"]/@n1:a", "xmlns(n1="+space+")", by(every(), space, "a", "b"), attr(space, "a"))
	}
}

func TestPrintInEachDefaultNamespace(t *testing.T) { // P10.3, P10.4
	// What is told plainly may be in any namespace, as no prefix is bound to it.
	for _, space := range []string{"", "u", ")", "a)b", qname.XML, qname.XMLNS, "\x00", "\xff", "\ufffe", " ", "=", "%"} {
		printsIn(t, space, "a[@b=\"c\"]/@d", "", by(el(space, "a"), "", "b", "c"), attr("", "d"))
		printsIn(t, space, "a/n1:b", "xmlns(n1=urn:x)", el(space, "a"), el("urn:x", "b"))
		if space != "" && space != qname.XML && space != "u" && space != " " && space != "=" && space != "%" {
			refusesIn(t, space, api.ErrPrefix, el(space, "a"), attr(space, "d"))
			refusesIn(t, space, api.ErrPrefix, by(el(space, "a"), space, "b", ""))
		}
		if space != "" {
			refusesIn(t, space, api.ErrPrefix, el("", "a"))
		}
	}
}

func TestPrintOfSpacesThatMayNotBe(t *testing.T) { // P10.3
	for _, space := range []string{qname.XMLNS, ")", "a)", ")a", "a)b", "))", "\x00", "a\x01", "\x08", "\v", "\f", "\x1f", "\ufffe", "\uffff", "a\uffffb", "\xff", "a\xc3", "\xed\xa0\x80", "\xc0\x80", "\xf4\x90\x80\x80", "a\x80b", "u\xe2\x82"} {
		refuses(t, api.ErrPrefix, el(space, "a"))
		refuses(t, api.ErrPrefix, el(deflt, "a"), el("u", "a"), at(el(space, "a"), 2), every())
		refuses(t, api.ErrPrefix, by(every(), space, "a", "b"))
		refuses(t, api.ErrPrefix, by(el("u", "a"), space, "a", "b"), el("v", "b"))
		refuses(t, api.ErrPrefix, every(), attr(space, "a"))
		refuses(t, api.ErrPrefix, el("u", "b"), el("v", "b"), attr(space, "a"))
	}
	// The empty one is none for an element elsewhere, while an attribute's is told plainly.
	refuses(t, api.ErrPrefix, el("", "a"))
	refuses(t, api.ErrPrefix, el(deflt, "a"), by(el("", "a"), "", "b", ""))
	prints(t, "a[@b=\"\"]/@c", "", by(el(deflt, "a"), "", "b", ""), attr("", "c"))
}

// chain: so many steps, each with an element's and an attribute's name in Spaces of their own.
func chain(n int) []api.Step {
	var l []api.Step
	for i := range n {
		s := strconv.Itoa(i)
		l = append(l, by(el("e"+s, "a"), "a"+s, "b", s))
	}
	return l
}

func TestPrintOfManySpaces(t *testing.T) { // P10.3
	full := chain(8)
	selector, query := "", ""
	for i := range 8 {
		s, one, two := strconv.Itoa(i), "n"+strconv.Itoa(2*i+1), "n"+strconv.Itoa(2*i+2)
		selector += "/" + one + ":a[@" + two + ":b=\"" + s + "\"]"
		query += "xmlns(" + one + "=e" + s + ")xmlns(" + two + "=a" + s + ")"
	}
	prints(t, selector[1:], query, full...)
	with := func(l ...api.Step) []api.Step { return append(slices.Clip(full), l...) }
	prints(t, selector[1:]+"/n16:c[@n1:d=\"\"]/@n15:e", query, with(by(el("a7", "c"), "e0", "d", ""), attr("e7", "e"))...)
	prints(t, selector[1:]+"/a[@b=\"\"]/xml:a[@xml:b=\"\"]/*[@c=\"\"]/*/namespace::*", query, with(by(el(deflt, "a"), "", "b", ""), by(el(qname.XML, "a"), qname.XML, "b", ""), by(every(), "", "c", ""), every(), spaces())...)
	refuses(t, api.ErrLong, with(el("x", "a"))...)
	refuses(t, api.ErrLong, with(by(every(), "x", "a", ""))...)
	refuses(t, api.ErrLong, with(by(el("e0", "a"), deflt, "a", ""))...)
	refuses(t, api.ErrLong, with(attr("x", "a"))...)
	refuses(t, api.ErrLong, with(el("a0", "a"), el("e0", "a"), el("y", "a"))...)
	refuses(t, api.ErrLong, chain(9)...)
	refuses(t, api.ErrLong, chain(16)...)
	for n := 1; n <= 16; n++ { // of elements alone there are never too many
		var l []api.Step
		for i := range n {
			l = append(l, el("s"+strconv.Itoa(i), "a"))
		}
		comesBack(t, deflt, l...)
		if _, q, _ := sel.Print(deflt, l...); strings.Count(q, "xmlns") != n {
			t.Errorf("of %d Spaces the query is %q", n, q)
		}
	}
}

func TestPrintOfNamesThatAreNone(t *testing.T) { // P10.3
	for _, local := range []string{"1", "a b", "a:b", ":", "-", "*", "@a", "a/b", "a[1]", "\xff", "a\xff", "\x00", "\u00d7", "namespace::*", " ", "a ", xs(65), strings.Repeat("\u00e9", 33)} {
		for _, space := range []string{deflt, "", "u", qname.XML, qname.XMLNS, ")"} {
			refuses(t, api.ErrName, el(space, local))
			refuses(t, api.ErrName, every(), at(el(space, local), 3), every())
			refuses(t, api.ErrName, by(every(), space, local, ""))
			refuses(t, api.ErrName, by(el(deflt, "a"), space, local, "x"), every())
			refuses(t, api.ErrName, every(), attr(space, local))
		}
	}
	for _, space := range []string{"", "u", qname.XML, ")"} { // an empty one, where the Name may be zero, or isn't
		refuses(t, api.ErrName, by(every(), space, "", ""))
		refuses(t, api.ErrName, by(el(deflt, "a"), space, "", "x"))
		refuses(t, api.ErrName, every(), attr(space, ""))
		if space != "" {
			refuses(t, api.ErrName, el(space, ""))
		}
	}
}

func TestPrintOfValuesThatMayNotBe(t *testing.T) { // P10.3
	for _, value := range []string{"\x00", "a\x01", "\x08", "\v", "\f", "\x1f", "\ufffe", "\uffff", "a\uffffb", "\xff", "a\xc3", "\xed\xa0\x80", "\xc0\x80", "\xf4\x90\x80\x80", "a\x80b", "\u00e9\xe2\x82"} {
		refuses(t, api.ErrChar, by(every(), "", "a", value))
		refuses(t, api.ErrChar, by(at(el("u", "a"), 2), "v", "a", value))
		refuses(t, api.ErrChar, every(), by(el(deflt, "a"), "", "b", value), every())
	}
	for _, value := range []string{"\t\n\r ", "\x7f\u0080\u009f", "\ud7ff\ue000\ufffd\U00010000\U0010ffff", "\ufdd0\U0001fffe"} {
		comesBack(t, deflt, by(every(), "", "a", value))
	}
}

func TestPrintOfNoSteps(t *testing.T) { // P10.3
	refuses(t, api.ErrStep)
	for n := 1; n < 40; n++ {
		l := slices.Repeat([]api.Step{el(deflt, "a")}, n)
		if n <= 16 {
			prints(t, strings.Repeat("a/", n-1)+"a", "", l...)
		} else {
			refuses(t, api.ErrStep, l...)
			refuses(t, api.ErrStep, slices.Repeat([]api.Step{every()}, n)...)
			refuses(t, api.ErrStep, append(l[:n-1:n-1], attr("", "a"))...)
			refuses(t, api.ErrStep, append(l[:n-1:n-1], spaces())...)
			refuses(t, api.ErrStep, slices.Repeat([]api.Step{el(")", "1")}, n)...)
		}
	}
	refuses(t, api.ErrStep, make([]api.Step, 5)...)
	refuses(t, api.ErrStep, make([]api.Step, 100000)...)
}

// nowhere: a step that may not be, wherever it stands.
func nowhere(t *testing.T, x api.Step) {
	t.Helper()
	refuses(t, api.ErrStep, x)
	refuses(t, api.ErrStep, x, every())
	refuses(t, api.ErrStep, every(), x)
	refuses(t, api.ErrStep, every(), x, every())
	refuses(t, api.ErrStep, x, attr("", "a"))
}

func TestPrintOfKinds(t *testing.T) { // P10.3
	for _, kind := range []int{-1, 0, 4, 5, 257, -1 << 62, 1<<62 + 1} {
		nowhere(t, api.Step{Kind: kind})
		nowhere(t, api.Step{Kind: kind, Any: true})
		nowhere(t, api.Step{Kind: kind, Name: name(deflt, "a")})
	}
	// An attribute, and the namespaces, stand at the end, behind an element.
	for _, x := range []api.Step{attr("", "a"), attr("u", "a"), spaces()} {
		refuses(t, api.ErrStep, x)
		refuses(t, api.ErrStep, x, every())
		refuses(t, api.ErrStep, x, x)
		refuses(t, api.ErrStep, every(), x, every())
		refuses(t, api.ErrStep, every(), x, attr("", "a"))
		refuses(t, api.ErrStep, every(), x, spaces())
		comesBack(t, deflt, every(), x)
		comesBack(t, deflt, every(), every(), x)
		comesBack(t, deflt, append(slices.Repeat([]api.Step{every()}, 15), x)...)
	}
}

func TestPrintOfFieldsThatAKindDoesNotName(t *testing.T) { // P10.3
	for _, x := range []api.Step{attr("", "a"), attr("u", "a"), spaces(), {Kind: api.StepAttr}} {
		for _, change := range []func(x *api.Step){
			func(x *api.Step) { x.Any = true },
			func(x *api.Step) { x.Pos = 1 },
			func(x *api.Step) { x.Pos = -1 },
			func(x *api.Step) { x.By = true },
			func(x *api.Step) { x.Attr.Local = "b" },
			func(x *api.Step) { x.Attr.Space = "b" },
			func(x *api.Step) { x.Value = "b" },
			func(x *api.Step) { x.By, x.Attr = true, name("", "b") },
		} {
			y := x
			change(&y)
			nowhere(t, y)
		}
	}
	nowhere(t, api.Step{Kind: api.StepSpace, Name: name("", "a")})
	nowhere(t, api.Step{Kind: api.StepSpace, Name: name("a", "")})
	for _, x := range []api.Step{every(), el(deflt, "a"), at(every(), 5)} { // without By
		for _, y := range []api.Step{{Attr: name("", "b")}, {Attr: name("b", "")}, {Value: "b"}, {Attr: name("", "b"), Value: "c"}, {Value: "\xff"}, {Attr: name("", "1")}} {
			x.Attr, x.Value = y.Attr, y.Value
			nowhere(t, x)
		}
	}
}

func TestPrintOfElements(t *testing.T) { // P10.3
	nowhere(t, api.Step{Kind: api.StepName})
	nowhere(t, at(api.Step{Kind: api.StepName}, 1))
	nowhere(t, by(api.Step{Kind: api.StepName}, "", "a", ""))
	for _, n := range []api.Name{name("", "a"), name("a", ""), name(deflt, "a"), name(")", "1")} {
		nowhere(t, api.Step{Kind: api.StepName, Any: true, Name: n})
		nowhere(t, by(api.Step{Kind: api.StepName, Any: true, Name: n}, "", "a", ""))
	}
	for _, x := range []api.Step{every(), el(deflt, "a"), by(el("u", "a"), "v", "b", "c")} {
		for _, pos := range []int{-1, -2, -9999, 10000, 10001, 65536, 1 << 32, 1<<32 + 1, 1<<63 - 1, -1 << 63} {
			nowhere(t, at(x, pos))
		}
		for pos := range 10000 {
			if pos < 200 || pos > 9900 || pos%97 == 0 {
				comesBack(t, deflt, at(x, pos))
			}
		}
		comesBack(t, deflt, at(x, 0), at(x, 9999), at(x, 1))
	}
	prints(t, "a", "", at(el(deflt, "a"), 0))
	prints(t, "a[1]", "", at(el(deflt, "a"), 1))
	prints(t, "a[10]/*[100]/*[9999]", "", at(el(deflt, "a"), 10), at(every(), 100), at(every(), 9999))
}

func TestPrintWhereErrorsMeet(t *testing.T) { // P10.3
	// Within a step: the steps' form, then its element's name, its attribute's, its value.
	bad := "\xff"
	l := []struct {
		x api.Step
		e api.Errno
	}{
		{by(at(el(")", "1"), -1), ")", "1", bad), api.ErrStep},
		{by(el(")", "1"), ")", "1", bad), api.ErrName},
		{by(el(")", "a"), ")", "1", bad), api.ErrPrefix},
		{by(el("u", "a"), ")", "1", bad), api.ErrName},
		{by(el("u", "a"), ")", "b", bad), api.ErrPrefix},
		{by(el("u", "a"), "v", "b", bad), api.ErrChar},
		{by(every(), ")", "1", bad), api.ErrName},
		{by(every(), ")", "b", bad), api.ErrPrefix},
		{by(every(), "", "b", bad), api.ErrChar},
	}
	for i, x := range l {
		refuses(t, x.e, x.x)
		refuses(t, x.e, every(), x.x)
		for j, y := range l { // an earlier step's goes ahead, but for the form of any
			want := x.e
			if i == 0 || j == 0 {
				want = api.ErrStep
			}
			refuses(t, want, x.x, y.x)
			refuses(t, want, every(), x.x, el("u", "b"), y.x, spaces())
		}
		refuses(t, x.e, x.x, attr(")", "1"))
		refuses(t, x.e, x.x, spaces())
		refuses(t, api.ErrStep, x.x, api.Step{})
		refuses(t, api.ErrStep, append([]api.Step{x.x}, slices.Repeat([]api.Step{every()}, 16)...)...)
		refuses(t, api.ErrStep, x.x, attr("", "a"), every())
	}
	// A 17th Space.
	full := chain(8)
	with := func(l ...api.Step) []api.Step { return append(slices.Clip(full), l...) }
	refuses(t, api.ErrName, with(el("x", "1"))...)
	refuses(t, api.ErrPrefix, with(el(")", "a"))...)
	refuses(t, api.ErrPrefix, with(by(every(), "\xff", "a", bad))...)
	refuses(t, api.ErrLong, with(by(el("x", "a"), ")", "1", bad))...)
	refuses(t, api.ErrLong, with(by(every(), "x", "a", bad))...)
	refuses(t, api.ErrLong, with(el("x", "a"), el(")", "1"))...)
	refuses(t, api.ErrPrefix, with(el(")", "a"), el("x", "a"))...)
	refuses(t, api.ErrChar, with(by(el("e0", "a"), "a1", "a", bad), el("x", "a"))...)
	refuses(t, api.ErrStep, with(el("x", "a"), api.Step{})...)
	refuses(t, api.ErrName, with(attr("x", "1"))...)
	refuses(t, api.ErrPrefix, with(attr(")", "a"))...)
}
