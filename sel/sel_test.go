package sel_test

import (
	"slices"
	"strconv"
	"strings"
	"testing"

	"watchbill/api"
	"watchbill/qname"
	"watchbill/sel"
)

// name: of a namespace.
func name(space, local string) api.Name { return api.Name{Space: space, Local: local} }

// el: a step of elements of a name.
func el(space, local string) api.Step {
	return api.Step{Kind: api.StepName, Name: name(space, local)}
}

// every: a step of all elements.
func every() api.Step { return api.Step{Kind: api.StepName, Any: true} }

// at: the same step with a position.
func at(x api.Step, pos int) api.Step {
	x.Pos = pos
	return x
}

// by: the same step with an attribute and its value.
func by(x api.Step, space, local, value string) api.Step {
	x.By, x.Attr, x.Value = true, name(space, local), value
	return x
}

// attr: a step of an attribute.
func attr(space, local string) api.Step {
	return api.Step{Kind: api.StepAttr, Name: name(space, local)}
}

// spaces: the step of the namespaces.
func spaces() api.Step { return api.Step{Kind: api.StepSpace} }

// bind: bindings of prefixes and namespaces in turn.
func bind(l ...string) []api.Bind {
	var out []api.Bind
	for i := 0; i < len(l); i += 2 {
		out = append(out, api.Bind{Prefix: l[i], Space: l[i+1]})
	}
	return out
}

// xs: so many bytes.
func xs(n int) string { return strings.Repeat("x", n) }

// binds: a query must have these bindings.
func binds(t *testing.T, query string, want ...string) {
	t.Helper()
	if l, e := sel.ParseBinds(query); !slices.Equal(l, bind(want...)) || e != api.OK {
		t.Errorf("ParseBinds(%.300q) = %.300q, %v, not %.300q", query, l, e, want)
	}
}

// noBinds: a query must not be parsed.
func noBinds(t *testing.T, query string, want api.Errno) {
	t.Helper()
	if l, e := sel.ParseBinds(query); len(l) != 0 || e != want {
		t.Errorf("ParseBinds(%.300q) = %.300q, %v, not %v", query, l, e, want)
	}
}

// The default namespace and the bindings of most selectors here.
const deflt = "urn:d"

func bound() []api.Bind { return bind("p", "urn:p", "q", "urn:q") }

// parses: a selector must have these steps.
func parses(t *testing.T, s string, want ...api.Step) {
	t.Helper()
	parsesIn(t, s, deflt, bound(), want...)
}

// parsesIn: likewise, in a default namespace and bindings.
func parsesIn(t *testing.T, s, space string, binds []api.Bind, want ...api.Step) {
	t.Helper()
	if l, e := sel.Parse(s, space, binds); !slices.Equal(l, want) || e != api.OK {
		t.Errorf("Parse(%.300q, %q, %.300q) = %+v, %v, not %+v", s, space, binds, l, e, want)
	}
}

// wrong: a selector must not be parsed.
func wrong(t *testing.T, s string, want api.Errno) {
	t.Helper()
	wrongIn(t, s, deflt, bound(), want)
}

// wrongIn: likewise, in a default namespace and bindings.
func wrongIn(t *testing.T, s, space string, binds []api.Bind, want api.Errno) {
	t.Helper()
	if l, e := sel.Parse(s, space, binds); len(l) != 0 || e != want {
		t.Errorf("Parse(%.300q, %q, %.300q) = %+v, %v, not %v", s, space, binds, l, e, want)
	}
}

func TestParseBinds(t *testing.T) { // P10.1
	binds(t, "")
	binds(t, "xmlns(p=urn:x)", "p", "urn:x")
	binds(t, "xmlns(a=b)xmlns(c=d)", "a", "b", "c", "d")
	binds(t, "xmlns(c=d)xmlns(a=b)xmlns(b=a)", "c", "d", "a", "b", "b", "a")
	binds(t, "xmlns(a=b)xmlns(a=c)xmlns(a=b)", "a", "b", "a", "c", "a", "b")
	binds(t, "xmlns(a=b=c)", "a", "b=c")
	binds(t, "xmlns(a==)", "a", "=")
	binds(t, "xmlns(a=(b(c)", "a", "(b(c")
	binds(t, "xmlns(a=xmlns(b=c)", "a", "xmlns(b=c")
	binds(t, "xmlns(a= b )", "a", " b ")
	binds(t, "xmlns(a= )", "a", " ")
	binds(t, "xmlns(a=b\r\nc\x00<&'\")", "a", "b\r\nc\x00<&'\"")
	binds(t, "xmlns(\u00e9-1.=\u20ac\U0001f600)", "\u00e9-1.", "\u20ac\U0001f600")
	binds(t, "xmlns(xml="+qname.XML+")", "xml", qname.XML)
	binds(t, "xmlns("+xs(64)+"="+xs(100000)+")", xs(64), xs(100000))
}

func TestParseBindsWithBlanks(t *testing.T) { // P10.1
	for _, b := range []string{" ", "\t", "\n", "\r", " \t\n\r ", "%20", "%09%0a%0D"} {
		binds(t, b)
		binds(t, b+"xmlns(a=b)", "a", "b")
		binds(t, "xmlns(a=b)"+b, "a", "b")
		binds(t, "xmlns(a=b)"+b+"xmlns(c=d)", "a", "b", "c", "d")
		binds(t, b+"xmlns(a=b)"+b+"xmlns(c=d)"+b, "a", "b", "c", "d")
		for _, s := range []string{"xmlns" + b + "(a=b)", "xmlns(" + b + "a=b)", "xmlns(a" + b + "=b)", "xm" + b + "lns(a=b)", "xmlns(a" + b + ")=b)", b + "x", "xmlns(a=b" + b} {
			noBinds(t, s, api.ErrForm)
		}
	}
	for _, b := range []string{"\v", "\f", "\u00a0", "\u2028", "+", "\x00", "&", ",", ";", "x"} {
		noBinds(t, b, api.ErrForm)
		noBinds(t, b+"xmlns(a=b)", api.ErrForm)
		noBinds(t, "xmlns(a=b)"+b, api.ErrForm)
		noBinds(t, "xmlns(a=b)"+b+"xmlns(c=d)", api.ErrForm)
	}
}

func TestParseBindsOfAnotherForm(t *testing.T) { // P10.1
	for _, s := range []string{"x", "a=b", "(a=b)", "xmlns", "xmlns(", "xmlns()", "xmlns(a", "xmlns(a)", "xmlns(a=", "xmlns(a=b", "xmlns(=)", "xmlns(=b)", "xmlns(a)=b)", "xmlns()=b)", "xmlns(a)b=c)", "xmlnsa=b)", "xmlns:a=b", "xmlns[a=b]", "XMLNS(a=b)", "Xmlns(a=b)", "xmlns((a=b)", "xmlns(a=b))", ")", "=",
		"xmlns(1=b)", "xmlns(-=b)", "xmlns(a:b=c)", "xmlns(:=c)", "xmlns(a,b=c)", "xmlns(\u00d7=c)", "xmlns(" + xs(65) + "=c)", "xmlns(" + strings.Repeat("\u00e9", 33) + "=c)",
		"xmlns(a=b)x", "xmlns(a=b)xmlns", "xmlns(a=b)xmlns(c)", "xmlns(a=b)xmlns(c=d", "xmlns(a=b)xmlns(1=d)"} {
		noBinds(t, s, api.ErrForm)
		noBinds(t, "xmlns(z=y)"+s, api.ErrForm)
	}
	for _, s := range []string{"xmlns(a)", "xmlns(a", "xmlns()", "xmlns("} { // the = and the ) further behind aren't theirs
		noBinds(t, s+"xmlns(b=c)", api.ErrForm)
		noBinds(t, s+"=b", api.ErrForm)
	}
}

func TestParseBindsThatMayNotBe(t *testing.T) { // P10.1
	for _, s := range []string{"xmlns(a=)", "xmlns(xmlns=b)", "xmlns(xmlns=" + qname.XMLNS + ")", "xmlns(xml=b)", "xmlns(xml=)", "xmlns(xml=" + qname.XMLNS + ")", "xmlns(a=" + qname.XML + ")", "xmlns(a=" + qname.XMLNS + ")"} {
		noBinds(t, s, api.ErrPrefix)
		noBinds(t, "xmlns(z=y) "+s+" ", api.ErrPrefix)
	}
	binds(t, "xmlns(a="+qname.XML+"x)xmlns(XML=b)xmlns(Xmlns= "+qname.XMLNS+")", "a", qname.XML+"x", "XML", "b", "Xmlns", " "+qname.XMLNS)
}

// numbered: so many bindings, one behind the other, and what they are.
func numbered(n int) (query string, want []string) {
	for i := range n {
		s := strconv.Itoa(i)
		query += "xmlns(a" + s + "=u" + s + ")"
		want = append(want, "a"+s, "u"+s)
	}
	return query, want
}

func TestParseBindsOfManyBindings(t *testing.T) { // P10.1
	for n := range 30 {
		s, want := numbered(n)
		if n <= 16 {
			binds(t, s, want...)
			binds(t, s+"  ", want...)
		} else {
			noBinds(t, s, api.ErrLong)
			noBinds(t, s+"x", api.ErrLong)
		}
	}
	binds(t, strings.Repeat("xmlns(a=b)", 16), strings.Split(strings.Repeat("a b ", 16), " ")[:32]...)
	noBinds(t, strings.Repeat("xmlns(a=b)", 17), api.ErrLong)
	noBinds(t, strings.Repeat("xmlns(a=b) ", 1000), api.ErrLong)
}

func TestParseBindsWhereErrorsMeet(t *testing.T) { // P10.1
	full, _ := numbered(16)
	noBinds(t, full+"x", api.ErrForm)
	noBinds(t, full+"xmlns(a", api.ErrForm)
	noBinds(t, full+"xmlns(a=b", api.ErrForm)
	noBinds(t, full+"xmlns(=b)", api.ErrForm)
	noBinds(t, full+"xmlns(a=)", api.ErrLong)
	noBinds(t, full+"xmlns(xmlns=b)", api.ErrLong)
	noBinds(t, full+"xmlns(a=b)xmlns(a=)", api.ErrLong)
	noBinds(t, "xmlns(a=)"+full, api.ErrPrefix)
	noBinds(t, "xmlns(a=)x", api.ErrPrefix)
	noBinds(t, "xmlns(a=)xmlns(b", api.ErrPrefix)
	noBinds(t, "xxmlns(a=)", api.ErrForm)
	noBinds(t, "xmlns(b)xmlns(a=)", api.ErrForm)
	noBinds(t, "xmlns(xmlns=", api.ErrForm)
	for _, s := range []string{"x", "xmlns(a=)", "xmlns(a", full + "xmlns(a=b)", ""} {
		noBinds(t, s+"%", api.ErrPercent)
		noBinds(t, "%4"+s, api.ErrPercent)
		noBinds(t, s+"%ff", api.ErrUTF)
		noBinds(t, "\xff"+s, api.ErrUTF)
		noBinds(t, "%ff"+s+"%g0", api.ErrPercent)
	}
}

func TestParseBindsIsDecodedAsAWhole(t *testing.T) { // P10.1
	binds(t, "%78mlns(a=b)", "a", "b")
	binds(t, "x%6Dl%6es%28a%3db%29", "a", "b")
	binds(t, "xmlns(%61=urn%3Ax%2Fy%20z)", "a", "urn:x/y z")
	binds(t, "xmlns(a=b%29xmlns%28c=d)", "a", "b", "c", "d")
	binds(t, "xmlns(a=b%3D)", "a", "b=")
	binds(t, "xmlns(a%3Db=c)", "a", "b=c")
	binds(t, "xmlns(a=%2529)", "a", "%29")
	binds(t, "xmlns(a=%C3%A9%e2%82%ac)", "a", "\u00e9\u20ac")
	binds(t, "xmlns(a=\xc3%A9)", "a", "\u00e9")
	binds(t, "xmlns(a=b+c)", "a", "b+c")
	noBinds(t, "%2578mlns(a=b)", api.ErrForm)
	noBinds(t, "xmlns(a%3Ab=c)", api.ErrForm)
	noBinds(t, "xmlns(a=%20%29%20%2520)", api.ErrForm)
	noBinds(t, "xmlns(a=%C3)%A9", api.ErrUTF)
	noBinds(t, "xmlns(a=%ED%A0%80)", api.ErrUTF)
}

func TestParse(t *testing.T) { // P10.2
	parses(t, "a", el(deflt, "a"))
	parses(t, "a/b", el(deflt, "a"), el(deflt, "b"))
	parses(t, "a/b[2]/@c", el(deflt, "a"), at(el(deflt, "b"), 2), attr("", "c"))
	parses(t, "*[@x=\"1\"]", by(every(), "", "x", "1"))
	parses(t, "*", every())
	parses(t, "*/*/p:b/*", every(), every(), el("urn:p", "b"), every())
	parses(t, "*[3]", at(every(), 3))
	parses(t, "*[3][@q:c='d']", by(at(every(), 3), "urn:q", "c", "d"))
	parses(t, "p:a[12][@b='x']/q:c[@p:d=\"\"]/namespace::*", by(at(el("urn:p", "a"), 12), "", "b", "x"), by(el("urn:q", "c"), "urn:p", "d", ""), spaces())
	parses(t, "namespace", el(deflt, "namespace"))
	parses(t, "a-1.b/_/\u00e9", el(deflt, "a-1.b"), el(deflt, "_"), el(deflt, "\u00e9"))
	parses(t, xs(64)+"/@"+xs(64), el(deflt, xs(64)), attr("", xs(64)))
	parsesIn(t, xs(64)+":"+xs(64)+"[@"+xs(64)+":"+xs(64)+"='']", "", bind(xs(64), "u"), by(el("u", xs(64)), "u", xs(64), ""))
	wrong(t, xs(65), api.ErrStep)
	wrong(t, "a[@"+xs(65)+"='']", api.ErrStep)
	wrong(t, "a/@"+xs(65), api.ErrName)
	wrong(t, "b[@p:x=1]", api.ErrStep)
}

func TestParseOfManySteps(t *testing.T) { // P10.2
	for n := 1; n < 40; n++ {
		s := strings.Repeat("a/", n-1)
		if n <= 16 {
			parses(t, s+"a", slices.Repeat([]api.Step{el(deflt, "a")}, n)...)
			wrong(t, s, api.ErrStep)
			wrong(t, s+"%", api.ErrPercent)
			continue
		}
		for _, behind := range []string{"a", "", "@b", "namespace::*", "%", "%ff", "z:a", "1"} {
			wrong(t, s+behind, api.ErrLong)
			wrong(t, "%/"+s+behind, api.ErrLong)
			wrong(t, "1/"+s+behind, api.ErrLong)
		}
		wrong(t, strings.Repeat("/", n-1), api.ErrLong)
		wrong(t, strings.Repeat("%/", n-1), api.ErrLong)
	}
	parses(t, strings.Repeat("*/", 14)+"*/@a", append(slices.Repeat([]api.Step{every()}, 15), attr("", "a"))...)
	parses(t, strings.Repeat("*/", 15)+"namespace::*", append(slices.Repeat([]api.Step{every()}, 15), spaces())...)
	parses(t, "a[@b='"+strings.Repeat("%2F", 40)+"']", by(el(deflt, "a"), "", "b", strings.Repeat("/", 40)))
	wrong(t, "a[@b='"+strings.Repeat("/", 15)+"']", api.ErrStep)
	wrong(t, "a[@b='"+strings.Repeat("/", 16)+"']", api.ErrLong)
}

func TestParseOfEmptySteps(t *testing.T) { // P10.2
	for _, s := range []string{"", "/", "//", "/a", "a/", "a//b", "a/b/", "//a", "a//", "a//@b", "/@b", "/namespace::*", "a[1]/", "/a[1]", "@", "@/", "/@"} {
		wrong(t, s, api.ErrStep)
	}
}

func TestParseDecodesEachStep(t *testing.T) { // P10.2
	parses(t, "%61", el(deflt, "a"))
	parses(t, "%70%3aa", el("urn:p", "a"))
	parses(t, "%2a/%2A", every(), every())
	parses(t, "a%5b2%5D", at(el(deflt, "a"), 2))
	parses(t, "a%5B@b%3d%22%2f%22%5D/c", by(el(deflt, "a"), "", "b", "/"), el(deflt, "c"))
	parses(t, "a/%40b", el(deflt, "a"), attr("", "b"))
	parses(t, "a/%6Eamespace%3A:%2A", el(deflt, "a"), spaces())
	parses(t, "%C3%A9/@\u00e9", el(deflt, "\u00e9"), attr("", "\u00e9"))
	parses(t, "a[@b='%2522']", by(el(deflt, "a"), "", "b", "%22"))
	parses(t, "a[@b='%26lt%3B']", by(el(deflt, "a"), "", "b", "<"))
	parses(t, "a[@b='x+y%20z']", by(el(deflt, "a"), "", "b", "x+y z"))
	wrong(t, "a%2Fb", api.ErrStep)
	wrong(t, "a%20", api.ErrStep)
	wrong(t, "a/%2540b", api.ErrStep)
	for _, s := range []string{"%", "%4", "a%", "%g1", "a[%]", "a[@b='%']", "z:a%", "1%zz"} {
		wrong(t, s, api.ErrPercent)
		wrong(t, "a/"+s, api.ErrPercent)
		wrong(t, s+"/a", api.ErrPercent)
	}
	for _, s := range []string{"%ff", "\xff", "a%C3", "a[@b='%C3']", "z:%80", "1%ED%A0%80"} {
		wrong(t, s, api.ErrUTF)
		wrong(t, "a/"+s, api.ErrUTF)
		wrong(t, s+"/%A9", api.ErrUTF)
	}
	wrong(t, "a/@%", api.ErrPercent)
	wrong(t, "a/@%ff", api.ErrUTF)
	wrong(t, "%ff%", api.ErrPercent)
}

func TestParseOfNames(t *testing.T) { // P10.2
	for _, s := range []string{"1", "-", ".", ":", "a:", ":a", "a:b:c", "a b", " a", "a ", "a\t", "a\n", "p: a", "p :a", "**", "a*", "*a", "p:*", "*:a", "*:*", "a,b", "a|b", "a]", "]", "a(", "..", "text()", "a::b", "child::a", "a\x00", "\u00d7", "\u0300", "a=b", "a'b'", "@a", "@*", "namespace::*", "namespace::a", "namespace:*", "namespace::"} {
		wrong(t, s, api.ErrStep)
		wrong(t, s+"/a", api.ErrStep)
		wrong(t, "p:a/"+s+"/a", api.ErrStep)
		wrong(t, s+"[1]", api.ErrStep)
		wrong(t, s+"[@b='c']", api.ErrStep)
		wrong(t, "a/"+s+"[1]/a", api.ErrStep)
		if s[0] != '@' && s != "namespace::*" {
			wrong(t, "a/"+s, api.ErrStep)
		}
		if s[0] != '@' && s != "a=b" {
			wrong(t, "a[@"+s+"='c']", api.ErrStep)
			wrong(t, "a[@"+s+"=\"c\"]/a", api.ErrStep)
		}
	}
	wrong(t, "a[@@b='c']", api.ErrStep)
	wrong(t, "a[@*='c']", api.ErrStep)
	wrong(t, "a[@a=b='c']", api.ErrStep)
}

func TestParseOfPositions(t *testing.T) { // P10.2
	for n := 1; n < 10000; n++ {
		if s := "a[" + strconv.Itoa(n) + "]"; n < 1100 || n > 9900 || n%97 == 0 {
			parses(t, s, at(el(deflt, "a"), n))
		}
	}
	for _, s := range []string{"", "0", "00", "01", "001", "0001", "00001", "0x1", "10000", "10001", "09999", "99999", "65536", "65537", "4294967297", "18446744073709551617", "99999999999999999999999", "-1", "+1", "1.", "1.0", "1e3", "1_0", "1a", "a", "x1", " 1", "1 ", " ", "1,2", "\u0661", "\uff11", "1\x00", "last()", "position()=1", "*", "'1'", "[1]", "[1", "1=1", "@", "@1", "b"} {
		for _, name := range []string{"a", "*", "p:a"} {
			wrong(t, name+"["+s+"]", api.ErrStep)
			wrong(t, name+"["+s+"][@b='c']", api.ErrStep)
			wrong(t, "a/"+name+"["+s+"]/b", api.ErrStep)
		}
	}
	parses(t, "a[%31]/*[9999]/*[10]/p:c[1]", at(el(deflt, "a"), 1), at(every(), 9999), at(every(), 10), at(el("urn:p", "c"), 1))
	for _, s := range []string{"a[", "a[1", "a]", "a1]", "a[1]]", "a[1][", "a[1][]", "a[1][2]", "a[1][1]", "a[1]x", "a[1] ", "a [1]", "a[1]/[2]", "[1]", "a[1][2][@b='c']", "a[[1]]", "a(1)", "a[1][@b='c'][2]", "a[@b='c'][1]", "a[@b='c'][1][@b='c']", "*[1]*", "*1]", "a[1]@b", "a[1]b[1]"} {
		wrong(t, s, api.ErrStep)
		wrong(t, s+"/a", api.ErrStep)
		wrong(t, "a/"+s, api.ErrStep)
	}
}

func TestParseOfValues(t *testing.T) { // P10.2
	for _, x := range [][2]string{{"", ""}, {"x", "x"}, {"x y", "x y"}, {" x ", " x "}, {"]", "]"}, {"[", "["}, {"[1]", "[1]"}, {"][", "]["}, {"]]", "]]"}, {"=", "="}, {"==", "=="}, {"@", "@"}, {"@b=", "@b="}, {"*", "*"}, {"namespace::*", "namespace::*"}, {"<", "<"}, {">", ">"}, {"<a>", "<a>"}, {"]]>", "]]>"},
		{"&lt;&gt;&amp;&quot;&apos;", "<>&\"'"}, {"&#65;&#x42;&#x1F600;", "AB\U0001f600"}, {"&amp;lt;", "&lt;"}, {"&#10;&#13;&#9;", "\n\r\t"}, {"&#34;&#39;", "\"'"},
		{"a\nb\tc\rd\r\ne", "a b c d e"}, {"\r\n\r\n", "  "}, {"\n\r", "  "}, {"%0A%0D%09", "   "}, {"%0d%0A", " "}, {"\r%0A", " "}, {"\u00e9\u20ac\U0001f600", "\u00e9\u20ac\U0001f600"}, {"\x00\x01\ufffe", "\x00\x01\ufffe"}, {xs(100000), xs(100000)}} {
		for _, q := range []string{"\"", "'", "%22", "%27"} {
			parses(t, "a[@b="+q+x[0]+q+"]", by(el(deflt, "a"), "", "b", x[1]))
			parses(t, "*[7][@p:b="+q+x[0]+q+"]/@c", by(at(every(), 7), "urn:p", "b", x[1]), attr("", "c"))
		}
	}
	parses(t, "a[@b=\"it's\"]", by(el(deflt, "a"), "", "b", "it's"))
	parses(t, "a[@b=\"'\"]", by(el(deflt, "a"), "", "b", "'"))
	parses(t, "a[@b='\"']", by(el(deflt, "a"), "", "b", "\""))
	parses(t, "a[@b='\"]']", by(el(deflt, "a"), "", "b", "\"]"))
	parses(t, "a[@b=\"c'][@d='\"]", by(el(deflt, "a"), "", "b", "c'][@d='"))
	for _, s := range []string{"&", "&;", "&lt", "&lt ;", "&nbsp;", "&LT;", "&#;", "&#x;", "&#0;", "&#xD800;", "&#x110000;", "&#X41;", "&#4a;", "x&y", "&lt;&", "&&lt;"} {
		wrong(t, "a[@b='"+s+"']", api.ErrRef)
		wrong(t, "*[2][@p:b=\""+s+"\"]/a", api.ErrRef)
		wrong(t, "a/a[@b='"+s+"']/@c", api.ErrRef)
	}
}

func TestParseOfTestsOfAnotherForm(t *testing.T) { // P10.2
	for _, s := range []string{"[", "[]", "[@", "[@]", "[@b", "[@b]", "[@b=", "[@b=]", "[@b=x]", "[@b=1]", "[@b='", "[@b=\"", "[@b=']", "[@b=\"]", "[@b='x", "[@b='x'", "[@b='x]", "[@b='x\"]", "[@b=\"x']", "[@b=x']", "[@b=x'y']", "[@b='x'y']", "[@b='x'']", "[@b=''']", "[@b=\"\"\"]", "[@b='x'y]", "[@b='x' ]", "[@b='x']]", "[@b='x'] ", "[@b='x']x", "[@b='x'][", "[@b='x'][]", "[@b='x'][@b='x']", "[@b='x'][@c='y']", "[@b='x'][2]", "[ @b='x']", "[@ b='x']", "[@b ='x']", "[@b= 'x']", "[b='x']", "@b='x']", "[@='x']", "['x']", "[@b'x']", "[@b=='x']", "[@b!='x']", "[@b=`x`]", "[@b=\u201cx\u201d]", "[[@b='x']]", "[@b='x' and @c='y']", "[@b='x'='y']", "(@b='x')", "[@b=&quot;x&quot;]", "[@b='x'/]", "[@b]='x'", "[@b]='x']", "[1@b='x']", "[1][b='x']", "[1]@b='x']", "[1]b='x']", "[1]='x']", "[1][[@b='x']", "[1]x[@b='x']"} {
		for _, name := range []string{"a", "*", "q:a", "a[1]"} {
			wrong(t, name+s, api.ErrStep)
			wrong(t, name+s+"/a", api.ErrStep)
			wrong(t, "a/"+name+s, api.ErrStep)
		}
	}
}

func TestParseOfQuotes(t *testing.T) { // P10.2
	for c := range rune(0x300) {
		q := string(c)
		for _, s := range []string{"a[@b=" + q + "x" + q + "]", "*[1][@p:b=" + q + q + "]"} {
			if c == '"' || c == '\'' {
				continue // those of all other tests
			}
			s = strings.ReplaceAll(s, "%", "%25")
			wrong(t, s, api.ErrStep)
			wrong(t, "a/"+s+"/a", api.ErrStep)
		}
		// As what ends a value, or stands behind it, none but the same quote and the bracket.
		for _, own := range []string{"\"", "'"} {
			if q != own && c != '%' {
				wrong(t, "a[@b="+own+"x"+q+"]", api.ErrStep)
				wrong(t, "a[@b="+own+own+q+"]", api.ErrStep)
			}
			if c != ']' && c != '%' {
				wrong(t, "a[@b="+own+"x"+own+q, api.ErrStep)
				wrong(t, "a[@b="+own+"x"+own+"]"+q, api.ErrStep)
			}
		}
	}
}

func TestParseOfLastSteps(t *testing.T) { // P10.2
	parses(t, "a/@b", el(deflt, "a"), attr("", "b"))
	parses(t, "*/@p:b", every(), attr("urn:p", "b"))
	parses(t, "*[2]/a/@xml:b", at(every(), 2), el(deflt, "a"), attr(qname.XML, "b"))
	parses(t, "a/@xmlns", el(deflt, "a"), attr("", "xmlns"))
	parses(t, "a/namespace::*", el(deflt, "a"), spaces())
	parses(t, "a/b/c/namespace::*", el(deflt, "a"), el(deflt, "b"), el(deflt, "c"), spaces())
	for _, s := range []string{"@", "@1", "@*", "@ b", "@b ", "@@b", "@b[1]", "@b[@c='d']", "@:", "@p:", "@:b", "@p:b:c", "@namespace::*", "@p:*", "@b@c", "@" + xs(65), "@b="} {
		wrong(t, "a/"+s, api.ErrName)
		wrong(t, "a/*/"+s, api.ErrName)
		wrong(t, s, api.ErrStep)
		wrong(t, "a/"+s+"/a", api.ErrStep)
		wrong(t, s+"/@b", api.ErrStep)
	}
	for _, s := range []string{"@z:b", "@xmlns:b", "@P:b"} {
		wrong(t, "a/"+s, api.ErrPrefix)
		wrong(t, s, api.ErrStep)
		wrong(t, "a/"+s+"/b", api.ErrStep)
	}
	for _, s := range []string{"@b", "@p:b", "namespace::*"} {
		wrong(t, s, api.ErrStep)
		wrong(t, s+"/a", api.ErrStep)
		wrong(t, s+"/"+s, api.ErrStep)
		wrong(t, "a/"+s+"/a", api.ErrStep)
		wrong(t, "a/"+s+"/"+s, api.ErrStep)
		wrong(t, "a/"+s+"/", api.ErrStep)
	}
	for _, s := range []string{"namespace::*[1]", "namespace::*[@b='c']", " namespace::*", "namespace::* ", "namespace:*", "namespace::", "namespace::**", "Namespace::*", "namespace::a", "namespace::p", "attribute::b"} {
		wrong(t, "a/"+s, api.ErrStep)
	}
}

func TestParseOfNamespaces(t *testing.T) { // P10.2
	for _, space := range []string{"", "urn:d", "x y", qname.XML, qname.XMLNS, ")", "\xff\x00"} {
		parsesIn(t, "a[@b='']/@c", space, nil, by(el(space, "a"), "", "b", ""), attr("", "c"))
		parsesIn(t, "a[@p:b='']/@p:c", space, bind("p", "u"), by(el(space, "a"), "u", "b", ""), attr("u", "c"))
		parsesIn(t, "a[@b='']/@c", space, bind("", "u"), by(el("u", "a"), "", "b", ""), attr("", "c"))
		parsesIn(t, "a/b", space, bind("", "u", "p", "v", "", "w", "q", "x"), el("w", "a"), el("w", "b"))
		parsesIn(t, "a/b", space, bind("", "u", "", ""), el("", "a"), el("", "b"))
		parsesIn(t, "xml:a[@xml:b='']/@xml:c", space, nil, by(el(qname.XML, "a"), qname.XML, "b", ""), attr(qname.XML, "c"))
		parsesIn(t, "xml:a", space, bind("xml", "u"), el(qname.XML, "a"))
		wrongIn(t, "p:a", space, nil, api.ErrPrefix)
		wrongIn(t, "p:a", space, bind("q", "u", "P", "v", "", "w", "pp", "x"), api.ErrPrefix)
		for _, prefix := range []string{"xmlns", "z"} {
			wrongIn(t, prefix+":a", space, bind("p", "u"), api.ErrPrefix)
			wrongIn(t, "a[@"+prefix+":b='']", space, bind("p", "u"), api.ErrPrefix)
			wrongIn(t, "a/@"+prefix+":b", space, bind("p", "u"), api.ErrPrefix)
		}
		wrongIn(t, "xmlns:a", space, bind("xmlns", "u"), api.ErrPrefix)
	}
	parsesIn(t, "p:a/q:a/*[@p:b='']/@p:c", "d", bind("p", "u", "q", "v", "p", "w"), el("w", "a"), el("v", "a"), by(every(), "w", "b", ""), attr("w", "c"))
	parsesIn(t, "p:a", "d", bind("p", ""), el("", "a"))
	parsesIn(t, "p:a", "d", bind("p", "u", "p", "u"), el("u", "a"))
	many := slices.Repeat(bind("q", "x"), 1000)
	parsesIn(t, "p:a", "d", append(append(bind("p", "u"), many...), bind("", "w")...), el("u", "a"))
}

func TestParseWhereErrorsMeet(t *testing.T) { // P10.2
	// Within a step: its decoding, its form, its name, its attribute's name, its value.
	l := []struct {
		s string
		e api.Errno
	}{{"z:a[@y:b='&']x%", api.ErrPercent}, {"z:a[@y:b='&']x%ff", api.ErrUTF}, {"z:a[@y:b='&']x", api.ErrStep}, {"z:a[@y:b='&']", api.ErrPrefix}, {"p:a[@y:b='&']", api.ErrPrefix}, {"p:a[@q:b='&']", api.ErrRef}}
	for _, x := range l {
		wrong(t, x.s, x.e)
		wrong(t, "a/"+x.s, x.e)
		// The error of an earlier step goes ahead of a later one's.
		for _, y := range l {
			wrong(t, x.s+"/"+y.s, x.e)
			wrong(t, "a/"+x.s+"/b/"+y.s+"/c", x.e)
		}
		for _, last := range []string{"@", "@1", "@z:b", "@b", "@%", "namespace::*", "namespace::*[1]", ""} {
			wrong(t, x.s+"/"+last, x.e)
		}
		wrong(t, x.s+strings.Repeat("/a", 16), api.ErrLong)
		wrong(t, strings.Repeat("a/", 16)+x.s, api.ErrLong)
	}
	for _, s := range []string{"z:a[0]", "z:a[@b=x]", "z:a[@b='x'", "z:a[1][2]", "z:a[@1='x']", "a[@z:b=x]", "a[@z:b='x']x", "a[@b='&'", "a[@b='&']&", "z:1"} {
		wrong(t, s, api.ErrStep)
	}
	// Of one error the step's name and the attribute's can't be told apart by their numbers, but by the value's.
	wrong(t, "z:a[@b='&']", api.ErrPrefix)
	wrong(t, "a[@z:b='&']", api.ErrPrefix)
	wrong(t, "*[@z:b='&']", api.ErrPrefix)
	wrong(t, "*[@b='&']", api.ErrRef)
}
