package field_test

import (
	"slices"
	"strconv"
	"strings"
	"testing"

	"watchbill/api"
	"watchbill/field"
)

// params: of names and values in turn.
func params(l ...string) []api.Param {
	var out []api.Param
	for i := 0; i < len(l); i += 2 {
		out = append(out, api.Param{Name: l[i], Value: l[i+1]})
	}
	return out
}

// printsType: a type must be printed so.
func printsType(t *testing.T, want, typ string, l ...api.Param) {
	t.Helper()
	if s, e := field.PrintType(typ, l...); s != want || e != api.OK {
		t.Errorf("PrintType(%.300q, %.300q) = %.300q, %v, not %.300q", typ, l, s, e, want)
	}
}

// refusesType: a type must not be printed.
func refusesType(t *testing.T, want api.Errno, typ string, l ...api.Param) {
	t.Helper()
	if s, e := field.PrintType(typ, l...); s != "" || e != want {
		t.Errorf("PrintType(%.300q, %.300q) = %.300q, %v, not %v", typ, l, s, e, want)
	}
}

// parsesType: a text must be parsed so.
func parsesType(t *testing.T, s, want string, params ...api.Param) {
	t.Helper()
	typ, l, e := field.ParseType(s)
	if typ != want || !slices.Equal(l, params) || e != api.OK {
		t.Errorf("ParseType(%.300q) = %.300q, %.300q, %v, not %.300q, %.300q", s, typ, l, e, want, params)
	}
}

// wrongType: a text must not be parsed.
func wrongType(t *testing.T, s string, want api.Errno) {
	t.Helper()
	if typ, l, e := field.ParseType(s); typ != "" || len(l) != 0 || e != want {
		t.Errorf("ParseType(%.300q) = %.300q, %.300q, %v, not %v", s, typ, l, e, want)
	}
}

// tokenBytes: the bytes of a token.
func tokenBytes(c byte) bool {
	return c >= 33 && c <= 126 && !strings.ContainsRune(`()<>@,;:\"/[]?=`, rune(c))
}

func TestToken(t *testing.T) { // P7.3
	count := 0
	for i := range 256 {
		c, want := string([]byte{byte(i)}), tokenBytes(byte(i))
		for _, s := range []string{c, c + "a", "a" + c, "a" + c + "b", c + c} {
			if field.Token(s) != want {
				t.Errorf("Token(%q) = %v", s, !want)
			}
		}
		if want {
			count++
		}
	}
	if count != 94-15 {
		t.Errorf("%d bytes may stand in a token", count)
	}
	for s, want := range map[string]bool{"": false, "wb1": true, "a.b-c_d+e": true, "'x'": true, "!#$%&*^`{|}~": true, "\u00e9": false, xs(5000): true, xs(5000) + "=": false} {
		if field.Token(s) != want {
			t.Errorf("Token(%.300q) = %v", s, !want)
		}
	}
}

func TestParam(t *testing.T) { // P7.3
	l := params("A", "1", "b-C", "2", "a", "3", "", "4", "s", "5", "k", "6", "\xff", "7", "e", "")
	for _, x := range []struct{ name, want string }{{"a", "1"}, {"A", "1"}, {"B-c", "2"}, {"b-c", "2"}, {"", "4"}, {"S", "5"}, {"K", "6"}, {"\xff", "7"}, {"E", ""}} {
		if v, ok := field.Param(l, x.name); v != x.want || !ok {
			t.Errorf("Param(%q) = %q, %v, not %q", x.name, v, ok, x.want)
		}
	}
	for _, name := range []string{"x", "b", "b-cc", "a ", "\u017f", "\u212a", "\xfe", "\ufffd"} {
		if v, ok := field.Param(l, name); v != "" || ok {
			t.Errorf("Param(%q) = %q, %v, not false", name, v, ok)
		}
	}
	if v, ok := field.Param(nil, ""); v != "" || ok {
		t.Errorf("Param of no parameters = %q, %v, not false", v, ok)
	}
}

func TestPrintType(t *testing.T) { // P7.4
	printsType(t, "text/xml", "text/xml")
	printsType(t, "Text/XML; A=B", "Text/XML", params("A", "B")...)
	printsType(t, `multipart/related; type="application/rlmi+xml"; start="<rlmi>"; boundary=wb1`, "multipart/related",
		params("type", "application/rlmi+xml", "start", "<rlmi>", "boundary", "wb1")...)
	printsType(t, `a/b; c=""; d="\""; e="\\"; f="\\\""; g="\"\\"; h="\\\\"`, "a/b", params("c", "", "d", `"`, "e", `\`, "f", `\"`, "g", `"\`, "h", `\\`)...)
	printsType(t, "a/b; c=\" \"; d=\"\t\"; e=\"a b\"; f=\"'\t;=,\"; g='", "a/b", params("c", " ", "d", "\t", "e", "a b", "f", "'\t;=,", "g", "'")...)
	printsType(t, "a/b"+strings.Repeat("; c=d", 50), "a/b", slices.Repeat(params("c", "d"), 50)...)
	printsType(t, xs(2000)+"/"+xs(3000)+"; "+xs(4000)+"="+xs(5000), xs(2000)+"/"+xs(3000), params(xs(4000), xs(5000))...)
}

func TestPrintTypeOfTypes(t *testing.T) { // P7.4
	for i := range 256 {
		c := string([]byte{byte(i)})
		for _, typ := range []string{c + "/x", "x/" + c, "a" + c + "/x", "x/" + c + "b", "a" + c + "b/x", "x/a" + c} {
			if tokenBytes(byte(i)) {
				printsType(t, typ, typ)
			} else {
				refusesType(t, api.ErrType, typ)
			}
		}
	}
	for _, typ := range []string{"", "/", "a", "a/", "/b", "a//b", "a/b/", "/a/b", "a/b/c", " a/b", "a/b ", "a /b", "a/ b", "a/\tb", "a/b;", "a/b; c=d", "a\\b", "a/b\r\n", "a/\u00e9"} {
		refusesType(t, api.ErrType, typ)
		refusesType(t, api.ErrType, typ, params("", "\n")...) // ahead of what its parameters are
	}
}

func TestPrintTypeOfParameters(t *testing.T) { // P7.4
	for i := range 256 {
		c := string([]byte{byte(i)})
		for _, s := range []string{c, "a" + c, c + "b", "a" + c + "b"} {
			if tokenBytes(byte(i)) {
				printsType(t, "a/b; "+s+"=x", "a/b", params(s, "x")...)
				printsType(t, "a/b; x="+s, "a/b", params("x", s)...)
				continue
			}
			refusesType(t, api.ErrName, "a/b", params(s, "x")...)
			switch {
			case c == `"` || c == `\`:
				printsType(t, `a/b; x="`+strings.Replace(s, c, `\`+c, 1)+`"`, "a/b", params("x", s)...)
			case textBytes(byte(i)):
				printsType(t, `a/b; x="`+s+`"`, "a/b", params("x", s)...)
			default:
				refusesType(t, api.ErrForm, "a/b", params("x", s)...)
			}
		}
	}
	refusesType(t, api.ErrName, "a/b", params("", "x")...)
	refusesType(t, api.ErrName, "a/b", params("", "\n")...)
	refusesType(t, api.ErrName, "a/b", params("c", "d", "", "x")...)
	refusesType(t, api.ErrForm, "a/b", params("c", "d", "e", "\n")...)
	refusesType(t, api.ErrForm, "a/b", params("c", "d", "e", "f\u00e9")...)
	refusesType(t, api.ErrName, "a/b", params("c", "\n", "e f", "g")...) // the promise names it first
}

func TestParseType(t *testing.T) { // P7.4
	parsesType(t, "text/xml", "text/xml")
	parsesType(t, `Text/XML; a="b\"c"`, "text/xml", params("a", `b"c`)...)
	parsesType(t, `MULTIPART/Related;TYPE="Application/RLMI+xml";Start="<rlmi>";boundary=WB1`, "multipart/related",
		params("type", "Application/RLMI+xml", "start", "<rlmi>", "boundary", "WB1")...)
	parsesType(t, `a/b;c="";d="\\";e="\"";f="\\\"";g=";";h="="`, "a/b", params("c", "", "d", `\`, "e", `"`, "f", `\"`, "g", ";", "h", "=")...)
	parsesType(t, "!#$%&'*+-.^_`{|}~/0", "!#$%&'*+-.^_`{|}~/0")
	// Blanks about each ; and =, and at the ends.
	parsesType(t, " \ta/b", "a/b")
	parsesType(t, "a/b\t ", "a/b")
	parsesType(t, " a/b ", "a/b")
	parsesType(t, "a/b ;c=d", "a/b", params("c", "d")...)
	parsesType(t, "a/b; \tc=d", "a/b", params("c", "d")...)
	parsesType(t, "a/b;c =d", "a/b", params("c", "d")...)
	parsesType(t, "a/b;c= d", "a/b", params("c", "d")...)
	parsesType(t, "a/b;c=d ", "a/b", params("c", "d")...)
	parsesType(t, "a/b \t;\t c \t=\t d \t;\t e\t = \"f\" \t; g=h\t ", "a/b", params("c", "d", "e", "f", "g", "h")...)
	parsesType(t, "a/b;c=\" \td\t \"", "a/b", params("c", " \td\t ")...)
}

func TestParseTypeOfWhatIsNoType(t *testing.T) { // P7.4
	for _, s := range []string{"", " ", "/", "a", "a/", "/b", "a//b", "a /b", "a/ b", "a\t/\tb", "a;b", "a;b=c/d", ";", "\r\na/b", "\na/b", "\x00a/b", "a\\b", "\"a/b\"", "(a)/b", "a/(b)", "a:b/c", "\u00a0a/b", "\u00e9/b", "a/\u00e9", "a,b/c", " a", "a/;c=d"} {
		wrongType(t, s, api.ErrType)
		wrongType(t, s+"\n", api.ErrType)
	}
	for i := range 256 {
		c := string([]byte{byte(i)})
		if tokenBytes(byte(i)) {
			lower := strings.ToLower(c)
			parsesType(t, c+"/x", lower+"/x")
			parsesType(t, "x/"+c, "x/"+lower)
			parsesType(t, "X"+c+"/X"+c, "x"+lower+"/x"+lower)
			continue
		}
		wrongType(t, c+"/x", api.ErrType)
		wrongType(t, "x/"+c, api.ErrType)
		wrongType(t, "a"+c+"/x", api.ErrType)
		if c != ";" && c != " " && c != "\t" {
			wrongType(t, "x/a"+c, api.ErrForm)
		}
	}
}

func TestParseTypeOfWhatIsNoParameters(t *testing.T) { // P7.4
	for _, s := range []string{
		"/", "/c", " c", ",", "\r\n", "\n", "\x00", "\u00a0", "=", "\"", "c=d",
		";", " ;", "; ", ";;", ";c", ";c ", ";c;", ";c;d=e", ";c=", ";c= ", ";=", ";=d", "; =d", ";c=;", ";c==d", ";c=d=e", ";c=d;", ";c=d; ", ";c=d;;e=f", ";;c=d", ";c=d e", ";c=d e=f", ";c=d,e=f", ";c d=e", ";c=d/e", ";c/d=e", ";c=(d)", ";\"c\"=d",
		`;c="`, `;c="d`, `;c="\`, `;c="\"`, `;c="\\`, `;c="d\`, `;c="d;e=f`, `;c=""d`, `;c="d"e`, `;c="d""e"`, `;c="d"e=f`, `;c=d"e"`, `;c=d"`, `;c=d\`, `;c=\d`, `;c=\"d\"`, `;c=\`, `;c='d e'`, `;c="\d"`, `;c="\\\"`, `;c="\ "`, `;c="\;"`, `;c="""`, `;c="d" "e"`, `;c="d"/`, `;c="d"=`,
		";c=\"\n\"", ";c=\"\r\n \"", ";c=\"\x00\"", ";c=\"\x1f\"", ";c=\"\x7f\"", ";c=\"\u00e9\"", ";c=\"\xff\"", ";c=\"\\\n\"", ";c=d\r\n", ";c=\r\nd", ";\r\n c=d", ";c\n=d", ";\u00e9=d", ";c=\u00e9", "\r\n;c=d",
		";c=d;c=d", ";c=d;C=e", ";A=b;a=\"b\"", ";a=b;c=d;a=e", ";aB=c;d=e;Ab=f", ";a=b;a",
	} {
		wrongType(t, "a/b"+s, api.ErrForm)
	}
	parsesType(t, "a/b;c=d;cc=d;c-=d;k=1;s=2", "a/b", params("c", "d", "cc", "d", "c-", "d", "k", "1", "s", "2")...)
}

func TestParseTypeOfEachByte(t *testing.T) { // P7.4
	for i := range 256 {
		c := string([]byte{byte(i)})
		name, value := "a/b;x"+c+"=d", "a/b;c=x"+c
		in, escaped := `a/b;c="x`+c+`y"`, `a/b;c="x\`+c+`y"`
		switch {
		case tokenBytes(byte(i)):
			parsesType(t, name, "a/b", params("x"+strings.ToLower(c), "d")...)
			parsesType(t, value, "a/b", params("c", "x"+c)...)
		case c == " " || c == "\t": // about = and at the end
			parsesType(t, name, "a/b", params("x", "d")...)
			parsesType(t, value, "a/b", params("c", "x")...)
		default:
			wrongType(t, name, api.ErrForm)
			wrongType(t, value, api.ErrForm)
		}
		switch {
		case c == `"` || c == `\`:
			parsesType(t, escaped, "a/b", params("c", "x"+c+"y")...)
			wrongType(t, in, api.ErrForm)
		case textBytes(byte(i)):
			parsesType(t, in, "a/b", params("c", "x"+c+"y")...)
			wrongType(t, escaped, api.ErrForm)
		default:
			wrongType(t, in, api.ErrForm)
			wrongType(t, escaped, api.ErrForm)
		}
	}
}

func TestParseTypeOfTextsCutOff(t *testing.T) { // P7.4
	whole := `a/b;c="d\"\\e;f=g"`
	parsesType(t, whole, "a/b", params("c", `d"\e;f=g`)...)
	for at := range len(whole) {
		switch {
		case at < 3:
			wrongType(t, whole[:at], api.ErrType)
		case at == 3:
			parsesType(t, whole[:at], "a/b")
		default:
			wrongType(t, whole[:at], api.ErrForm)
		}
	}
}

func TestManyParameters(t *testing.T) { // P7.4, P7.5
	var l []api.Param
	for i := range 20000 {
		l = append(l, params("p"+strconv.Itoa(i), strings.Repeat(`\`, i%5))...)
	}
	s, e := field.PrintType("a/b", l...)
	if e != api.OK {
		t.Fatal(e)
	}
	parsesType(t, s, "a/b", l...)
	wrongType(t, s+"; P19999=x", api.ErrForm)
	wrongType(t, s+"; P0=x", api.ErrForm)
}
