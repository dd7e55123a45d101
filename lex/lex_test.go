package lex_test

import (
	"fmt"
	"reflect"
	"slices"
	"strconv"
	"strings"
	"testing"

	"watchbill/api"
	"watchbill/lex"
	"watchbill/utf"
)

// start, empty, end, text: tokens; attributes are told by names and values in turn.
func start(at int, name string, attrs ...string) api.Token {
	return api.Token{Kind: api.TokStart, At: at, Name: name, Attrs: raws(attrs...)}
}

func empty(at int, name string, attrs ...string) api.Token {
	return api.Token{Kind: api.TokEmpty, At: at, Name: name, Attrs: raws(attrs...)}
}

func end(at int, name string) api.Token { return api.Token{Kind: api.TokEnd, At: at, Name: name} }

func text(at int, s string) api.Token { return api.Token{Kind: api.TokText, At: at, Text: s} }

// raws: attributes as they stand, of names and values in turn.
func raws(l ...string) []api.Raw {
	var out []api.Raw
	for i := 0; i < len(l); i += 2 {
		out = append(out, api.Raw{Name: l[i], Value: l[i+1]})
	}
	return out
}

// same: are these the same tokens? (An empty list of attributes may be nil or not.)
func same(a, b []api.Token) bool {
	return slices.EqualFunc(a, b, func(x, y api.Token) bool {
		like := slices.Equal(x.Attrs, y.Attrs)
		x.Attrs, y.Attrs = nil, nil
		return like && reflect.DeepEqual(x, y)
	})
}

// shown: tokens as a text that isn't too long.
func shown(l []api.Token) string { return fmt.Sprintf("%.500s", fmt.Sprintf("%+v", l)) }

// tokens: a document must have just these.
func tokens(t *testing.T, s string, want ...api.Token) {
	t.Helper()
	was := strings.Clone(s)
	if got, at, e := lex.Tokens(s); !same(got, want) || at != 0 || e != api.OK {
		t.Errorf("Tokens(%.200q) = %s, %d, %v, not %s", s, shown(got), at, e, shown(want))
	}
	if s != was {
		t.Errorf("what was handed in is %.200q, was %.200q", s, was)
	}
}

// wrong: a document must be wrong there, and so.
func wrong(t *testing.T, s string, at int, e api.Errno) {
	t.Helper()
	was := strings.Clone(s)
	if l, gotAt, gotE := lex.Tokens(s); len(l) != 0 || gotAt != at || gotE != e {
		t.Errorf("Tokens(%.200q) = %s, %d, %v, not %d, %v", s, shown(l), gotAt, gotE, at, e)
	}
	if s != was {
		t.Errorf("what was handed in is %.200q, was %.200q", s, was)
	}
}

// unescaped: a text must stand for these, as a text and as an attribute's value.
func unescaped(t *testing.T, s, asText, asValue string) {
	t.Helper()
	was := strings.Clone(s)
	for _, attr := range []bool{false, true} {
		want := asText
		if attr {
			want = asValue
		}
		if got, at, e := lex.Unescape(s, attr); got != want || at != 0 || e != api.OK {
			t.Errorf("Unescape(%.200q, %v) = %.200q, %d, %v, not %.200q", s, attr, got, at, e, want)
		}
	}
	if s != was {
		t.Errorf("what was handed in is %.200q, was %.200q", s, was)
	}
}

// noReference: a text must be wrong at that place, as a text and as an attribute's value.
func noReference(t *testing.T, s string, at int) {
	t.Helper()
	for _, attr := range []bool{false, true} {
		if got, gotAt, e := lex.Unescape(s, attr); got != "" || gotAt != at || e != api.ErrRef {
			t.Errorf("Unescape(%.200q, %v) = %.200q, %d, %v, not %d", s, attr, got, gotAt, e, at)
		}
	}
}

// long: a word, or a name, of so many bytes.
func long(n int) string { return strings.Repeat("n", n) }

// attributes: so many of them, with a blank ahead of each; each has 8 bytes.
func attributes(n int) string {
	var b strings.Builder
	for i := range n {
		b.WriteString(" x" + strconv.Itoa(100+i) + "=''")
	}
	return b.String()
}

func TestUnescapeTellsReferencesByName(t *testing.T) { // P3.1
	for s, want := range map[string]string{
		"": "", "a": "a", ";": ";", "lt;": "lt;", "#65;": "#65;", " a ": " a ", "<>\"'": "<>\"'", "]]>": "]]>",
		"&lt;": "<", "&gt;": ">", "&amp;": "&", "&quot;": "\"", "&apos;": "'",
		"a&lt;b&gt;c&amp;d&quot;e&apos;f": "a<b>c&d\"e'f",
		"&lt;&lt;;lt;":                    "<<;lt;",
		"&amp;lt;&amp;#65;&amp;amp;":      "&lt;&#65;&amp;", // what a reference stands for begins none
		"\u00e9&lt;\U00010000":            "\u00e9<\U00010000",
		"\xff&lt;\xc3\x00&gt;\x01":        "\xff<\xc3\x00>\x01", // other bytes stay as they are
	} {
		unescaped(t, s, want, want)
	}
	for _, s := range []string{
		"&", "&&", "&&lt;", "& lt;", "&lt", "&lt ;", "&l", "&l;", "&ltt;", "&lt&gt;", "&LT;", "&Lt;", "&AMP;", "&nbsp;", "&;", "&lt\n;",
		"&\xff;", "&lt\u00a0;", "&;lt;", "&am p;", "&amp&", "&l&t;", "&apo;", "&quo;", "&a;", "&g;", "&\u00e9;", "&%lt;", "&l\rt;",
	} {
		noReference(t, s, 0)
		noReference(t, "a"+s, 1)
		noReference(t, "\u00e9&lt;\r\n&#65;"+s, 13)
		noReference(t, s+"&", 0)
	}
}

func TestUnescapeTellsReferencesByNumber(t *testing.T) { // P3.1
	for s, want := range map[string]string{
		"&#65;&#x41;": "AA", "&#x6a;&#x6A;&#x4f;&#x4F;": "jjOO", "&#0065;&#x000041;": "AA", "&#32;&#x20;": "  ",
		"&#9;&#10;&#13;&#x9;&#xa;&#xA;&#xd;&#xD;":  "\t\n\r\t\n\n\r\r", // told by references, they stay
		"&#38;lt;&#x26;#65;":                       "&lt;&#65;",
		"&#60;&#62;&#34;&#39;":                     "<>\"'",
		"&#233;&#xe9;&#x4e2d;&#x1F600;":            "\u00e9\u00e9\u4e2d\U0001f600",
		"&#" + strings.Repeat("0", 99999) + "65;":  "A",
		"&#x" + strings.Repeat("0", 99999) + "41;": "A",
		"&#65;5;": "A5;", "5&#65;": "5A",
	} {
		unescaped(t, s, want, want)
	}
	for _, s := range []string{
		"&#", "&#;", "&#x", "&#x;", "&#X41;", "&#65", "&#x41", "&#65 ;", "&# 65;", "&#x 41;", "& #65;", "&#-65;", "&#+65;", "&#x-41;", "&#x+41;",
		"&#4a;", "&#a;", "&#6_5;", "&#x4_1;", "&#0x41;", "&#x0x41;", "&#xx41;", "&#x4g;", "&#x4G;", "&#x4@;", "&#x4`;", "&#x4/;", "&#x4:;", "&#6/;", "&#6:;", "&#6.0;", "&#1e2;", "&#65.;",
		"&##65;", "&#&#65;", "&#6&#65;", "&#\u0661;", "&#\uff11;", "&#65\x00;", "&#\xff;", "&65;", "&x41;", "&#lt;", "&#xlt;", "&#b1;", "&#o7;",
		"&#1114112;", "&#x110000;", "&#9999999999;", "&#2147483713;", "&#4294967361;", "&#x100000041;", "&#18446744073709551681;", "&#x10000000000000041;", "&#340282366920938463463374607431768211521;",
		"&#" + strings.Repeat("9", 99999) + ";", "&#x" + strings.Repeat("f", 99999) + ";", "&#" + strings.Repeat("6", 99999),
	} {
		noReference(t, s, 0)
		noReference(t, "a"+s, 1)
		noReference(t, "\u00e9&lt;\r\n&#65;"+s, 13)
	}
}

func TestUnescapeTakesJustXMLsSigns(t *testing.T) { // P3.1
	for _, r := range []rune{9, 10, 13, 32, 55295, 57344, 65533, 65536, 1114111} {
		unescaped(t, "&#"+strconv.Itoa(int(r))+";", string(r), string(r))
		unescaped(t, "&#x"+strconv.FormatInt(int64(r), 16)+";", string(r), string(r))
	}
	for _, r := range []int{0, 1, 8, 11, 12, 14, 31, 55296, 57343, 65534, 65535, 1114112} {
		noReference(t, "&#"+strconv.Itoa(r)+";", 0)
		noReference(t, "&#x"+strconv.FormatInt(int64(r), 16)+";", 0)
	}
	for r := rune(0); r < 0x110100; r++ {
		for _, s := range []string{"&#" + strconv.Itoa(int(r)) + ";", "&#x" + strings.ToUpper(strconv.FormatInt(int64(r), 16)) + ";"} {
			got, at, e := lex.Unescape(s, false)
			if is := utf.Char(r); is && got != utf.Put(r) || is != (e == api.OK) || at != 0 {
				t.Fatalf("Unescape(%q) = %q, %d, %v", s, got, at, e)
			}
		}
	}
}

func TestUnescapeTellsLineEnds(t *testing.T) { // P3.1
	for _, x := range []struct{ s, asText, asValue string }{
		{"\n", "\n", " "}, {"\r", "\n", " "}, {"\r\n", "\n", " "}, {"\t", "\t", " "}, {" ", " ", " "},
		{"\n\r", "\n\n", "  "}, {"\r\r", "\n\n", "  "}, {"\r\r\n", "\n\n", "  "}, {"\r\n\n", "\n\n", "  "}, {"\r\n\r\n", "\n\n", "  "}, {"\r\n\r", "\n\n", "  "}, {"\n\n", "\n\n", "  "},
		{"a\r\nb\rc\nd\te f", "a\nb\nc\nd\te f", "a b c d e f"},
		{"\t\t \t", "\t\t \t", "    "},
		{"&#13;\n", "\r\n", "\r "}, {"&#xD;\r\n", "\r\n", "\r "}, {"\r&#10;", "\n\n", " \n"}, {"\r&#13;\n", "\n\r\n", " \r "}, {"&#13;&#10;", "\r\n", "\r\n"},
		{"\r&lt;\n", "\n<\n", " < "}, {"&#9;\t", "\t\t", "\t "},
		{"\u0085\u2028\v\f", "\u0085\u2028\v\f", "\u0085\u2028\v\f"}, // no others
	} {
		unescaped(t, x.s, x.asText, x.asValue)
	}
	noReference(t, "\r\n\r\n\t&", 5) // places are those of what was handed in
}

func TestUnescapeTellsTheFirstWrongReference(t *testing.T) { // P3.1
	for s, at := range map[string]int{
		"&&": 0, "&lt;&&": 4, "&a;&b;": 0, "&lt;&a;&b;": 4, "a&lt;b&#0;c&d;": 6, "&#65;&#x41;& ": 11, "&lt;&lt": 4, "&amp;&": 5, "&lt;;&": 5,
	} {
		noReference(t, s, at)
	}
	many := strings.Repeat("&lt;", 100000)
	unescaped(t, many, strings.Repeat("<", 100000), strings.Repeat("<", 100000)) // as long as one likes
	noReference(t, many+"&", 400000)
}

func TestTokensTellsOrdinaryDocuments(t *testing.T) { // P3.2
	tokens(t, "")
	tokens(t, "a", text(0, "a"))
	tokens(t, "<a/>", empty(0, "a"))
	tokens(t, "<a b='1'>x&lt;</a>", start(0, "a", "b", "1"), text(9, "x<"), end(14, "a"))
	tokens(t, "<a><b>1</b><b/>\n</a>", start(0, "a"), start(3, "b"), text(6, "1"), end(7, "b"), empty(11, "b"), text(15, "\n"), end(16, "a"))
	// Tags needn't fit one another here, and names needn't be any.
	tokens(t, "</a><b><1/><-:!?a></\u00e9\x7f]>", end(0, "a"), start(4, "b"), empty(7, "1"), start(11, "-:!?a"), end(18, "\u00e9\x7f]"))
	tokens(t, "<a a='1' a='2'/>", empty(0, "a", "a", "1", "a", "2"))
	tokens(t, "\ufeff<a/>", text(0, "\ufeff"), empty(3, "a"))
	tokens(t,
		"<?xml version='1.0' encoding=\"Utf-8\" standalone='yes' ?>\n<!-- c --><a b='1' p:c=\"x\ty\"><![CDATA[<&\r\n]]>t&lt;</a ><?p q?><e/>",
		text(56, "\n"), start(67, "a", "b", "1", "p:c", "x y"), text(86, "<&\n"), text(102, "t<"), end(107, "a"), empty(119, "e"))
}

func TestTokensTellsTexts(t *testing.T) { // P3.2, 8
	tokens(t, "a>b\"c'd=e/f]g]]h] ]>i]>", text(0, "a>b\"c'd=e/f]g]]h] ]>i]>"))
	tokens(t, "a\r\nb\rc\nd\te&#13;\n", text(0, "a\nb\nc\nd\te\r\n"))
	tokens(t, "x<a/>y<!---->z<?p?>&amp;<a/>", text(0, "x"), empty(1, "a"), text(5, "y"), text(13, "z"), text(19, "&"), empty(24, "a"))
	tokens(t, "\r<!---->\n<a/>", text(0, "\n"), text(8, "\n"), empty(9, "a")) // two line ends
	tokens(t, "]]&gt;]&#93;>", text(0, "]]>]]>"))
	tokens(t, "]]<a/>>", text(0, "]]"), empty(2, "a"), text(6, ">"))
	tokens(t, "]<!---->]><?p?>", text(0, "]"), text(8, "]>"))
	wrong(t, "]]>", 0, api.ErrChar)
	wrong(t, "a]]>b", 1, api.ErrChar)
	wrong(t, "]]]>", 1, api.ErrChar)
	wrong(t, "<a/>a]]>]]>", 5, api.ErrChar)
	wrong(t, "\r\n\u00e9&#13;]]>", 9, api.ErrChar)
	wrong(t, "]]>&", 0, api.ErrChar)
	wrong(t, "&]]>", 0, api.ErrRef)
	wrong(t, "a&b;]]>", 1, api.ErrRef)
	wrong(t, "a&#]]>65;", 1, api.ErrRef)
	wrong(t, "&lt;]]>&", 4, api.ErrChar)
	wrong(t, "&", 0, api.ErrRef)
	wrong(t, "a&<", 1, api.ErrRef)
	wrong(t, "a&lt<b;>", 1, api.ErrRef) // a reference ends ahead of the <
	wrong(t, "<a/>\r\n&lt;&#0;", 10, api.ErrRef)
	wrong(t, "<a>&x;</a", 3, api.ErrRef)
}

func TestTokensTellsTheDeclarationOfXML(t *testing.T) { // P3.2, 1
	for _, s := range []string{
		"<?xml version='1.0'?>", "<?xml version=\"1.0\"?>", "<?xml\tversion='1.0'?>", "<?xml\nversion='1.0'?>", "<?xml\rversion='1.0'?>", "<?xml \r\n\t version \t= \n'1.0' \r ?>",
		"<?xml version='1.0' encoding='utf-8'?>", "<?xml version='1.0' encoding=\"UTF-8\"?>", "<?xml version='1.0' encoding='uTf-8' ?>", "<?xml version='1.0'\tencoding\n=\r'UtF-8'?>",
		"<?xml version='1.0' standalone='yes'?>", "<?xml version='1.0' standalone=\"no\"?>", "<?xml version='1.0'\n\nstandalone = 'no'\t?>",
		"<?xml version='1.0' encoding='utf-8' standalone='yes'?>", "<?xml version=\"1.0\" encoding='utf-8'\nstandalone=\"no\" ?>",
	} {
		tokens(t, s)
		tokens(t, s+"\r\n<a/>", text(len(s), "\n"), empty(len(s)+2, "a"))
		for _, wrongs := range []string{s[:len(s)-1], s[:len(s)-2], s[:len(s)-2] + " ? >", s[:len(s)-2] + ">", s[:len(s)-2] + "x?>", s[:len(s)-2] + " x='1'?>", s[:len(s)-2] + "=?>"} {
			wrong(t, wrongs, 0, api.ErrForm)
			wrong(t, wrongs+"<a", 0, api.ErrForm)
		}
		for _, ahead := range []string{" ", "\n", "\ufeff", "<a/>", "<!---->", s} { // elsewhere it is none
			wrong(t, ahead+s, len(ahead), api.ErrName)
		}
	}
	for _, s := range []string{
		"<?xml ?>", "<?xml ", "<?xml \n", "<?xml x?>", "<?xml version?>", "<?xml version=?>", "<?xml version=", "<?xml version= ", "<?xml version=x1.0x?>", "<?xml version=x1.0x encoding='utf-8'?>", "<?xml version", "<?xml version='", "<?xml version='1.0'", "<?xml version='1.0' ", "<?xml version=1.0?>", "<?xml version'1.0'?>", "<?xml version==\"1.0\"?>", "<?xml version='1.0\"?>", "<?xml version=\"1.0'?>", "<?xml version='1.0?>",
		"<?xml version='1.1'?>", "<?xml version='1'?>", "<?xml version='1.00'?>", "<?xml version=''?>", "<?xml version=' 1.0'?>", "<?xml version='1.0 '?>", "<?xml version='1&#46;0'?>", "<?xml Version='1.0'?>", "<?xml VERSION='1.0'?>", "<?xml versions='1.0'?>", "<?xml ver sion='1.0'?>", "<?xml xversion='1.0'?>",
		"<?xml encoding='utf-8'?>", "<?xml standalone='yes'?>", "<?xml encoding='utf-8' version='1.0'?>",
		"<?xml version='1.0'encoding='utf-8'?>", "<?xml version='1.0'standalone='yes'?>", "<?xml version='1.0' encoding='utf-8'standalone='yes'?>",
		"<?xml version='1.0' encoding='latin1'?>", "<?xml version='1.0' encoding='utf8'?>", "<?xml version='1.0' encoding='utf-16'?>", "<?xml version='1.0' encoding=''?>", "<?xml version='1.0' encoding='utf-8 '?>", "<?xml version='1.0' encoding=utf-8?>", "<?xml version='1.0' encoding'utf-8'?>", "<?xml version='1.0' Encoding='utf-8'?>", "<?xml version='1.0' encoding?>", "<?xml version='1.0' encoding=?>", "<?xml version='1.0' encoding='utf-8?>", "<?xml version='1.0' encoding='utf-8\"?>",
		"<?xml version='1.0' standalone='YES'?>", "<?xml version='1.0' standalone='No'?>", "<?xml version='1.0' standalone=''?>", "<?xml version='1.0' standalone='yesno'?>", "<?xml version='1.0' standalone=yes?>", "<?xml version='1.0' standalone='yes\"?>", "<?xml version='1.0' standalone='true'?>", "<?xml version='1.0' Standalone='yes'?>",
		"<?xml version='1.0' standalone='no' encoding='utf-8'?>", "<?xml version='1.0' version='1.0'?>", "<?xml version='1.0' encoding='utf-8' encoding='utf-8'?>", "<?xml version='1.0' standalone='no' standalone='no'?>", "<?xml version='1.0' encoding='utf-8' version='1.0'?>",
		"<?xml version='1.0'/>", "<?xml version='1.0'>", "<?xml version='1.0' <?p?>", "<?xml version='1.0', encoding='utf-8'?>", "<?xml version\u00a0='1.0'?>", "<?xml \u00a0version='1.0'?>", "<?xml version='1.0'<!---->?>", "<?xml version&#61;'1.0'?>", "<?xml <!DOCTYPE>", "<?xml version='1.0' encoding='utf\u20108'?>",
	} {
		wrong(t, s, 0, api.ErrForm)
		wrong(t, s+"<a", 0, api.ErrForm)
	}
	// Without that blank it is none.
	for _, s := range []string{"<?xml", "<?xml?>", "<?xml?", "<?xml='1.0'?>", "<?xml/>", "<?xml:a ?>", "<?xml\u00a0version='1.0'?>", "<?XML version='1.0'?>", "<?Xml version='1.0'?>", "<? xml version='1.0'?>"} {
		wrong(t, s, 0, api.ErrName)
	}
	tokens(t, "<?xml-a ?>")
	wrong(t, "<?xmlversion='1.0'?>", 0, api.ErrForm)
	wrong(t, "<xml version='1.0'?>", 18, api.ErrForm)
	tokens(t, "<xml version='1.0'/>", empty(0, "xml", "version", "1.0"))
}

func TestTokensGoesBehindInstructions(t *testing.T) { // P3.2, 2
	n64, e32 := long(64), strings.Repeat("\u00e9", 32)
	for _, s := range []string{
		"<?a?>", "<?a ?>", "<?a\t?>", "<?a\n?>", "<?a\r?>", "<?a b c?>", "<?a  ?>", "<?a ??>", "<?a ? > ?>", "<?a <b>&'\"<!--?>", "<?a ]]>--><?b ?>", "<?_-.1 x?>", "<?\u00e9\u4e2d\u00b7 x?>", "<?" + n64 + "?>", "<?" + n64 + " x?>", "<?" + e32 + "?>",
		"<?xm ?>", "<?ml ?>", "<?xmll ?>", "<?xml-stylesheet href='a'?>", "<?axml ?>", "<?xml1?>", "<?xml_ ?>", "<?xml.?>", "<?x-m-l?>", "<?xmL1 ?>", "<?a?>",
	} {
		tokens(t, s)
		tokens(t, s+s)
		tokens(t, "x"+s+"y", text(0, "x"), text(len(s)+1, "y"))
		tokens(t, "<a/>"+s+"?><b/>", empty(0, "a"), text(len(s)+4, "?>"), empty(len(s)+6, "b"))
	}
	for _, x := range []struct {
		s string
		e api.Errno
	}{
		{"<?", api.ErrName}, {"<??>", api.ErrName}, {"<? ?>", api.ErrName}, {"<? a?>", api.ErrName}, {"<?1?>", api.ErrName}, {"<?-a?>", api.ErrName}, {"<?.a ?>", api.ErrName}, {"<?:a?>", api.ErrName}, {"<?\u00b7?>", api.ErrName}, {"<?>", api.ErrName}, {"<?<a?>", api.ErrName}, {"<?&lt;?>", api.ErrName}, {"<?\u00d7?>", api.ErrName},
		{"<?" + long(65) + "?>", api.ErrName}, {"<?" + long(65) + " ?>", api.ErrName}, {"<?" + long(65), api.ErrName}, {"<?" + long(65) + "+", api.ErrName}, {"<?" + e32 + "1?>", api.ErrName}, {"<?" + long(63) + "\u00e9?>", api.ErrName}, {"<?" + long(129) + "?>", api.ErrName}, {"<?" + long(32000) + "?>", api.ErrName},
		{"<?XML?>", api.ErrName}, {"<?Xml ?>", api.ErrName}, {"<?xMl x?>", api.ErrName}, {"<?xmL x?>", api.ErrName}, {"<?XML", api.ErrName}, {"<?XmL+?>", api.ErrName}, {"<?XML:a?>", api.ErrName},
		{"<?a+?>", api.ErrForm}, {"<?a:b?>", api.ErrForm}, {"<?a/?>", api.ErrForm}, {"<?a>?>", api.ErrForm}, {"<?a<?>", api.ErrForm}, {"<?a='1'?>", api.ErrForm}, {"<?a\u00a0?>", api.ErrForm}, {"<?a? ?>", api.ErrForm}, {"<?a??>", api.ErrForm}, {"<?a?", api.ErrForm}, {"<?a>", api.ErrForm}, {"<?a+", api.ErrForm}, {"<?a&", api.ErrForm}, {"<?" + n64 + "+?>", api.ErrForm}, {"<?" + n64 + ":?>", api.ErrForm},
		{"<?a", api.ErrShort}, {"<?a ", api.ErrShort}, {"<?a ?", api.ErrShort}, {"<?a b>", api.ErrShort}, {"<?a b? >", api.ErrShort}, {"<?a \"?\">", api.ErrShort}, {"<?" + n64, api.ErrShort}, {"<?" + n64 + " ", api.ErrShort},
	} {
		wrong(t, x.s, 0, x.e)
		wrong(t, "x"+x.s, 1, x.e)
		wrong(t, "\u00e9<a/>"+x.s, 6, x.e)
		wrong(t, "<?p?>"+x.s, 5, x.e)
	}
}

func TestTokensGoesBehindComments(t *testing.T) { // P3.2, 3
	for _, s := range []string{"<!---->", "<!-- -->", "<!-- a - b -->", "<!--<a b=&'\"-->", "<!--->-->", "<!--?>]]>-->", "<!-- <!- -->", "<!--- -->", "<!--\r\n\t-->", "<!--\u00e9-->", "<!--<!DOCTYPE a>-->"} {
		tokens(t, s)
		tokens(t, s+s)
		tokens(t, "x"+s+"y", text(0, "x"), text(len(s)+1, "y"))
		tokens(t, "<a/>"+s+"--><b/>", empty(0, "a"), text(len(s)+4, "-->"), empty(len(s)+7, "b"))
	}
	for _, x := range []struct {
		s string
		e api.Errno
	}{
		{"<!--", api.ErrShort}, {"<!---", api.ErrShort}, {"<!-->", api.ErrShort}, {"<!--->", api.ErrShort}, {"<!-- - ->", api.ErrShort}, {"<!-- a>", api.ErrShort}, {"<!-- -", api.ErrShort}, {"<!-- ->", api.ErrShort},
		{"<!----", api.ErrForm}, {"<!-----", api.ErrForm}, {"<!----->", api.ErrForm}, {"<!-- -- -->", api.ErrForm}, {"<!-- --", api.ErrForm}, {"<!-- a --->", api.ErrForm}, {"<!-- -- ", api.ErrForm}, {"<!------>", api.ErrForm}, {"<!-- --\n>", api.ErrForm}, {"<!--<!-- -->", api.ErrForm},
		{"<!", api.ErrForm}, {"<!-", api.ErrForm}, {"<!- -", api.ErrForm}, {"<!->", api.ErrForm}, {"<! -->", api.ErrForm}, {"<! -- -->", api.ErrForm},
	} {
		wrong(t, x.s, 0, x.e)
		wrong(t, "x"+x.s, 1, x.e)
		wrong(t, "\u00e9<a/>"+x.s, 6, x.e)
		wrong(t, "<!---->"+x.s, 7, x.e)
	}
}

func TestTokensTellsSections(t *testing.T) { // P3.2, 4
	for s, want := range map[string]string{
		"": "", " ": " ", "a": "a", "<a b='": "<a b='", "&lt;&x;&": "&lt;&x;&", "]": "]", "]]": "]]", "]>": "]>", "]] >": "]] >", "]]]": "]]]", "<![CDATA[": "<![CDATA[", "<!-- -- ": "<!-- -- ", "<!DOCTYPE a>": "<!DOCTYPE a>", "&#13;": "&#13;",
		"\r\n": "\n", "\r": "\n", "\n": "\n", "\t": "\t", "\r\r\n\n\r": "\n\n\n\n", "a\r\nb\rc\nd\te": "a\nb\nc\nd\te", "\u00e9": "\u00e9",
	} {
		d := "<![CDATA[" + s + "]]>"
		tokens(t, d, text(0, want))
		tokens(t, d+d, text(0, want), text(len(d), want))
		tokens(t, "x"+d+"y", text(0, "x"), text(1, want), text(len(d)+1, "y"))
		tokens(t, "<a/>"+d+"</a>", empty(0, "a"), text(4, want), end(len(d)+4, "a"))
		wrong(t, d+"]]>", len(d), api.ErrChar)
		wrong(t, d[:len(d)-1], 0, api.ErrShort)
		wrong(t, d[:len(d)-3], 0, api.ErrShort)
		wrong(t, "\u00e9"+d[:len(d)-2], 2, api.ErrShort)
	}
	wrong(t, "<![CDATA[]>", 0, api.ErrShort)
	wrong(t, "<![CDATA[ ]] >", 0, api.ErrShort)
	wrong(t, "x<![CDATA[]]&gt;", 1, api.ErrShort)
	for _, s := range []string{"<![CDATA", "<![", "<![cdata[ ]]>", "<![CDATA [ ]]>", "<! [CDATA[ ]]>", "<![ CDATA[ ]]>", "<![CDATA<a>", "<![INCLUDE[ ]]>", "<!CDATA[ ]]>"} {
		wrong(t, s, 0, api.ErrForm)
		wrong(t, "x"+s, 1, api.ErrForm)
	}
}

func TestTokensTakesNoDocumentType(t *testing.T) { // P3.2, 5
	for _, s := range []string{"<!D", "<!DOCTYPE a>", "<!DOCTYPE", "<!D>", "<!Doctype a>", "<!D-->", "<!DATA[ ]]>"} {
		wrong(t, s, 0, api.ErrDTD)
		wrong(t, "<?xml version='1.0'?>"+s, 21, api.ErrDTD)
		wrong(t, "<!---->x"+s+"<", 8, api.ErrDTD)
	}
	for _, s := range []string{"<!", "<!d", "<!doctype a>", "<! DOCTYPE a>", "<!ELEMENT a ANY>", "<!ENTITY a 'b'>", "<!>", "<!a/>", "<!!D", "<!/D"} {
		wrong(t, s, 0, api.ErrForm)
		wrong(t, "x"+s, 1, api.ErrForm)
	}
}

func TestTokensTellsEndTags(t *testing.T) { // P3.2, 6
	for s, name := range map[string]string{
		"</a>": "a", "</a >": "a", "</a\t\n\r >": "a", "</a:b>": "a:b", "</a:b:c>": "a:b:c", "</1>": "1", "</!>": "!", "</?>": "?", "</!-->": "!--", "</[a]>": "[a]", "</\u00e9>": "\u00e9", "</\u00a0 >": "\u00a0", "</;#>": ";#", "</" + long(129) + ">": long(129), "</" + long(129) + " >": long(129),
	} {
		tokens(t, s, end(0, name))
		tokens(t, "x"+s+"y", text(0, "x"), end(1, name), text(len(s)+1, "y"))
		tokens(t, s+s, end(0, name), end(len(s), name))
	}
	for _, x := range []struct {
		s  string
		at int
		e  api.Errno
	}{
		{"</", 0, api.ErrShort}, {"</a", 0, api.ErrShort}, {"</a ", 0, api.ErrShort}, {"</a\n\n", 0, api.ErrShort}, {"</" + long(129), 0, api.ErrShort},
		{"</>", 2, api.ErrName}, {"</ >", 2, api.ErrName}, {"</ a>", 2, api.ErrName}, {"</ ", 2, api.ErrName}, {"<//", 2, api.ErrName}, {"<//a>", 2, api.ErrName}, {"</=", 2, api.ErrName}, {"</<", 2, api.ErrName}, {"</</a>", 2, api.ErrName}, {"</\"a\">", 2, api.ErrName}, {"</'a'>", 2, api.ErrName}, {"</&a;>", 2, api.ErrName}, {"</\na>", 2, api.ErrName},
		{"</" + long(130) + ">", 2, api.ErrName}, {"</" + long(130) + " >", 2, api.ErrName}, {"</" + long(130), 2, api.ErrName}, {"</" + strings.Repeat("\u00e9", 65) + ">", 2, api.ErrName}, {"</" + long(32000) + ">", 2, api.ErrName}, {"</" + long(64) + ":" + long(65) + ">", 2, api.ErrName},
		{"</a b>", 4, api.ErrForm}, {"</a b", 4, api.ErrForm}, {"</a b='1'>", 4, api.ErrForm}, {"</a/>", 3, api.ErrForm}, {"</a />", 4, api.ErrForm}, {"</a/", 3, api.ErrForm}, {"</a=", 3, api.ErrForm}, {"</a<b>", 3, api.ErrForm}, {"</a  <", 5, api.ErrForm}, {"</a\"", 3, api.ErrForm}, {"</a'>", 3, api.ErrForm}, {"</a&lt;>", 3, api.ErrForm}, {"</a \u00e9>", 4, api.ErrForm},
	} {
		wrong(t, x.s, x.at, x.e)
		wrong(t, "\u00e9"+x.s, x.at+2, x.e)
		wrong(t, "<a/></a>"+x.s, x.at+8, x.e)
	}
}

func TestTokensTellsStartTags(t *testing.T) { // P3.2, 7
	n129 := long(129)
	for _, x := range []struct {
		s     string
		name  string
		attrs []string
	}{
		{"<a", "a", nil}, {"<a:b", "a:b", nil}, {"<1", "1", nil}, {"<a!", "a!", nil}, {"<a?", "a?", nil}, {"<-", "-", nil}, {"<]]", "]]", nil}, {"<\u00e9", "\u00e9", nil}, {"<\u00a0", "\u00a0", nil}, {"<;", ";", nil}, {"<[CDATA[", "[CDATA[", nil}, {"<" + n129, n129, nil}, {"<" + long(64) + ":" + long(64), long(64) + ":" + long(64), nil},
		{"<a b='1'", "a", []string{"b", "1"}}, {"<a b=\"1\"", "a", []string{"b", "1"}}, {"<a\tb='1'", "a", []string{"b", "1"}}, {"<a\nb='1'", "a", []string{"b", "1"}}, {"<a\rb='1'", "a", []string{"b", "1"}}, {"<a \t\r\n b='1'", "a", []string{"b", "1"}},
		{"<a b ='1'", "a", []string{"b", "1"}}, {"<a b= '1'", "a", []string{"b", "1"}}, {"<a b\t\n=\r\n\"1\"", "a", []string{"b", "1"}}, {"<a b=''", "a", []string{"b", ""}}, {"<a b=\"\"", "a", []string{"b", ""}},
		{"<a b='\"'", "a", []string{"b", "\""}}, {"<a b=\"'\"", "a", []string{"b", "'"}}, {"<a b='>/>=b ]]>-->'", "a", []string{"b", ">/>=b ]]>-->"}}, {"<a b=' c=\"2\" '", "a", []string{"b", " c=\"2\" "}},
		{"<a b='1' c='2'", "a", []string{"b", "1", "c", "2"}}, {"<a b='1'\nc=\"2\"\td = ''", "a", []string{"b", "1", "c", "2", "d", ""}}, {"<a b='2' b='1' b='2'", "a", []string{"b", "2", "b", "1", "b", "2"}},
		{"<a xmlns='u' xmlns:p='v' p:q='w' 1='2' !='3' a:b:c='4'", "a", []string{"xmlns", "u", "xmlns:p", "v", "p:q", "w", "1", "2", "!", "3", "a:b:c", "4"}},
		{"<a b='\t\n\r\r\n&#9;&#10;&#13;&#xD;\n'", "a", []string{"b", "    \t\n\r\r "}}, {"<a b='&lt;&gt;&amp;&quot;&apos;&#x41;'", "a", []string{"b", "<>&\"'A"}}, {"<a b=\"&#34;\u00e9\"", "a", []string{"b", "\"\u00e9"}},
		{"<a " + n129 + "='1'", "a", []string{n129, "1"}}, {"<" + n129 + " b='1' " + n129 + "\n=''", n129, []string{"b", "1", n129, ""}},
		{"<a b='" + long(30000) + "'", "a", []string{"b", long(30000)}},
	} {
		for _, blanks := range []string{"", " ", "\t\r\n "} {
			s := x.s + blanks
			tokens(t, s+">", start(0, x.name, x.attrs...))
			tokens(t, s+"/>", empty(0, x.name, x.attrs...))
			tokens(t, "\u00e9"+s+">y", text(0, "\u00e9"), start(2, x.name, x.attrs...), text(len(s)+3, "y"))
			tokens(t, "\u00e9"+s+"/>y", text(0, "\u00e9"), empty(2, x.name, x.attrs...), text(len(s)+4, "y"))
			tokens(t, "<a>"+s+"></a>", start(0, "a"), start(3, x.name, x.attrs...), end(len(s)+4, "a"))
			wrong(t, s, 0, api.ErrShort)
			wrong(t, s+"/", 0, api.ErrShort)
			wrong(t, "x"+s, 1, api.ErrShort)
			wrong(t, s+"//>", len(s)+1, api.ErrForm)
			wrong(t, s+"/ >", len(s)+1, api.ErrForm)
			wrong(t, s+"/b='1'>", len(s)+1, api.ErrForm)
			wrong(t, "<b/>"+s+"/\u00e9", len(s)+5, api.ErrForm)
			wrong(t, s+"<b>", len(s), api.ErrForm)
			wrong(t, s+"&lt;>", len(s), api.ErrForm)
			wrong(t, s+"\">", len(s), api.ErrForm)
			wrong(t, s+"'", len(s), api.ErrForm)
			if x.attrs != nil || blanks != "" {
				wrong(t, "<b/>"+s+"=>", len(s)+4, api.ErrForm)
			}
			if x.attrs != nil && blanks == "" {
				wrong(t, s+"c='1'>", len(s), api.ErrForm) // no blank ahead
				wrong(t, s+"c", len(s), api.ErrForm)
				wrong(t, "x"+s+"\u00e9", len(s)+1, api.ErrForm)
			}
		}
	}
}

func TestTokensTellsWhereATagIsWrong(t *testing.T) { // P3.2, 7
	const short, name, form, char, ref = api.ErrShort, api.ErrName, api.ErrForm, api.ErrChar, api.ErrRef
	for _, x := range []struct {
		s  string
		at int
		e  api.Errno
	}{
		{"<", 0, short}, {"<a", 0, short}, {"<a ", 0, short}, {"<a b", 0, short}, {"<a b ", 0, short}, {"<a b=", 0, short}, {"<a b= ", 0, short}, {"<a b='", 0, short}, {"<a b='1", 0, short}, {"<a b='1\"", 0, short}, {"<a b=\"1'", 0, short}, {"<a b='1'", 0, short}, {"<a b='1' ", 0, short}, {"<a b='1' c", 0, short}, {"<a/", 0, short}, {"<a /", 0, short}, {"<a b='1'/", 0, short},
		{"<>", 1, name}, {"< ", 1, name}, {"< a>", 1, name}, {"<\ta>", 1, name}, {"<\n/>", 1, name}, {"<=", 1, name}, {"<='1'>", 1, name}, {"<<", 1, name}, {"<<a>", 1, name}, {"<\"a\">", 1, name}, {"<'a'>", 1, name}, {"<&lt;>", 1, name}, {"<&", 1, name},
		{"<" + long(130) + ">", 1, name}, {"<" + long(130) + "/>", 1, name}, {"<" + long(130) + " b='1'>", 1, name}, {"<" + long(130), 1, name}, {"<" + long(130) + "=", 1, name}, {"<" + strings.Repeat("\u00e9", 65) + ">", 1, name}, {"<" + long(32000) + ">", 1, name}, {"<" + long(65) + ":" + long(64) + ">", 1, name},
		{"<a b>", 4, form}, {"<a b/>", 4, form}, {"<a b >", 5, form}, {"<a b c>", 5, form}, {"<a b  c='1'>", 6, form}, {"<a b'1'>", 4, form}, {"<a b\"1\">", 4, form}, {"<a b<", 4, form}, {"<a b&lt;='1'>", 4, form}, {"<a b/='1'>", 4, form},
		{"<a b=>", 5, form}, {"<a b= >", 6, form}, {"<a b=1>", 5, form}, {"<a b=1", 5, form}, {"<a b=/>", 5, form}, {"<a b==\"1\">", 5, form}, {"<a b= =\"1\">", 6, form}, {"<a b=<", 5, form}, {"<a b=&quot;1&quot;>", 5, form}, {"<a b=c='1'>", 5, form}, {"<a b=\u00e9>", 5, form},
		{"<a =>", 3, form}, {"<a ='1'>", 3, form}, {"<a \"1\">", 3, form}, {"<a '1'>", 3, form}, {"<a &lt;>", 3, form}, {"<a <", 3, form}, {"<a=", 2, form}, {"<a='1'>", 2, form}, {"<a\"1\">", 2, form}, {"<a'>", 2, form}, {"<a<", 2, form}, {"<a&", 2, form},
		{"<a / >", 4, form}, {"<a//>", 3, form}, {"<a/b>", 3, form}, {"<a/ b='1'>", 3, form}, {"<a /\n>", 4, form}, {"<a/</a>", 3, form}, {"<a b='1'/c>", 9, form}, {"<a/\u00e9", 3, form},
		{"<a b='1'c='2'>", 8, form}, {"<a b='1'\"2\">", 8, form}, {"<a b='1''2'>", 8, form}, {"<a b='1'=>", 8, form}, {"<a b='1' ='2'>", 9, form}, {"<a b='1'&", 8, form}, {"<a b=\"'\" c>", 10, form},
		{"<a " + long(130) + "='1'>", 3, form}, {"<a  " + long(130), 4, form}, {"<a b='1' " + long(130) + "='1'>", 9, form}, {"<a b='1'" + long(130) + "='1'>", 8, form}, {"<a " + strings.Repeat("\u00e9", 65) + "='1'>", 3, form}, {"<a " + long(32000) + ">", 3, form},
		{"<a b='<'>", 6, char}, {"<a b='x<y<'>", 7, char}, {"<a b=\"</a>\">", 6, char}, {"<a b='><c d='>", 7, char}, {"<a b='1' c='<'>", 12, char}, {"<a b='&lt;<'/>", 10, char},
		{"<a b='&'>", 6, ref}, {"<a b='&lt'>", 6, ref}, {"<a b='&lt' c=';'>", 6, ref}, {"<a b='&lt;&#0;'>", 10, ref}, {"<a b='\r\n&x;'>", 8, ref}, {"<a b=\"\u00e9&quot\">", 8, ref}, {"<a b='1' c='&&lt;'>", 12, ref}, {"<a b='&apos;' c=\"&APOS;\"/>", 17, ref},
	} {
		wrong(t, x.s, x.at, x.e)
		wrong(t, "\u00e9"+x.s, x.at+2, x.e)
		wrong(t, "<a c='1'>\r\n</a>"+x.s, x.at+15, x.e)
		wrong(t, "<!--<--><?p <?>"+x.s, x.at+15, x.e)
	}
}

func TestTokensTakesSoManyAttributes(t *testing.T) { // P3.2, 7
	for _, n := range []int{1, 32, 33, 64, 65} {
		l, at, e := lex.Tokens("<a" + attributes(n) + "><b" + attributes(65) + "/>")
		if len(l) != 2 || at != 0 || e != api.OK || len(l[0].Attrs) != n || len(l[1].Attrs) != 65 {
			t.Fatalf("of %d attributes: %s, %d, %v", n, shown(l), at, e)
		}
		if last := (api.Raw{Name: "x" + strconv.Itoa(99+n)}); l[0].Attrs[n-1] != last {
			t.Errorf("the last attribute is %v, not %v", l[0].Attrs[n-1], last)
		}
	}
	full := "<a" + attributes(65) // of 522 bytes
	for _, s := range []string{" y=''>", " y='1'/>", " y=''", " y='' z=''>", " \u00e9='1'>"} {
		wrong(t, full+s, 523, api.ErrLong)
		wrong(t, "\u00e9"+full+"\r\n"+s, 527, api.ErrLong)
	}
	wrong(t, "<a"+attributes(66)+">", 523, api.ErrLong)
	wrong(t, "<a"+attributes(1000)+">", 523, api.ErrLong)
	// As soon as it begins; what is wrong ahead of it is told first.
	wrong(t, full+" y", 523, api.ErrLong)
	wrong(t, full+" y>", 523, api.ErrLong)
	wrong(t, full+" y='&'>", 523, api.ErrLong)
	wrong(t, full+" y='<", 523, api.ErrLong)
	wrong(t, full+"y=''>", 522, api.ErrLong)
	wrong(t, "<a y='&'"+attributes(65)+">", 6, api.ErrRef)
	wrong(t, "<a y"+attributes(65)+">", 5, api.ErrForm)
	wrong(t, "<>"+full+" y=''>", 1, api.ErrName)
	// What isn't an attribute's beginning is none.
	wrong(t, full, 0, api.ErrShort)
	wrong(t, full+" ", 0, api.ErrShort)
	wrong(t, full+"/", 0, api.ErrShort)
	wrong(t, full+" =>", 523, api.ErrForm)
	wrong(t, full+" ''>", 523, api.ErrForm)
	wrong(t, full+" / >", 524, api.ErrForm)
	wrong(t, full+" "+long(130)+"=''>", 523, api.ErrForm)
	tokens(t, full[:10]+" />", empty(0, "a", "x100", ""))
}

func TestTokensTakesSoManyBytes(t *testing.T) { // P3.2
	for _, s := range []string{"", "<a/>", "<a b='1'>", "\r\n", "<!---->", "\u00e9", "<?p?>"} {
		fits, over := s+strings.Repeat("a", 32768-len(s)), s+strings.Repeat("a", 32769-len(s))
		if l, at, e := lex.Tokens(fits); len(l) == 0 || at != 0 || e != api.OK {
			t.Errorf("Tokens of 32768 bytes that begin with %q: %d tokens, %d, %v", s, len(l), at, e)
		}
		wrong(t, over, 0, api.ErrLong)
	}
	tokens(t, strings.Repeat(" ", 32768), text(0, strings.Repeat(" ", 32768)))
	tokens(t, strings.Repeat("\r", 32768), text(0, strings.Repeat("\n", 32768)))
	tokens(t, strings.Repeat("&#xD;\r\n", 4681)+"x", text(0, strings.Repeat("\r\n", 4681)+"x"))
	for _, s := range []string{"<!D", "\xff", "\x00", "<", "]]>", "<?xml ", "&"} { // that is told ahead of all else
		wrong(t, s+strings.Repeat("a", 32769-len(s)), 0, api.ErrLong)
	}
	wrong(t, strings.Repeat("\xff", 1<<20), 0, api.ErrLong)
	if l, _, e := lex.Tokens(strings.Repeat("<a>", 10922) + "</"); len(l) != 0 || e != api.ErrShort {
		t.Errorf("%d tokens, %v", len(l), e)
	}
	if l, _, e := lex.Tokens(strings.Repeat("<a>", 10922)); len(l) != 10922 || e != api.OK {
		t.Errorf("%d tokens, %v", len(l), e)
	}
}

func TestTokensTellsBytesAndSignsThatMayNotBe(t *testing.T) { // P3.2
	places := []string{"", "a", "\u00e9", "<a>", "<", "<a b='", "<!--", "<![CDATA[", "<?p ", "</", "\r\n", "<?xml ", "<!D", "]]>", "&", "<a b=1", "<?xml version='1.1'?>"}
	for _, ahead := range places {
		for _, s := range []string{"\xff", "\x80", "\xc3", "\xc0\x80", "\xe0\x80\x80", "\xed\xa0\x80", "\xf4\x90\x80\x80", "\xf0\x9f\x98", "\xf8\x88\x80\x80\x80"} {
			wrong(t, ahead+s, len(ahead), api.ErrUTF)
			wrong(t, ahead+s+"\xfe<", len(ahead), api.ErrUTF)
			wrong(t, "\x00\x01"+ahead+s, len(ahead)+2, api.ErrUTF) // bytes are told ahead of signs
			wrong(t, ahead+"\x01"+s, len(ahead)+1, api.ErrUTF)
		}
		for _, s := range []string{"\x00", "\x01", "\x08", "\x0b", "\x0c", "\x0e", "\x1f", "\xef\xbf\xbe", "\xef\xbf\xbf"} {
			wrong(t, ahead+s, len(ahead), api.ErrChar)
			wrong(t, ahead+s+"\x02<>", len(ahead), api.ErrChar)
			wrong(t, "<!D"+ahead+s, len(ahead)+3, api.ErrChar) // signs are told ahead of tokens
		}
	}
	good := "\t\n\r ~\x7f\u0080\u0085\ud7ff\ue000\ufffd\U00010000\U0001fffe\U0010ffff"
	tokens(t, good, text(0, strings.Replace(good, "\r", "\n", 1)))
	tokens(t, "<!--"+good+"--><?p "+good+"?>")
}

func TestTokensTellsTheFirstOfSeveralErrors(t *testing.T) { // P3.2: from the front
	for _, x := range []struct {
		s  string
		at int
		e  api.Errno
	}{
		{"<a b><!D", 4, api.ErrForm}, {"<!D<a b>", 0, api.ErrDTD}, {"&<", 0, api.ErrRef}, {"<&", 1, api.ErrName}, {"x]]>&<!D", 1, api.ErrChar}, {"<a></><!--", 5, api.ErrName}, {"<!--<a b>", 0, api.ErrShort}, {"<!-- --<a b>", 0, api.ErrForm}, {"<?1 ", 0, api.ErrName}, {"<?1+", 0, api.ErrName}, {"<?a+ ", 0, api.ErrForm},
		{"<a b='&' c='<'>", 6, api.ErrRef}, {"<a b='<' c='&'>", 6, api.ErrChar}, {"<a b='&<'>", 7, api.ErrChar}, {"<a b='<&'>", 6, api.ErrChar}, {"<a b='&<", 0, api.ErrShort}, {"<a b='&' c='", 6, api.ErrRef}, {"<a b='&' c", 6, api.ErrRef}, {"<a b='&'c='2'>", 6, api.ErrRef}, {"<a b='1'c='&'>", 8, api.ErrForm}, {"<a b='1'c='2", 8, api.ErrForm}, {"<a b='<'/", 6, api.ErrChar}, {"<a b='<'=", 6, api.ErrChar}, {"<a =<", 3, api.ErrForm},
		{"<?xml version='1.1'?><!D", 0, api.ErrForm}, {"<?xml version='1.0'?>&", 21, api.ErrRef}, {"<?xml version='1.0'?><?xml ", 21, api.ErrName},
		{"</a b='&'>", 4, api.ErrForm}, {"</&>", 2, api.ErrName}, {"<![CDATA[ <a b>", 0, api.ErrShort}, {"<a>&lt</a b>", 3, api.ErrRef},
	} {
		wrong(t, x.s, x.at, x.e)
	}
}

func TestTokensSharesNoMemory(t *testing.T) { // rule 3
	s := "<a b='1'><c d='2' e='3'/><f g='4'>"
	want := []api.Token{start(0, "a", "b", "1"), empty(9, "c", "d", "2", "e", "3"), start(25, "f", "g", "4")}
	one, _, _ := lex.Tokens(s)
	two, _, _ := lex.Tokens(s)
	for i := range one {
		rest := slices.Clone(one)
		rest[i] = api.Token{}
		l := one[i].Attrs[:cap(one[i].Attrs)]
		for j := range l {
			l[j] = api.Raw{Name: "spoilt", Value: "spoilt"}
		}
		for j := range rest {
			if j > i && !same(rest[j:j+1], want[j:j+1]) {
				t.Errorf("the attributes of %v share memory with those of %v", want[i], rest[j])
			}
		}
	}
	if !same(two, want) {
		t.Errorf("two answers share memory: %v", two)
	}
}
