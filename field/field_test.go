package field_test

import (
	"slices"
	"strings"
	"testing"

	"watchbill/api"
	"watchbill/field"
)

// fields: of names and values in turn.
func fields(l ...string) []api.Field {
	var out []api.Field
	for i := 0; i < len(l); i += 2 {
		out = append(out, api.Field{Name: l[i], Value: l[i+1]})
	}
	return out
}

// many: so many fields of a and b.
func many(n int) []api.Field { return slices.Repeat(fields("a", "b"), n) }

// xs, row: so many bytes; words of these lengths.
func xs(n int) string { return strings.Repeat("x", n) }

func row(lengths ...int) string {
	var l []string
	for i, n := range lengths {
		l = append(l, strings.Repeat(string(rune('a'+i%26)), n))
	}
	return strings.Join(l, " ")
}

// lines: each with its end.
func lines(l ...string) string { return strings.Join(l, "\r\n") + "\r\n" }

// prints: fields must be printed so.
func prints(t *testing.T, want string, l ...api.Field) {
	t.Helper()
	if s, e := field.Print(l...); s != want || e != api.OK {
		t.Errorf("Print(%.300q) = %.300q, %v, not %.300q", l, s, e, want)
	}
}

// refuses: fields must not be printed.
func refuses(t *testing.T, want api.Errno, l ...api.Field) {
	t.Helper()
	if s, e := field.Print(l...); s != "" || e != want {
		t.Errorf("Print(%.300q) = %.300q, %v, not %v", l, s, e, want)
	}
}

// parses: bytes must be parsed so.
func parses(t *testing.T, s, wantRest string, want ...api.Field) {
	t.Helper()
	l, rest, e := field.Parse(s)
	if !slices.Equal(l, want) || rest != wantRest || e != api.OK {
		t.Errorf("Parse(%.300q) = %.300q, %.300q, %v, not %.300q, %.300q", s, l, rest, e, want, wantRest)
	}
}

// wrong: bytes must not be parsed.
func wrong(t *testing.T, s string, want api.Errno) {
	t.Helper()
	if l, rest, e := field.Parse(s); len(l) != 0 || rest != "" || e != want {
		t.Errorf("Parse(%.300q) = %.300q, %.300q, %v, not %v", s, l, rest, e, want)
	}
}

func TestPrintOfFields(t *testing.T) { // P7.1
	prints(t, "\r\n")
	prints(t, "Content-ID: <a@b>\r\n\r\n", fields("Content-ID", "<a@b>")...)
	prints(t, "A: b\r\nc: d e f\r\nA: b\r\n\r\n", fields("A", "b", "c", "d e f", "A", "b")...)
	prints(t, "a:\r\nb: c\r\nd:\r\n\r\n", fields("a", "", "b", "c", "d", "")...)
	prints(t, "a: :\r\nb: : :\r\n\r\n", fields("a", ":", "b", ": :")...)
	prints(t, "a: !~\"\\\r\n\r\n", fields("a", "!~\"\\")...)
}

func TestPrintOfManyFields(t *testing.T) { // P7.1
	prints(t, strings.Repeat("a: b\r\n", 8)+"\r\n", many(8)...)
	refuses(t, api.ErrLong, many(9)...)
	refuses(t, api.ErrLong, many(100)...)
	refuses(t, api.ErrLong, append(fields("", "\n"), many(8)...)...) // ahead of what the fields are
	refuses(t, api.ErrName, append(fields("", "\n"), many(7)...)...)
}

// nameBytes, textBytes: the bytes of a name, and of a value that is parsed.
func nameBytes(c byte) bool { return c >= 33 && c <= 126 && c != 58 }
func textBytes(c byte) bool { return c >= 32 && c <= 126 || c == 9 }

func TestPrintOfNames(t *testing.T) { // P7.1
	for i := range 256 {
		c := string([]byte{byte(i)})
		for _, name := range []string{c, c + "a", "a" + c, "a" + c + "b"} {
			if nameBytes(byte(i)) {
				prints(t, name+": v\r\n\r\n", fields(name, "v")...)
			} else {
				refuses(t, api.ErrName, fields(name, "v")...)
			}
		}
	}
	prints(t, xs(64)+": v\r\n\r\n", fields(xs(64), "v")...)
	prints(t, xs(64)+":\r\n\r\n", fields(xs(64), "")...)
	refuses(t, api.ErrName, fields(xs(65), "v")...)
	refuses(t, api.ErrName, fields("", "v")...)
	refuses(t, api.ErrName, fields("\u00e9", "v")...)
}

func TestPrintOfValues(t *testing.T) { // P7.1
	for i := range 256 {
		c := string([]byte{byte(i)})
		for _, value := range []string{c, c + "a", "a" + c, "a" + c + "b"} {
			inside := c == " " && value == "a b"
			if i >= 33 && i <= 126 || inside {
				prints(t, "n: "+value+"\r\n\r\n", fields("n", value)...)
			} else {
				refuses(t, api.ErrForm, fields("n", value)...)
			}
		}
	}
	for _, value := range []string{
		" ", "  ", "\t", " a", "a ", " a ", "\ta", "a\t", "a\tb", "a  b", "a   b", "a \tb", "a\t b", "a b  c", "a b ", "a b\t",
		"a\r\nb", "a\r\n b", "a\r", "a\n", "\r\n", "a\x00", "a\x1f", "\x7f", "\x80", "\xff", "\u00e9", "\u00a0", "a\u00a0b", "a\u2003b", "a\vb", "a\fb",
	} {
		refuses(t, api.ErrForm, fields("n", value)...)
	}
}

func TestPrintFolds(t *testing.T) { // P7.1
	// The name and the colon have 4 bytes.
	for _, x := range []struct{ value, want string }{
		{row(71), "abc: " + row(71)},
		{row(72), "abc: " + row(72)}, // one word
		{row(200), "abc: " + row(200)},
		{row(35, 35), "abc: " + row(35, 35)}, // 76 bytes
		{row(35, 36), "abc: " + row(35) + "\r\n " + strings.Repeat("b", 36)},
		{row(36, 35), "abc: " + row(36) + "\r\n " + strings.Repeat("b", 35)},
		{row(1, 69), "abc: " + row(1, 69)},
		{row(1, 70), "abc: a\r\n " + strings.Repeat("b", 70)},
		{row(1, 300), "abc: a\r\n " + strings.Repeat("b", 300)},
		{row(70, 1), "abc: " + row(70) + "\r\n b"},
		{row(200, 1), "abc: " + row(200) + "\r\n b"},
		{row(200, 1, 1), "abc: " + row(200) + "\r\n b c"},
		{row(200, 37, 37), "abc: " + row(200) + "\r\n " + strings.Repeat("b", 37) + " " + strings.Repeat("c", 37)}, // 76 bytes
		{row(200, 37, 38), "abc: " + row(200) + "\r\n " + strings.Repeat("b", 37) + "\r\n " + strings.Repeat("c", 38)},
		{row(200, 38, 37), "abc: " + row(200) + "\r\n " + strings.Repeat("b", 38) + "\r\n " + strings.Repeat("c", 37)},
		{row(1, 200, 1, 200), "abc: a\r\n " + strings.Repeat("b", 200) + "\r\n c\r\n " + strings.Repeat("d", 200)},
		{row(10, 10, 10, 10, 10, 16), "abc: " + row(10, 10, 10, 10, 10, 16)}, // 76 bytes
		{row(10, 10, 10, 10, 10, 17), "abc: " + row(10, 10, 10, 10, 10) + "\r\n " + strings.Repeat("f", 17)},
	} {
		prints(t, x.want+"\r\n\r\n", fields("abc", x.value)...)
	}
	// A long name: its word stays, the next one doesn't.
	prints(t, xs(64)+": "+row(11)+"\r\n b\r\n\r\n", fields(xs(64), row(11, 1))...)
	prints(t, xs(64)+": "+row(8, 1)+"\r\n\r\n", fields(xs(64), row(8, 1))...) // 76 bytes
	prints(t, xs(64)+": "+row(9)+"\r\n b\r\n\r\n", fields(xs(64), row(9, 1))...)
	prints(t, xs(64)+": "+row(90)+"\r\n\r\n", fields(xs(64), row(90))...)
	// Each field anew.
	prints(t, "a: "+row(73)+"\r\nb: "+row(36, 36)+"\r\nc: d\r\n\r\n", fields("a", row(73), "b", row(36, 36), "c", "d")...)
}

func TestPrintOfLongLines(t *testing.T) { // P7.1
	prints(t, "a: "+xs(995)+"\r\n\r\n", fields("a", xs(995))...)
	refuses(t, api.ErrLong, fields("a", xs(996))...)
	refuses(t, api.ErrLong, fields("a", xs(5000))...)
	prints(t, xs(64)+": "+xs(932)+"\r\n\r\n", fields(xs(64), xs(932))...)
	refuses(t, api.ErrLong, fields(xs(64), xs(933))...)
	prints(t, "a: b\r\n "+xs(997)+"\r\n\r\n", fields("a", "b "+xs(997))...)
	refuses(t, api.ErrLong, fields("a", "b "+xs(998))...)
	prints(t, "a: b\r\n "+xs(997)+"\r\n c\r\n\r\n", fields("a", "b "+xs(997)+" c")...)
	refuses(t, api.ErrLong, fields("a", "b "+xs(998)+" c")...)
	prints(t, "a: b\r\n "+xs(997)+"\r\n "+xs(997)+"\r\n\r\n", fields("a", "b "+xs(997)+" "+xs(997))...)
	refuses(t, api.ErrLong, fields("a", "b "+xs(997)+" "+xs(998))...)
	// A value may be longer than a line.
	value := strings.TrimSpace(strings.Repeat("word ", 1000))
	s, e := field.Print(fields("a", value)...)
	if l := strings.Split(s, "\r\n"); e != api.OK || len(l) != 69 || strings.Join(l, "") != "a: "+value {
		t.Errorf("Print of a long value: %q, %v", l, e)
	}
}

func TestPrintTellsTheFirstError(t *testing.T) { // P7.1
	refuses(t, api.ErrName, fields("a b", "c\n")...)
	refuses(t, api.ErrName, fields(xs(65), xs(2000))...)
	refuses(t, api.ErrForm, fields("a", xs(2000)+"\n")...)
	refuses(t, api.ErrForm, fields("a", xs(2000)+"  b")...)
	refuses(t, api.ErrLong, fields("a", xs(2000))...)
	// Field by field.
	refuses(t, api.ErrForm, fields("a", "\n", ":", "b")...)
	refuses(t, api.ErrLong, fields("a", xs(2000), ":", "\n")...)
	refuses(t, api.ErrName, fields("a", "b", ":", "c", "d", "\n")...)
	refuses(t, api.ErrForm, fields("a", "b", "c", " d", "e", xs(2000), "", "")...)
}

func TestParseOfFields(t *testing.T) { // P7.2
	parses(t, "\r\n", "")
	parses(t, "\r\n\r\n", "\r\n")
	parses(t, "\r\na: b\r\n\r\n", "a: b\r\n\r\n")
	parses(t, "Content-ID: <a@b>\r\n\r\n", "", fields("Content-ID", "<a@b>")...)
	parses(t, "A:b\r\nA: c\r\na:\t d \r\n\r\nrest", "rest", fields("A", "b", "A", "c", "a", "d")...)
	parses(t, "a:\r\nb: \t \r\nc:d:e : f\r\n\r\n", "", fields("a", "", "b", "", "c", "d:e : f")...)
	parses(t, "a:  b\t\tc  d\t\r\n\r\n", "", fields("a", "b\t\tc  d")...)
	for _, rest := range []string{" ", "x", "\r", "\n", "\r\n", " a: b\r\n\r\n", "\x00\xff", "a b\r\n", strings.Repeat("a: b\r\n", 9), "--b\r\n\r\n"} {
		parses(t, "\r\n"+rest, rest)
		parses(t, "a: b\r\n\r\n"+rest, rest, fields("a", "b")...)
	}
}

func TestParseOfFoldedFields(t *testing.T) { // P7.2
	parses(t, "a: b\r\n c\r\n\r\n", "", fields("a", "b c")...)
	parses(t, "a: b\r\n\tc\r\n\r\n", "", fields("a", "b\tc")...)
	parses(t, "a: b \r\n c\r\n\t d\t\r\n\r\n", "", fields("a", "b  c\t d")...)
	parses(t, "a:\r\n b\r\nc: d\r\n\r\n", "", fields("a", "b", "c", "d")...)
	parses(t, "a:\r\n \r\n\t\r\n b\r\n \r\n\r\n", "", fields("a", "b")...)
	parses(t, "a: b\r\n \r\n\t\r\n c\r\n\r\n d", " d", fields("a", "b \t c")...)
	parses(t, "a: b\r\n c: d\r\n :e\r\n\r\n", "", fields("a", "b c: d :e")...)
}

func TestParseOfManyFields(t *testing.T) { // P7.2
	parses(t, strings.Repeat("a: b\r\n", 8)+"\r\n", "", many(8)...)
	wrong(t, strings.Repeat("a: b\r\n", 9)+"\r\n", api.ErrLong)
	wrong(t, strings.Repeat("a: b\r\n", 9), api.ErrLong)
	wrong(t, strings.Repeat("a: b\r\n", 8), api.ErrShort)
	wrong(t, strings.Repeat("a: b\r\n", 8)+"a: b", api.ErrShort)
	wrong(t, strings.Repeat("a: b\r\n", 9)+" c", api.ErrShort)
	wrong(t, strings.Repeat("a: b\r\n", 8)+":\x00\r\n\r\n", api.ErrLong)
	wrong(t, strings.Repeat("a: b\r\n", 7)+":\x00\r\n\r\n", api.ErrName)
	parses(t, strings.Repeat("a: b\r\n c\r\n", 8)+"\r\n", "", slices.Repeat(fields("a", "b c"), 8)...)
}

func TestParseOfNames(t *testing.T) { // P7.2
	for i := range 256 {
		c := string([]byte{byte(i)})
		for _, name := range []string{c, c + "a", "a" + c, "a" + c + "b"} {
			s := name + ": v\r\n\r\n"
			switch {
			case nameBytes(byte(i)):
				parses(t, s, "", fields(name, "v")...)
			case i == 58: // the name ends there
				parsesOr(t, s, name)
			case name[0] == ' ' || name[0] == '\t':
				wrong(t, s, api.ErrForm)
			default:
				wrong(t, s, api.ErrName)
			}
		}
	}
	parses(t, xs(64)+":v\r\n\r\n", "", fields(xs(64), "v")...)
	wrong(t, xs(65)+":v\r\n\r\n", api.ErrName)
	wrong(t, ":v\r\n\r\n", api.ErrName)
	wrong(t, ":\r\n\r\n", api.ErrName)
	wrong(t, "a : v\r\n\r\n", api.ErrName)
	wrong(t, "a\t: v\r\n\r\n", api.ErrName)
	wrong(t, "a\r\n : v\r\n\r\n", api.ErrName)
	wrong(t, "a\r\n b: v\r\n\r\n", api.ErrName)
}

// parsesOr: a name with a colon in it, and : v.
func parsesOr(t *testing.T, s, name string) {
	t.Helper()
	head, tail, _ := strings.Cut(name, ":")
	if head == "" {
		wrong(t, s, api.ErrName)
		return
	}
	parses(t, s, "", fields(head, tail+": v")...)
}

func TestParseOfValues(t *testing.T) { // P7.2
	for i := range 256 {
		c := string([]byte{byte(i)})
		for _, value := range []string{c, c + "a", "a" + c, "a" + c + "b"} {
			s := "n:" + value + "\r\n\r\n"
			if textBytes(byte(i)) {
				parses(t, s, "", fields("n", strings.Trim(value, " \t"))...)
			} else {
				wrong(t, s, api.ErrForm)
			}
		}
	}
	wrong(t, "a: b\rc\r\n\r\n", api.ErrForm)
	wrong(t, "a: b\nc\r\n\r\n", api.ErrForm)
	wrong(t, "a: b\r\r\n\r\n", api.ErrForm)
	wrong(t, "a: b\n\r\n\r\n", api.ErrForm)
	wrong(t, "a: b\n\r\r\n\r\n", api.ErrForm)
	wrong(t, "a: \n b\r\n\r\n", api.ErrForm)
	wrong(t, "a: \u00a0\r\n\r\n", api.ErrForm)
	wrong(t, "a: b\r\n c\x00\r\n\r\n", api.ErrForm)
	wrong(t, "a: b\r\n\x00c\r\n\r\n", api.ErrForm) // a field of its own, without a colon
	wrong(t, "a\r: b\r\n\r\n", api.ErrName)
	wrong(t, "\na: b\r\n\r\n", api.ErrName)
	wrong(t, "\ra: b\r\n\r\n", api.ErrName)
	wrong(t, "\r\r\n\r\n", api.ErrForm)
	wrong(t, "\n\r\n\r\n", api.ErrForm)
}

func TestParseOfWhatIsNoField(t *testing.T) { // P7.2
	wrong(t, " a: b\r\n\r\n", api.ErrForm)
	wrong(t, "\ta: b\r\n\r\n", api.ErrForm)
	wrong(t, " \r\n\r\n", api.ErrForm)
	wrong(t, " \r\na: b\r\n\r\n", api.ErrForm)
	wrong(t, " \r\n a: b\r\n\r\n", api.ErrForm)
	wrong(t, " :\r\n\r\n", api.ErrForm)
	wrong(t, "ab\r\n\r\n", api.ErrForm)
	wrong(t, "a b\r\n\r\n", api.ErrForm)
	wrong(t, "ab\r\n cd\r\n\r\na: b\r\n\r\n", api.ErrForm)
	wrong(t, "ab\r\ncd: e\r\n\r\n", api.ErrForm)
	wrong(t, "a: b\r\ncd\r\n\r\n", api.ErrForm)
	wrong(t, "\x00\xff\r\n\r\n", api.ErrForm)
	wrong(t, xs(65)+"\r\n\r\n", api.ErrForm)
}

func TestParseOfLongLines(t *testing.T) { // P7.2
	parses(t, "a:"+xs(996)+"\r\n\r\n", "", fields("a", xs(996))...)
	wrong(t, "a:"+xs(997)+"\r\n\r\n", api.ErrLong)
	parses(t, "a: b\r\n "+xs(997)+"\r\n\r\n", "", fields("a", "b "+xs(997))...)
	wrong(t, "a: b\r\n "+xs(998)+"\r\n\r\n", api.ErrLong)
	wrong(t, "a: b\r\n "+xs(998)+"\r\n c\r\n\r\n", api.ErrLong)
	wrong(t, "a: "+xs(998)+"\r\n c\r\n\r\n", api.ErrLong)
	parses(t, "a:"+strings.Repeat(" ", 996)+"\r\n\r\n", "", fields("a", "")...)
	wrong(t, "a:"+strings.Repeat(" ", 997)+"\r\n\r\n", api.ErrLong)
	// What they come to, put together, plays no part; nor does what stands behind the empty line.
	parses(t, "a:"+strings.Repeat("\r\n "+xs(997), 50)+"\r\n\r\n"+xs(2000), xs(2000), fields("a", strings.Repeat(xs(997)+" ", 49)+xs(997))...)
	// Ahead of all else but ErrShort.
	wrong(t, " "+xs(998)+"\r\n\r\n", api.ErrLong)
	wrong(t, xs(999)+"\r\n\r\n", api.ErrLong)
	wrong(t, xs(999)+":\r\n\r\n", api.ErrLong)
	wrong(t, "a:\x00"+xs(998)+"\r\n\r\n", api.ErrLong)
	wrong(t, "a\x00\r\n "+xs(998)+"\r\n\r\n", api.ErrLong)
	wrong(t, "a:"+xs(997)+"\r\n", api.ErrLong)
	wrong(t, "a:"+xs(997), api.ErrShort)
	wrong(t, "a:"+xs(997)+"\r\n b", api.ErrShort)
}

func TestParseOfBytesCutOff(t *testing.T) { // P7.2
	whole := "A: b c\r\n\td\r\nE:\r\n f\r\n \r\n" + xs(64) + ":" + xs(300) + "\r\n\r\n"
	parses(t, whole, "", fields("A", "b c\td", "E", "f", xs(64), xs(300))...)
	for at := range len(whole) {
		wrong(t, whole[:at], api.ErrShort)
		wrong(t, whole[:at]+"\r", api.ErrShort)
	}
	for _, s := range []string{"", "\r", "\n", "\n\r", "\r\r", " ", ":", "a", "a:", "a: b\n\n", "a: b\r\r", "a: b\r\n\n", "a: b\r\n\r", "a: b\r\n ", "a: b\r\n \r", " a", "ab", "a\x00", ": b", xs(5000), "a: b\r\n\ra: b\n\r\r"} {
		wrong(t, s, api.ErrShort)
	}
}

func TestParseTellsTheFirstError(t *testing.T) { // P7.2
	wrong(t, " a\x00b\r\n\r\n", api.ErrForm)
	wrong(t, " a : b\r\n\r\n", api.ErrForm) // ahead of ErrName
	wrong(t, "a b: c\x00\r\n\r\n", api.ErrName)
	wrong(t, ": \x00\r\n\r\n", api.ErrName)
	wrong(t, "a b\x00\r\n\r\n", api.ErrForm)
	wrong(t, "a b: c\x00", api.ErrShort)
	wrong(t, "a: b\x00\r\n c", api.ErrShort)
	// The first field that is wrong is told, whatever stands behind it.
	wrong(t, "ab\r\n", api.ErrForm)
	wrong(t, "ab\r\na: b", api.ErrForm)
	wrong(t, "a b: c\r\nde\r\n\r\n", api.ErrName)
	wrong(t, "a: \x00\r\na b: c\r\n\r\n", api.ErrForm)
	wrong(t, "a: b\r\nc d: e\r\nf", api.ErrName)
	wrong(t, "a: b\r\nc d: e\r\na:"+xs(997)+"\r\n\r\n", api.ErrName)
	wrong(t, "a:"+xs(997)+"\r\nc d: e\r\n\r\n", api.ErrLong)
}

func TestGet(t *testing.T) { // P7.3
	l := fields("A", "1", "b-C", "2", "a", "3", "B-c", "4", "", "5", "\u00e9", "6", "k", "7", "s", "8", "\xff", "9", "[", "10", "@", "11", "E", "")
	for _, x := range []struct{ name, want string }{
		{"A", "1"}, {"a", "1"}, {"b-C", "2"}, {"B-C", "2"}, {"b-c", "2"}, {"", "5"}, {"\u00e9", "6"}, {"K", "7"}, {"S", "8"}, {"\xff", "9"}, {"[", "10"}, {"@", "11"}, {"e", ""},
	} {
		if v, ok := field.Get(l, x.name); v != x.want || !ok {
			t.Errorf("Get(%q) = %q, %v, not %q", x.name, v, ok, x.want)
		}
	}
	for _, name := range []string{"x", "b", "b-", "-c", "b-cc", "a ", " a", "\u00c9", "\u212a", "\u017f", "\xfe", "\ufffd", "{", "\x60", ":", "\x00"} {
		if v, ok := field.Get(l, name); v != "" || ok {
			t.Errorf("Get(%q) = %q, %v, not false", name, v, ok)
		}
	}
	if v, ok := field.Get(nil, ""); v != "" || ok {
		t.Errorf("Get of no fields = %q, %v, not false", v, ok)
	}
}

// alike: bytes that are one letter, or one byte.
func alike(a, b byte) bool {
	letter := func(c byte) bool { return c >= 'A' && c <= 'Z' || c >= 'a' && c <= 'z' }
	return a == b || letter(a) && letter(b) && a&31 == b&31
}

func TestLettersOfEitherSizeAreAlikeAndNoOtherBytes(t *testing.T) { // P7.3
	for i := range 256 {
		for j := range 256 {
			a, b := string([]byte{'x', byte(i)}), string([]byte{'X', byte(j)})
			want := alike(byte(i), byte(j))
			if _, ok := field.Get(fields(a, "1"), b); ok != want {
				t.Errorf("Get of %q by %q: %v", a, b, ok)
			}
			if _, ok := field.Param(params(a, "1"), b); ok != want {
				t.Errorf("Param of %q by %q: %v", a, b, ok)
			}
		}
	}
}
