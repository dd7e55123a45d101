package utf_test

import (
	"math"
	"slices"
	"strings"
	"testing"
	"unicode/utf8"

	"watchbill/utf"
)

// edges: the first and the last sign of each length, and those beside the numbers that are none.
var edges = []struct {
	r     rune
	bytes string
}{
	{0, "\x00"},
	{'A', "A"},
	{127, "\x7f"},
	{128, "\xc2\x80"},
	{233, "\xc3\xa9"},
	{2047, "\xdf\xbf"},
	{2048, "\xe0\xa0\x80"},
	{8364, "\xe2\x82\xac"},
	{55295, "\xed\x9f\xbf"},
	{57344, "\xee\x80\x80"},
	{65533, "\xef\xbf\xbd"},
	{65535, "\xef\xbf\xbf"},
	{65536, "\xf0\x90\x80\x80"},
	{128512, "\xf0\x9f\x98\x80"},
	{1114111, "\xf4\x8f\xbf\xbf"},
}

// wrong: texts at whose first place no sign's bytes stand.
var wrong = []string{
	"\x80", "\xbf", // no first byte
	"\xc0\x80", "\xc1\xbf", "\xe0\x80\x80", "\xe0\x9f\xbf", "\xf0\x80\x80\x80", "\xf0\x8f\xbf\xbf", // longer than needed
	"\xed\xa0\x80", "\xed\xbf\xbf", // 55296, 57343
	"\xf4\x90\x80\x80", "\xf7\xbf\xbf\xbf", // above 1114111
	"\xf8\x88\x80\x80\x80", "\xfc\x84\x80\x80\x80\x80", "\xfe", "\xff", // no such length
	"\xc2", "\xe0\xa0", "\xe2", "\xf0\x90\x80", "\xf0\x90", "\xf0", // cut short by the end
	"\xc2a", "\xc2\xc2\x80", "\xe0\xa0a", "\xe2a\x80", "\xf0\x90\x80a", "\xf0\x90a\x80", "\xf0a\x80\x80", // cut short by another byte
	"\xc2\x00", "\xc2\x7f", "\xc2\xc0", "\xc2\xff",
}

func TestRuneTellsTheSignAtAPlace(t *testing.T) { // P1.1
	for _, x := range edges {
		for _, s := range []string{x.bytes, x.bytes + "z", x.bytes + "\x80", x.bytes + "\xff"} {
			if r, size := utf.Rune(s, 0); r != x.r || size != len(x.bytes) {
				t.Errorf("Rune(%x, 0) = %x, %d", s, r, size)
			}
		}
		if r, size := utf.Rune("\xffab"+x.bytes, 3); r != x.r || size != len(x.bytes) {
			t.Errorf("Rune of %x behind others = %x, %d", x.bytes, r, size)
		}
		for at := 1; at < len(x.bytes); at++ {
			if r, size := utf.Rune(x.bytes, at); r != 0 || size != 0 {
				t.Errorf("Rune(%x, %d) = %x, %d within a sign", x.bytes, at, r, size)
			}
			if r, size := utf.Rune(x.bytes[:at], 0); r != 0 || size != 0 {
				t.Errorf("Rune(%x, 0) = %x, %d of a sign cut short", x.bytes[:at], r, size)
			}
		}
	}
}

func TestRuneTellsNoneWhereNoneStands(t *testing.T) { // P1.1
	for _, s := range wrong {
		for at, whole := range []string{s, "a" + s, "ab" + s} {
			if r, size := utf.Rune(whole, at); r != 0 || size != 0 {
				t.Errorf("Rune(%x, %d) = %x, %d", whole, at, r, size)
			}
		}
	}
	for _, s := range []string{"", "a", "a\xc3\xa9b"} {
		for _, at := range []int{math.MinInt, -len(s) - 1, -2, -1, len(s), len(s) + 1, len(s) + 4, math.MaxInt - 3, math.MaxInt} {
			if r, size := utf.Rune(s, at); r != 0 || size != 0 {
				t.Errorf("Rune(%q, %d) = %x, %d outside", s, at, r, size)
			}
		}
	}
}

func TestPutTellsASignsBytes(t *testing.T) { // P1.1
	for _, x := range edges {
		if s := utf.Put(x.r); s != x.bytes {
			t.Errorf("Put(%x) = %x, not %x", x.r, s, x.bytes)
		}
	}
	for r := rune(0xD800); r <= 0xDFFF; r++ {
		if s := utf.Put(r); s != "" {
			t.Errorf("Put(%x) = %x", r, s)
		}
	}
	for _, r := range []rune{math.MinInt32, -1114111, -128, -2, -1, 1114112, 1114113, 0x1FFFFF, 0x200000, math.MaxInt32} {
		if s := utf.Put(r); s != "" {
			t.Errorf("Put(%x) = %x", r, s)
		}
	}
}

func TestCheckTellsTheFirstWrongPlace(t *testing.T) { // P1.2
	all := ""
	for _, x := range edges {
		if at := utf.Check(all); at != -1 {
			t.Errorf("Check(%x) = %d", all, at)
		}
		for _, s := range wrong {
			if at := utf.Check(all + s); at != len(all) {
				t.Errorf("Check(%x) = %d, not %d", all+s, at, len(all))
			}
			if at := utf.Check(all + s + "\xff" + all); at != len(all) {
				t.Errorf("Check with two wrong places = %d, not %d", at, len(all))
			}
		}
		all += x.bytes
	}
	for _, x := range edges {
		if at := utf.Check(all + x.bytes + "\x80"); at != len(all)+len(x.bytes) {
			t.Errorf("Check with a byte too many behind %x = %d", x.bytes, at)
		}
	}
	if at := utf.Check(strings.Repeat(all, 1000)); at != -1 {
		t.Errorf("Check of a long text = %d", at)
	}
	if at := utf.Check("a\xff"); at != 1 {
		t.Errorf("Check(a ff) = %d", at)
	}
}

// turns: the numbers of which the answer is another than that of the number ahead, from false on.
func turns(is func(rune) bool) []rune {
	var l []rune
	last := false
	for r := rune(-70000); r < 1114112+70000; r++ {
		if is(r) != last {
			last = !last
			l = append(l, r)
		}
	}
	return l
}

func TestKindsOfSigns(t *testing.T) { // P1.3
	char := []rune{9, 11, 13, 14, 32, 55296, 57344, 65534, 65536, 1114112}
	high := []rune{
		0x200C, 0x200E, 0x2070, 0x2190, 0x2C00, 0x2FF0, 0x3001, 0xD800,
		0xF900, 0xFDD0, 0xFDF0, 0xFFFE, 0x10000, 0xF0000,
	}
	start := append([]rune{
		'A', 'Z' + 1, '_', '_' + 1, 'a', 'z' + 1,
		0xC0, 0xD7, 0xD8, 0xF7, 0xF8, 0x300, 0x370, 0x37E, 0x37F, 0x2000,
	}, high...)
	part := append([]rune{
		'-', '.' + 1, '0', '9' + 1, 'A', 'Z' + 1, '_', '_' + 1, 'a', 'z' + 1,
		0xB7, 0xB8, 0xC0, 0xD7, 0xD8, 0xF7, 0xF8, 0x37E, 0x37F, 0x2000,
	}, high[:2]...)
	part = append(append(part, 0x203F, 0x2041), high[2:]...)
	for name, x := range map[string]struct {
		is   func(rune) bool
		want []rune
	}{"Char": {utf.Char, char}, "Start": {utf.Start, start}, "Part": {utf.Part, part}} {
		if got := turns(x.is); !slices.Equal(got, x.want) {
			t.Errorf("%s turns at %x, not at %x", name, got, x.want)
		}
		for _, r := range []rune{math.MinInt32, math.MinInt32 + 'a', math.MaxInt32} {
			if x.is(r) {
				t.Errorf("%s(%d)", name, r)
			}
		}
	}
}

func TestNames(t *testing.T) { // P1.3
	for _, s := range []string{
		"a", "Z", "_", "a-1", "a.", "a--..", "_9", "x\u00b7\u0300\u036f\u203f\u2040", "\u00e9t\u00e9",
		"\u00c0", "\u02ff", "\u3001", "\U00010000", "\U000effff",
		strings.Repeat("n", 63), strings.Repeat("n", 64), strings.Repeat("\u00e9", 32),
		"ab" + strings.Repeat("\u3001", 20) + "cd", strings.Repeat("\U00010000", 16),
	} {
		if !utf.Name(s) {
			t.Errorf("%q is a name", s)
		}
	}
	for _, s := range []string{
		"", "-a", ".a", "1", "9a", "\u00b7a", "\u0300a", "\u203fa", // these may not begin one
		"a b", " a", "a ", "a:b", ":", "a/b", "a\n", "a\x00", "a\u00d7", "\u00d7", "a\u037e", "a\U000f0000",
		"\xff", "a\xff", "a\xffb", "a\xc3", "\xc3", "a\xc0\x80", "a\xed\xa0\x80",
		strings.Repeat("n", 65), strings.Repeat("\u00e9", 33), "a" + strings.Repeat("\u00e9", 32),
		strings.Repeat("n", 63) + "\u00e9", strings.Repeat("n", 63) + "\xc3", strings.Repeat("n", 100000),
	} {
		if utf.Name(s) {
			t.Errorf("%q is no name", s)
		}
	}
}

func TestBlanks(t *testing.T) { // P1.3
	for c := range 256 {
		if want := c == 9 || c == 10 || c == 13 || c == 32; utf.Blank(byte(c)) != want {
			t.Errorf("Blank(%d) = %v", c, !want)
		}
	}
	for s, want := range map[string]string{
		"":                     "",
		" ":                    "",
		" \t\r\n \n\r\t ":      "",
		"a":                    "a",
		" a":                   "a",
		"a ":                   "a",
		"\t\n\r a \r\n\tb\r\n": "a \r\n\tb",
		"\v a \f":              "\v a \f",
		" \x00 ":               "\x00",
		"\u00a0a\u00a0":        "\u00a0a\u00a0",
		"\u0085a\u2028":        "\u0085a\u2028",
		" \xff\x85 ":           "\xff\x85",
		"\n\x80\xa0\n":         "\x80\xa0",
	} {
		if got := utf.Trim(s); got != want {
			t.Errorf("Trim(%q) = %q, not %q", s, got, want)
		}
	}
}

func TestEachSignHasItsOwnBytes(t *testing.T) { // P1.4
	for r := rune(-3); r <= 1114111+3; r++ {
		want := ""
		if r >= 0 && r <= 1114111 && (r < 55296 || r > 57343) {
			want = string(r)
		}
		s := utf.Put(r)
		if s != want {
			t.Fatalf("Put(%x) = %x, not %x", r, s, want)
		}
		if want == "" {
			continue
		}
		if back, size := utf.Rune(s, 0); back != r || size != len(s) {
			t.Fatalf("Rune(%x, 0) = %x, %d, not %x", s, back, size, r)
		}
		if at := utf.Check(s); at != -1 {
			t.Fatalf("Check(%x) = %d", s, at)
		}
	}
}

// agree: a text is told just as Go's own decoder has it, and what is told is put as it stood.
func agree(t *testing.T, b []byte) {
	s := string(b)
	want, n := utf8.DecodeRune(b)
	if want == utf8.RuneError && n <= 1 {
		want, n = 0, 0
	}
	r, size := utf.Rune(s, 0)
	if r != want || size != n {
		t.Fatalf("Rune(%x, 0) = %x, %d, not %x, %d", s, r, size, want, n)
	}
	if utf.Put(r) != s[:size] && size > 0 {
		t.Fatalf("Put(%x) = %x, where %x stood", r, utf.Put(r), s[:size])
	}
	if (utf.Check(s) == -1) != utf8.Valid(b) {
		t.Fatalf("Check(%x) = %d", s, utf.Check(s))
	}
}

func TestNoOtherBytesAreSigns(t *testing.T) { // P1.4
	ends := []byte{0x00, 'a', 0x7f, 0x80, 0x8f, 0x90, 0x9f, 0xa0, 0xbf, 0xc0, 0xc2, 0xff}
	for a := range 256 {
		agree(t, []byte{byte(a)})
		for b := range 256 {
			agree(t, []byte{byte(a), byte(b)})
			for _, c := range ends {
				agree(t, []byte{byte(a), byte(b), c})
				for _, d := range ends {
					agree(t, []byte{byte(a), byte(b), c, d})
				}
			}
		}
	}
}

func TestSignsOneBehindTheOther(t *testing.T) { // P1.4
	for _, x := range edges {
		for _, y := range edges {
			for _, z := range edges {
				s := utf.Put(x.r) + utf.Put(y.r) + utf.Put(z.r)
				if at := utf.Check(s); at != -1 {
					t.Errorf("Check(%x) = %d", s, at)
				}
				var got []rune
				for at := 0; at < len(s); {
					r, size := utf.Rune(s, at)
					if size == 0 {
						break
					}
					got = append(got, r)
					at += size
				}
				if !slices.Equal(got, []rune{x.r, y.r, z.r}) {
					t.Errorf("%x is gone through as %x", s, got)
				}
			}
		}
	}
}
