package pct_test

import (
	"fmt"
	"math/rand"
	"net/url"
	"regexp"
	"slices"
	"strings"
	"testing"
	"unicode/utf8"
	"unsafe"

	"watchbill/api"
	"watchbill/pct"
)

// A second reading of the chapter, by patterns, and another reader of escapes (Go's own), against which the package is held.

var (
	plainPattern   = regexp.MustCompile(`^[A-Za-z0-9._~-]$`)
	escapePattern  = regexp.MustCompile(`%[0-9A-Fa-f]{2}`)
	encodedPattern = regexp.MustCompile(`^([A-Za-z0-9._~-]|%[0-9A-F]{2})*$`)
)

// wantedEncode: what Encode should answer.
func wantedEncode(s, keep string) string {
	out := ""
	for _, c := range []byte(s) {
		if c != '%' && (plainPattern.Match([]byte{c}) || strings.IndexByte(keep, c) >= 0) {
			out += string([]byte{c})
		} else {
			out += fmt.Sprintf("%%%02X", c)
		}
	}
	return out
}

// wantedDecode: what Decode should answer.
func wantedDecode(s string) (string, api.Errno) {
	if strings.Contains(escapePattern.ReplaceAllString(s, "-"), "%") {
		return "", api.ErrPercent
	}
	out := escapePattern.ReplaceAllStringFunc(s, func(x string) string {
		var c byte
		fmt.Sscanf(x[1:], "%02x", &c)
		return string([]byte{c})
	})
	if !utf8.ValidString(out) {
		return "", api.ErrUTF
	}
	return out, api.OK
}

// reads: a text must be decoded as it is read here, and as Go's reader of escapes does.
func reads(t *testing.T, s string) api.Errno {
	t.Helper()
	want, wantE := wantedDecode(s)
	got, e := pct.Decode(s)
	if got != want || e != wantE {
		t.Errorf("Decode(%.300q) = %.300q, %v, not %.300q, %v", s, got, e, want, wantE)
	}
	other, err := url.PathUnescape(s)
	if (err != nil) != (e == api.ErrPercent) || e == api.OK && other != got || e == api.ErrUTF && utf8.ValidString(other) {
		t.Errorf("Decode(%.300q) = %.300q, %v, but another reader says %.300q, %v", s, got, e, other, err)
	}
	return e
}

// holds: a text must be encoded as it is read here; and be decoded again, if it is signs.
func holds(t *testing.T, s, keep string) {
	t.Helper()
	got := pct.Encode(s, keep)
	if want := wantedEncode(s, keep); got != want {
		t.Errorf("Encode(%.300q, %.300q) = %.300q, not %.300q", s, keep, got, want)
	}
	rest := got // all but what is kept
	for _, c := range []byte(keep) {
		if c != '%' && !plainPattern.Match([]byte{c}) {
			rest = strings.ReplaceAll(rest, one(int(c)), "")
		}
	}
	if !encodedPattern.MatchString(rest) {
		t.Errorf("Encode(%.300q, %.300q) = %.300q, in which others stand", s, keep, got)
	}
	back, e := pct.Decode(got)
	switch {
	case utf8.ValidString(s) && (back != s || e != api.OK):
		t.Errorf("Decode(%.300q) = %.300q, %v, not %.300q, which was encoded with %.300q kept", got, back, e, s, keep)
	case !utf8.ValidString(s) && (back != "" || e != api.ErrUTF):
		t.Errorf("Decode(%.300q) = %.300q, %v, of what isn't signs", got, back, e)
	}
}

// cuts: a text must have the pieces that are read here.
func cuts(t *testing.T, s string, by byte) {
	t.Helper()
	l := pct.Pieces(s, by)
	number := 1
	for _, c := range []byte(s) {
		if c == by {
			number++
		}
	}
	if len(l) != number {
		t.Errorf("Pieces(%.300q, %#x) = %.300q: %d, not %d", s, by, l, len(l), number)
	}
	if strings.Join(l, one(int(by))) != s {
		t.Errorf("Pieces(%.300q, %#x) = %.300q, which isn't that text", s, by, l)
	}
	if slices.ContainsFunc(l, func(x string) bool { return strings.IndexByte(x, by) >= 0 }) {
		t.Errorf("Pieces(%.300q, %#x) = %.300q, of which one has that byte", s, by, l)
	}
}

// rows: all rows of up to so many pieces behind a beginning are handed to a function.
func rows(n int, s string, pieces []string, of func(s string)) {
	of(s)
	if n == 0 {
		return
	}
	for _, p := range pieces {
		rows(n-1, s+p, pieces, of)
	}
}

func TestDecodeOfAllShortTexts(t *testing.T) { // P9.1
	told := map[api.Errno]int{}
	of := func(s string) { told[reads(t, s)]++ }
	rows(5, "", []string{"%", "4", "1", "g", "a", "%25", "\u00e9"}, of)
	rows(5, "", []string{"%", "2", "5", "%41", "C", "3", "\xa9"}, of)
	rows(4, "", []string{"%c3", "%A9", "\xc3", "\xa9", "%e2", "\x82", "%ac", "%41", "%"}, of)
	rows(5, "%F0", []string{"%9F", "\x98", "%80", "a", "%8f", "%f4"}, of)
	for _, e := range []api.Errno{api.OK, api.ErrPercent, api.ErrUTF} {
		if told[e] < 100 {
			t.Errorf("too few of one kind: %v", told)
		}
	}
}

func TestWhatIsEncodedIsDecoded(t *testing.T) { // P9.1, P9.3
	keeps := []string{"", "/", "%", "a", "@:/", "\u00e9", "\xc3", "\xa9", plainBytes, from(0, 127), from(128, 255), from(0, 255)}
	for _, keep := range keeps {
		rows(4, "", []string{"%", "4", "/", "\u00e9", " ", "\U0001f600", "%41"}, func(s string) { holds(t, s, keep) })
		rows(3, "", []string{"\xc3", "\xa9", "\xff", "a", "%"}, func(s string) { holds(t, s, keep) })
		for r := range rune(0x110000) {
			if r < 4096 || r%251 == 0 || r >= 0x10FFF0 { // of those in between some do
				holds(t, string(r), keep)
			}
		}
		for c := range 256 {
			holds(t, one(c), keep)
			holds(t, one(c), keep+one(c))
		}
	}
}

func TestPiecesOfAllShortTexts(t *testing.T) { // P9.2
	rows(6, "", []string{"/", "a", "\xff", "\u00ff", "%2F"}, func(s string) {
		for _, by := range []byte("/a\xff\xc3\xbf%F\x00z") {
			cuts(t, s, by)
		}
	})
}

// chanceText: bytes by chance; most are signs.
func chanceText(chance *rand.Rand) string {
	var b strings.Builder
	for range chance.Intn(40) {
		switch chance.Intn(6) {
		case 0:
			b.WriteRune(rune(chance.Intn(0x110000)))
		case 1:
			b.WriteString(escape(chance.Intn(128)))
		case 2:
			b.WriteString(strings.ToLower(escapes(string(rune(chance.Intn(0x110000))))))
		default:
			b.WriteByte(byte(32 + chance.Intn(95)))
		}
	}
	s := b.String()
	if chance.Intn(8) > 0 {
		s = strings.ReplaceAll(s, "%", "%25")
	}
	if chance.Intn(8) == 0 && len(s) > 0 {
		at := chance.Intn(len(s))
		s = s[:at] + one(chance.Intn(256)) + s[at:]
	}
	return s
}

func TestOfChance(t *testing.T) { // P9.1, P9.2, P9.3
	chance := rand.New(rand.NewSource(9))
	told := map[api.Errno]int{}
	for range 20000 {
		s, keep := chanceText(chance), ""
		for range chance.Intn(5) {
			keep += one(chance.Intn(256))
		}
		told[reads(t, s)]++
		holds(t, s, keep)
		cuts(t, s, byte(chance.Intn(256)))
		if len(s) > 0 {
			cuts(t, s, s[chance.Intn(len(s))])
		}
	}
	for _, e := range []api.Errno{api.OK, api.ErrPercent, api.ErrUTF} {
		if told[e] < 100 {
			t.Errorf("too few of one kind: %v", told)
		}
	}
}

// loan: bytes as a text of the same memory, and what writes over it.
func loan(s string) (text string, spoil func()) {
	b := []byte(s)
	return unsafe.String(unsafe.SliceData(b), len(b)), func() {
		for i := range b {
			b[i] = '#'
		}
	}
}

func TestAnswersShareNoMemoryWithWhatIsHandedIn(t *testing.T) { // rules 3 and 4
	for _, x := range [][2]string{{"a/b c", "/"}, {"plain", ""}, {"a%41", "ab"}, {"x", "x"}} {
		s, spoil := loan(x[0])
		keep, spoilKeep := loan(x[1])
		want := wantedEncode(x[0], x[1])
		got := pct.Encode(s, keep)
		if s != x[0] || keep != x[1] {
			t.Errorf("Encode turned %q, %q into %q, %q", x[0], x[1], s, keep)
		}
		spoil()
		spoilKeep()
		if got != want {
			t.Errorf("Encode(%q, %q) became %q", x[0], x[1], got)
		}
		encodes(t, x[0], x[1], want)
	}
	for _, x := range []string{"a", "%41%62", "\u00e9%C3%A9", "plain"} {
		s, spoil := loan(x)
		want, _ := wantedDecode(x)
		got, e := pct.Decode(s)
		if s != x {
			t.Errorf("Decode turned %q into %q", x, s)
		}
		spoil()
		if got != want || e != api.OK {
			t.Errorf("Decode(%q) became %q, %v", x, got, e)
		}
		decodes(t, x, want)
	}
	for _, x := range []string{"%", "a%4", "\xff", "%C3"} {
		s, _ := loan(x)
		if pct.Decode(s); s != x {
			t.Errorf("Decode turned %q into %q", x, s)
		}
	}
	for _, x := range []string{"a/b//c", "/", "abc", "/abc/", "a/b/c/d/e/f/g/h"} {
		s, spoil := loan(x)
		got := pct.Pieces(s, '/')
		if s != x {
			t.Errorf("Pieces turned %q into %q", x, s)
		}
		spoil()
		parts(t, x, '/', got...)
	}
}

func TestListsOfPiecesShareNoMemory(t *testing.T) { // rules 3 and 4
	first, second := pct.Pieces("a/b//c", '/'), pct.Pieces("a/b//c", '/')
	for i := range first[:cap(first)] {
		first[:cap(first)][i] = "spoilt"
	}
	if !slices.Equal(second, []string{"a", "b", "", "c"}) {
		t.Errorf("another answer became %q", second)
	}
	parts(t, "a/b//c", '/', "a", "b", "", "c")
	parts(t, "", '/', "")
}

func TestNothingIsKept(t *testing.T) { // rule 4
	for range 3 {
		encodes(t, "a/b", "/", "a/b")
		encodes(t, "a/b", "", "a%2Fb")
		refuses(t, "%C3", api.ErrUTF)
		decodes(t, "%41", "A")
		refuses(t, "%A9", api.ErrUTF)
		refuses(t, "%4", api.ErrPercent)
		decodes(t, "1", "1")
	}
}

func TestLongTextsAreGoneThroughQuickly(t *testing.T) { // rule 5
	n := 1 << 20
	for _, x := range [][2]string{{"a", "a"}, {"/", "%2F"}, {"%", "%25"}, {"\u00e9", "%C3%A9"}, {"\xff", "%FF"}} {
		encodes(t, strings.Repeat(x[0], n), "", strings.Repeat(x[1], n))
		encodes(t, strings.Repeat(x[0], n), strings.Repeat("?", n), strings.Repeat(x[1], n))
	}
	encodes(t, strings.Repeat("/", n), strings.Repeat("?", n)+"/", strings.Repeat("/", n))
	decodes(t, strings.Repeat("%41", n), strings.Repeat("A", n))
	decodes(t, strings.Repeat("\u00e9", n), strings.Repeat("\u00e9", n))
	decodes(t, strings.Repeat("%25", n), strings.Repeat("%", n))
	refuses(t, strings.Repeat("%", n), api.ErrPercent)
	refuses(t, strings.Repeat("%41", n)+"%", api.ErrPercent)
	refuses(t, strings.Repeat("%FF", n)+"%4", api.ErrPercent)
	refuses(t, strings.Repeat("%FF", n), api.ErrUTF)
	for _, s := range []string{"/", "a", "a/", "\xff", "//a"} {
		cuts(t, strings.Repeat(s, n), '/')
		cuts(t, strings.Repeat(s, n), 0xff)
	}
}

func FuzzDecode(f *testing.F) { // P9.1
	for _, s := range []string{"", "a/b%20c", "%C3%A9", "%4", "%2541", "%%41", "\xff%"} {
		f.Add(s)
	}
	f.Fuzz(func(t *testing.T, s string) { reads(t, s) })
}

func FuzzEncode(f *testing.F) { // P9.1, P9.2, P9.3
	f.Add("a/b c", "/", byte('/'))
	f.Add("%41\u00e9\xff", "%", byte(0xff))
	f.Fuzz(func(t *testing.T, s, keep string, by byte) {
		holds(t, s, keep)
		cuts(t, s, by)
	})
}
