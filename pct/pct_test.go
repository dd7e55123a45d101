package pct_test

import (
	"slices"
	"strings"
	"testing"

	"watchbill/api"
	"watchbill/pct"
)

// plainBytes: all of them.
const plainBytes = "ABCDEFGHIJKLMNOPQRSTUVWXYZabcdefghijklmnopqrstuvwxyz0123456789-._~"

// great: the digits to the base 16, with great letters.
const great = "0123456789ABCDEF"

// one: a byte as a text.
func one(c int) string { return string([]byte{byte(c)}) }

// from: the bytes from one to another, both within, as a text.
func from(a, b int) string {
	var l []byte
	for c := a; c <= b; c++ {
		l = append(l, byte(c))
	}
	return string(l)
}

// escape: a byte as its escape, with great letters.
func escape(c int) string { return "%" + great[c/16:c/16+1] + great[c%16:c%16+1] }

// encodes: a text must be encoded so.
func encodes(t *testing.T, s, keep, want string) {
	t.Helper()
	if got := pct.Encode(s, keep); got != want {
		t.Errorf("Encode(%.100q, %.300q) = %.300q, not %.300q", s, keep, got, want)
	}
}

// decodes: a text must be decoded so.
func decodes(t *testing.T, s, want string) {
	t.Helper()
	if got, e := pct.Decode(s); got != want || e != api.OK {
		t.Errorf("Decode(%.300q) = %.300q, %v, not %.300q", s, got, e, want)
	}
}

// refuses: a text must not be decoded, nor anything told beside the error.
func refuses(t *testing.T, s string, want api.Errno) {
	t.Helper()
	if got, e := pct.Decode(s); got != "" || e != want {
		t.Errorf("Decode(%.300q) = %.300q, %v, not %v", s, got, e, want)
	}
}

// parts: a text must have these pieces.
func parts(t *testing.T, s string, by byte, want ...string) {
	t.Helper()
	if got := pct.Pieces(s, by); !slices.Equal(got, want) {
		t.Errorf("Pieces(%.300q, %#x) = %.300q, not %.300q", s, by, got, want)
	}
}

func TestEncode(t *testing.T) { // P9.1
	encodes(t, "", "", "")
	encodes(t, "", "/%a", "")
	encodes(t, "a/b c", "/", "a/b%20c")
	encodes(t, "a/b c", "", "a%2Fb%20c")
	encodes(t, "a/b c", " ", "a%2Fb c")
	encodes(t, "a/b c", "c /", "a/b c")
	encodes(t, "sip:a@x", "", "sip%3Aa%40x")
	encodes(t, "sip:a@x", ":@", "sip:a@x")
	encodes(t, plainBytes, "", plainBytes)
	encodes(t, plainBytes, "a", plainBytes)
	encodes(t, "a+b", "", "a%2Bb")
	encodes(t, "\u00e9\u20ac\U0001f600", "", "%C3%A9%E2%82%AC%F0%9F%98%80")
	encodes(t, "\xff\xc3\x80\x00", "", "%FF%C3%80%00")
	encodes(t, "\r\n\t ", "\n", "%0D\n%09%20")
}

func TestEncodeOfEachByte(t *testing.T) { // P9.1
	all := from(0, 255)
	for c := range 256 {
		itself, want := one(c), escape(c)
		if strings.Contains(plainBytes, itself) {
			want = itself
		}
		encodes(t, itself, "", want)
		encodes(t, itself, one(c^1)+one(c^128), want) // another one kept is not it
		encodes(t, "a"+itself+itself, "", "a"+want+want)
		if c == '%' {
			want, itself = "%25", "%25"
		}
		encodes(t, one(c), one(c), itself)
		encodes(t, one(c), "/"+one(c)+"?", itself)
		encodes(t, one(c), all, itself)
		others := strings.ReplaceAll(all, one(c), "")
		encodes(t, one(c), others, want)
	}
	encodes(t, all, all, strings.Replace(all, "%", "%25", 1))
}

func TestEncodeAtTheEdgesOfThePlainBytes(t *testing.T) { // P9.1
	for _, s := range []string{"/0", "9:", "@A", "Z[", "`a", "z{", ",-", "./", "^_", "_`", "}~", "~\x7f"} {
		for _, c := range s {
			if strings.ContainsRune(plainBytes, c) {
				encodes(t, string(c), "", string(c))
			} else {
				encodes(t, string(c), "", escape(int(c)))
			}
		}
	}
	encodes(t, "/09:@AZ[`az{,-./^_`}~\x7f", "", "%2F09%3A%40AZ%5B%60az%7B%2C-.%2F%5E_%60%7D~%7F")
	// What is a letter or a digit elsewhere is none here.
	encodes(t, "\u0661\u00df\uff21", "", "%D9%A1%C3%9F%EF%BC%A1")
}

func TestEncodeOfPercentSigns(t *testing.T) { // P9.1
	for _, keep := range []string{"", "%", "%%", "/%", "%/", "%41", "%25", "0123456789%", from(0, 255)} {
		encodes(t, "%", keep, "%25")
		encodes(t, "%%", keep, "%25%25")
		encodes(t, "%41", keep, "%2541")
		encodes(t, "%25", keep, "%2525")
		encodes(t, "a%", keep, "a%25")
	}
}

func TestEncodeKeepsBytesOfSigns(t *testing.T) { // P9.1
	encodes(t, "\u00e9", "\u00e9", "\u00e9")
	encodes(t, "\u00e9", "\xc3", "\xc3%A9")
	encodes(t, "\u00e9", "\xa9", "%C3\xa9")
	encodes(t, "\u00e8", "\u00e9", "\xc3%A8") // bytes are kept, not signs
	encodes(t, "\u00c3", "\xc3", "\xc3%83")
	encodes(t, "/\u00e9/", "/", "/%C3%A9/")
}

func TestDecode(t *testing.T) { // P9.1
	decodes(t, "", "")
	decodes(t, "a", "a")
	decodes(t, "a+b", "a+b")
	decodes(t, "a/b%20c", "a/b c")
	decodes(t, "%41%62%2f%2F", "Ab//")
	decodes(t, "list%5b1%5d", "list[1]")
	decodes(t, "\u00e9\u20ac\U0001f600", "\u00e9\u20ac\U0001f600")
	decodes(t, "%00\x00", "\x00\x00")
	decodes(t, " \r\n\t\"<>\x7f", " \r\n\t\"<>\x7f") // what stands without an escape stays
	decodes(t, plainBytes, plainBytes)
	decodes(t, "%c3%a9%C3%A9%c3%A9%C3%a9%cA%bF", "\u00e9\u00e9\u00e9\u00e9\u02bf")
	decodes(t, "%4a%4A", "JJ")
	decodes(t, "4%411", "4A1") // digits about an escape are none of its own
	decodes(t, "%4141", "A41")
}

func TestDecodeOfEachEscape(t *testing.T) { // P9.1
	for c := range 256 {
		for _, s := range []string{escape(c), strings.ToLower(escape(c)), escape(c)[:2] + strings.ToLower(escape(c)[2:]), strings.ToLower(escape(c)[:2]) + escape(c)[2:]} {
			switch {
			case c < 128:
				decodes(t, s, one(c))
				decodes(t, "a"+s+s+"1", "a"+one(c)+one(c)+"1")
			default:
				refuses(t, s, api.ErrUTF)
			}
			if c >= 0x80 && c < 0xC0 {
				decodes(t, "%d0"+s, "\xd0"+one(c))
				decodes(t, "\xd0"+s, "\xd0"+one(c)) // a sign may be told half by an escape
				decodes(t, "%D0"+one(c), "\xd0"+one(c))
			}
		}
	}
}

func TestDecodeOfAllPairsBehindAPercentSign(t *testing.T) { // P9.1
	const digits = great + "abcdef"
	number := 0
	for a := range 256 {
		for b := range 256 {
			s := "%" + one(a) + one(b)
			high, low := strings.IndexByte(digits, byte(a)), strings.IndexByte(digits, byte(b))
			if high < 0 || low < 0 {
				refuses(t, s, api.ErrPercent)
				refuses(t, "%41"+s+"%41", api.ErrPercent)
				continue
			}
			number++
			if high > 15 {
				high -= 6
			}
			if low > 15 {
				low -= 6
			}
			if c := 16*high + low; c < 128 {
				decodes(t, s, one(c))
			} else {
				refuses(t, s, api.ErrUTF)
			}
		}
	}
	if number != 22*22 {
		t.Errorf("%d pairs of digits", number)
	}
}

func TestDecodeOfWrongPercentSigns(t *testing.T) { // P9.1
	for _, ahead := range []string{"", "a", "41", "%41", "%C3%A9", "\u00e9", "%25"} {
		for _, s := range []string{"%", "%4", "%a", "%F", "%%", "%%%", "%4%", "%%4", "%%41", "%%25", "%4%41", "%41%", "%41%4", "%41%%41", "%g4", "%4g", "%G4", "%4G", "%x41", "%0x41", "% 41", "%4 1", "%+4", "%-4", "%4.", "%u0041", "%\u0661\u0661", "%4\u0661", "%\xff4", "%4\xff", "%\x80\x80", "%\x004", "%4\x00"} {
			refuses(t, ahead+s, api.ErrPercent)
		}
		// The neighbours of digits.
		for _, c := range "/:@G`g" {
			refuses(t, ahead+"%"+string(c)+"0", api.ErrPercent)
			refuses(t, ahead+"%4"+string(c), api.ErrPercent)
			refuses(t, ahead+"%"+string(c)+"f41", api.ErrPercent)
			refuses(t, ahead+"%F"+string(c)+"41", api.ErrPercent)
		}
		for c := 128; c < 256; c++ {
			refuses(t, ahead+"%"+one(c)+"0", api.ErrPercent)
			refuses(t, ahead+"%4"+one(c), api.ErrPercent)
		}
	}
}

func TestDecodeOnce(t *testing.T) { // P9.1
	decodes(t, "%25", "%")
	decodes(t, "%2541", "%41")
	decodes(t, "%25%34%31", "%41")
	decodes(t, "%252541", "%2541")
	decodes(t, "%25C3%25A9", "%C3%A9")
	decodes(t, "%25zz", "%zz") // no escape, as it is decoded already
	decodes(t, "%254", "%4")
	decodes(t, "%25%25", "%%")
	decodes(t, "%2525", "%25")
	decodes(t, "%25ff", "%ff")
}

// escapes: all bytes of a text as escapes.
func escapes(s string) string {
	var b strings.Builder
	for i := range len(s) {
		b.WriteString(escape(int(s[i])))
	}
	return b.String()
}

func TestDecodeOfSigns(t *testing.T) { // P9.1
	for _, r := range []rune{0, 'A', 127, 128, 233, 2047, 2048, 8364, 55295, 57344, 65533, 65534, 65535, 65536, 128512, 1114111} {
		s := string(r)
		decodes(t, escapes(s), s)
		decodes(t, strings.ToLower(escapes(s)), s)
		decodes(t, "a"+escapes(s)+"b"+escapes(s), "a"+s+"b"+s)
		// Each of its bytes may be told either way.
		for at := range len(s) {
			decodes(t, s[:at]+escapes(s[at:]), s)
			decodes(t, escapes(s[:at])+s[at:], s)
		}
	}
}

// noSigns: texts that aren't signs throughout.
var noSigns = []string{
	"\x80", "\xbf", "\xa9a", // no first byte
	"\xc3", "\xe2\x82", "\xe2", "\xf0\x9f\x98", "\xf0\x9f", "\xf0", // cut short by the end
	"\xc3a", "\xc3\xc3", "\xe2\x82a", "\xe2a\x82", "\xf0\x9f\x98a", "\xc3/", // cut short by another byte
	"\xc0\x80", "\xc1\xbf", "\xe0\x80\x80", "\xe0\x9f\xbf", "\xf0\x80\x80\x80", "\xf0\x8f\xbf\xbf", // longer than need be
	"\xed\xa0\x80", "\xed\xbf\xbf", "\xed\xa0\xbd\xed\xb8\x80", // halves of a pair
	"\xf4\x90\x80\x80", "\xf5\x80\x80\x80", "\xf7\xbf\xbf\xbf", // past the last sign
	"\xf8\x88\x80\x80\x80", "\xfe", "\xff", // no such length
}

func TestDecodeOfWhatIsNoSigns(t *testing.T) { // P9.1
	for _, s := range noSigns {
		for _, x := range []string{s, escapes(s), strings.ToLower(escapes(s)), s[:1] + escapes(s[1:]), escapes(s[:1]) + s[1:]} {
			refuses(t, x, api.ErrUTF)
			refuses(t, "a"+x+"b", api.ErrUTF)
			refuses(t, "\u00e9%41%25"+x, api.ErrUTF)
			refuses(t, x+"%41\u00e9", api.ErrUTF)
		}
	}
	for c := 128; c < 256; c++ {
		refuses(t, one(c), api.ErrUTF)
		refuses(t, one(c)+"a", api.ErrUTF)
		refuses(t, "a"+one(c), api.ErrUTF)
	}
}

func TestDecodeTellsAWrongPercentSignFirst(t *testing.T) { // P9.1, rule 1
	for _, s := range noSigns {
		for _, wrong := range []string{"%", "%4", "%4g", "%g4", "%%41", "%C3%"} {
			refuses(t, s+wrong, api.ErrPercent)
			refuses(t, escapes(s)+wrong, api.ErrPercent)
			refuses(t, s+"%41"+wrong, api.ErrPercent)
		}
		for _, wrong := range []string{"%/", "%4/", "%4g", "%g4", "%%41", "%%%"} { // and none of s are its digits
			refuses(t, wrong+"/"+s, api.ErrPercent)
			refuses(t, wrong+"/"+escapes(s), api.ErrPercent)
			refuses(t, s+wrong+s, api.ErrPercent)
		}
	}
}

func TestPieces(t *testing.T) { // P9.2
	parts(t, "", '/', "")
	parts(t, "a", '/', "a")
	parts(t, "/", '/', "", "")
	parts(t, "//", '/', "", "", "")
	parts(t, "a//b", '/', "a", "", "b")
	parts(t, "a/b", '/', "a", "b")
	parts(t, "/a", '/', "", "a")
	parts(t, "a/", '/', "a", "")
	parts(t, "/a/", '/', "", "a", "")
	parts(t, "abc/de/f", '/', "abc", "de", "f")
	parts(t, "a/b?c", '?', "a/b", "c")
	parts(t, "a%2Fb/c", '/', "a%2Fb", "c") // nothing is decoded
	parts(t, " a / b ", '/', " a ", " b ") // nor left out
	parts(t, "aXbxc", 'x', "aXb", "c")
	parts(t, "a\x00b\x00", 0, "a", "b", "")
	parts(t, "aaa", 'a', "", "", "", "")
}

func TestPiecesByBytesThatAreNoSigns(t *testing.T) { // P9.2
	parts(t, "a\xffb", 0xff, "a", "b")
	parts(t, "\xff\xff", 0xff, "", "", "")
	parts(t, "\u00e9a\u00e8", 0xc3, "", "\xa9a", "\xa8")
	parts(t, "\u00e9a\u00e9", 0xa9, "\xc3", "a\xc3", "")
	parts(t, "\u00e9", 0xe9, "\u00e9") // a byte, not the sign of that number
	parts(t, "\u00ff\xff", 0xff, "\u00ff", "")
	parts(t, "\u0080", 0x80, "\xc2", "")
	parts(t, "\ufffd\xff", 0x80, "\ufffd\xff")
	parts(t, "\x80\x81", 0x81, "\x80", "")
}

func TestPiecesByEachByte(t *testing.T) { // P9.2
	for c := range 256 {
		by, x, y := byte(c), one(c^1), one(c^128)
		parts(t, "", by, "")
		parts(t, x+y, by, x+y)
		parts(t, one(c), by, "", "")
		parts(t, x+one(c)+y+x, by, x, y+x)
		parts(t, one(c)+x+one(c)+one(c)+y+one(c), by, "", x, "", y, "")
		parts(t, from(0, 255), by, from(0, c-1), from(c+1, 255))
	}
}
