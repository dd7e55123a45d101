package part_test

import (
	"slices"
	"strconv"
	"strings"
	"testing"

	"watchbill/api"
	"watchbill/part"
)

// one: a part of a body, and fields of names and values in turn.
func one(body string, l ...string) api.Part {
	p := api.Part{Body: body}
	for i := 0; i < len(l); i += 2 {
		p.Fields = append(p.Fields, api.Field{Name: l[i], Value: l[i+1]})
	}
	return p
}

// bodies: a part without fields of each body.
func bodies(l ...string) []api.Part {
	var out []api.Part
	for _, s := range l {
		out = append(out, one(s))
	}
	return out
}

// many: so many parts.
func many(n int) []api.Part { return slices.Repeat(bodies("x"), n) }

// xs: so many bytes.
func xs(n int) string { return strings.Repeat("x", n) }

// alike: are parts the same?
func alike(a, b []api.Part) bool {
	return slices.EqualFunc(a, b, func(p, q api.Part) bool { return p.Body == q.Body && slices.Equal(p.Fields, q.Fields) })
}

// prints: parts must be printed so.
func prints(t *testing.T, boundary, want string, l ...api.Part) {
	t.Helper()
	if s, e := part.Print(boundary, l...); s != want || e != api.OK {
		t.Errorf("Print(%.100q, %.300q) = %.300q, %v, not %.300q", boundary, l, s, e, want)
	}
}

// refuses: parts must not be printed.
func refuses(t *testing.T, boundary string, want api.Errno, l ...api.Part) {
	t.Helper()
	if s, e := part.Print(boundary, l...); s != "" || e != want {
		t.Errorf("Print(%.100q, %.300q) = %.300q, %v, not %v", boundary, l, s, e, want)
	}
}

// parses: bytes must be parsed so.
func parses(t *testing.T, s, boundary string, want ...api.Part) {
	t.Helper()
	if l, e := part.Parse(s, boundary); !alike(l, want) || e != api.OK {
		t.Errorf("Parse(%.300q, %.100q) = %.300q, %v, not %.300q", s, boundary, l, e, want)
	}
}

// wrong: bytes must not be parsed.
func wrong(t *testing.T, s, boundary string, want api.Errno) {
	t.Helper()
	if l, e := part.Parse(s, boundary); len(l) != 0 || e != want {
		t.Errorf("Parse(%.300q, %.100q) = %.300q, %v, not %v", s, boundary, l, e, want)
	}
}

// chooses: of parts that boundary must be chosen; it clashes with none of them, while each ahead of it does.
func chooses(t *testing.T, want int, l ...api.Part) {
	t.Helper()
	got := part.Choose(l...)
	if got != "wb"+strconv.Itoa(want) {
		t.Errorf("Choose(%.300q) = %q, not wb%d", l, got, want)
	}
	for n := 1; n < want; n++ {
		refuses(t, "wb"+strconv.Itoa(n), api.ErrBoundary, l...)
	}
	if s, e := part.Print(got, l...); e == api.ErrBoundary {
		t.Errorf("Print(%q, %.300q) = %.300q, %v", got, l, s, e)
	}
}

func TestChoose(t *testing.T) { // P8.1
	chooses(t, 1)
	chooses(t, 1, bodies("")...)
	chooses(t, 1, bodies("hi", "--", "--wb", "--wb--", "--wb0", "--b", "--w", "-wb1", "wb1", "--wb2", "--WB1", "--wB1", "-- wb1", "--wb 1", "--wb-1", "--wb+1")...)
	chooses(t, 2, bodies("--wb1")...)
	chooses(t, 2, bodies("", "x\r\n--wb1--\r\n", "")...)
	chooses(t, 2, bodies("x\r\n--wb1", "\r\n--wb1", "--wb1", "--wb3")...)
	chooses(t, 3, bodies("--wb2\r\n--wb1")...)
	chooses(t, 4, bodies("--wb1\r\n--wb3", "z\r\n--wb2--")...)
	chooses(t, 1, bodies("x--wb1", "\n--wb1", "\r--wb1", "\n\r--wb1", "\r\n --wb1", "\r\n-wb1", "\r\n\n--wb1", "--wb--wb1", "--wb\n--wb1", "--w\r\nb1")...)
	chooses(t, 2, bodies("x\r\n--wb\r\n--wb1")...)
}

func TestChooseOfNames(t *testing.T) { // P8.1
	chooses(t, 2, one("", "--wb1", "v"))
	chooses(t, 3, one("x", "a", "b", "--wb1", ""), one("--wb2"))
	chooses(t, 4, one("", "--wb2x", "v", "--wb3", ""), one("", "--wb1", "v"))
	chooses(t, 1, one("", "--wb", "1", "--wb:1", "v", "-wb1", "v", "wb1", "v", "x--wb1", "v", "x\r\n--wb1", "v", "\r\n--wb1", "v", "--Wb1", "v", "a", "--wb1"))
	chooses(t, 1, one("", "a", "b\r\n--wb1"))
}

func TestChooseWhereNumbersBeginAlike(t *testing.T) { // P8.1
	nine := taken(10)
	chooses(t, 10, bodies(nine...)...)
	chooses(t, 10, bodies(strings.Join(nine, "\r\n"))...)
	chooses(t, 11, bodies(append(nine, "--wb10")...)...)
	chooses(t, 10, bodies(append(nine, "--wb11", "--wb010", "--wb0x10")...)...)
	chooses(t, 2, bodies("--wb10")...) // of which wb1 is the beginning
	chooses(t, 2, bodies("--wb12345")...)
	chooses(t, 3, bodies("--wb12345", "--wb23")...)
	chooses(t, 1, bodies("--wb01", "--wb001", "--wb012", "--wb00000000000000000000001")...)
	var most []string
	for n := 20; n < 120; n++ {
		most = append(most, "--wb"+strconv.Itoa(n)+"-")
	}
	slices.Reverse(most)
	chooses(t, 12, bodies(strings.Join(most, "\r\n"), "--wb10", "--wb11")...)
	chooses(t, 120, bodies(strings.Join(most, "\r\n"), "--wb10\r\n--wb11\r\n--wb12\r\n--wb13\r\n--wb14\r\n--wb15", "--wb16\r\n--wb17\r\n--wb18\r\n--wb19")...)
	for _, c := range []string{"/", ":", "a", "_", "-", "\u0661", "\xff", "\x00"} { // neighbours of digits, and others
		chooses(t, 3, bodies("--wb1"+c+"\r\n--wb2"+c+"0")...)
		chooses(t, 2, bodies("--wb1"+c+"\r\n--wb"+c+"2")...)
	}
}

func TestChooseWhereNumbersEnd(t *testing.T) { // P8.1
	// Whatever stands behind a number, it ends there, and takes none of those that are free.
	var behind []string
	for i := range 256 {
		if c := byte(i); c < '0' || c > '9' {
			behind = append(behind, "--wb"+string([]byte{c}), "--wb1"+string([]byte{c, '1'}))
		}
	}
	other := one(strings.Join(behind, "\r\n"))
	for n := 2; n < 600; n++ {
		if got := part.Choose(other, one(strings.Join(taken(n), "\r\n"))); got != "wb"+strconv.Itoa(n) {
			t.Errorf("Choose where %d is free: %q", n, got)
		}
	}
}

// taken: lines that clash with all boundaries up to a number.
func taken(n int) []string {
	var out []string
	for i := 1; i < n; i++ {
		out = append(out, "--wb"+strconv.Itoa(i))
	}
	return out
}

func TestChooseWhereNumbersAreLong(t *testing.T) { // P8.1
	// Numbers that a machine's integers would wrap round to a small one.
	for _, s := range []string{"4294967297", "4294967298", "8589934593", "18446744073709551617", "18446744073709551618", "340282366920938463463374607431768211457", "21474836480", "2147483648", "99999999999999999999", strings.Repeat("9", 100000)} {
		first := int(s[0] - '0')
		chooses(t, first+1, bodies(append(taken(first), "--wb"+s)...)...)
	}
	for _, s := range []string{"5000000001", "5000000000000000000001", "50000000000000000000000000000000000000002", "92233720368547758081"} {
		chooses(t, 1, bodies("--wb"+s)...)
	}
}

func TestPrint(t *testing.T) { // P8.1
	prints(t, "b", "--b\r\n\r\nhi\r\n--b--\r\n", one("hi"))
	prints(t, "b", "--b\r\n\r\n\r\n--b--\r\n", one(""))
	prints(t, "b", "--b\r\na: c\r\nD: e f\r\n\r\nhi\r\n--b--\r\n", one("hi", "a", "c", "D", "e f"))
	prints(t, "b", "--b\r\nA: 1\r\n\r\nx\r\n\r\n--b\r\n\r\n\r\n--b\r\nB:\r\n\r\n\x00\xff\r\n--b--\r\n", one("x\r\n", "A", "1"), one(""), one("\x00\xff", "B", ""))
	prints(t, "a.b:c", "--a.b:c\r\n\r\n-\r\n--a.b:c\r\n\r\n--\r\n--a.b:c--\r\n", bodies("-", "--")...)
	long := strings.Repeat("a", 40)
	prints(t, "b", "--b\r\nn: "+long+"\r\n "+long+"\r\n\r\nx\r\n--b--\r\n", one("x", "n", long+" "+long))
	prints(t, "b", "--b\r\n\r\n"+xs(40000)+"\r\n--b--\r\n", one(xs(40000)))
	prints(t, "b", "--b\r\n"+strings.Repeat("n: v\r\n", 8)+"\r\nx\r\n--b--\r\n", one("x", strings.Split(strings.Repeat("n v ", 8), " ")[:16]...))
}

func TestPrintOfManyParts(t *testing.T) { // P8.1
	prints(t, "b", strings.Repeat("--b\r\n\r\nx\r\n", 40)+"--b--\r\n", many(40)...)
	refuses(t, "b", api.ErrShort)
	refuses(t, "b", api.ErrLong, many(41)...)
	refuses(t, "b", api.ErrLong, many(500)...)
	refuses(t, "b", api.ErrLong, make([]api.Part, 41)...)
}

// boundaryByte: may it stand in a boundary?
func boundaryByte(c byte) bool {
	return c >= 'A' && c <= 'Z' || c >= 'a' && c <= 'z' || c >= '0' && c <= '9' || slices.Contains([]byte{'\'', '(', ')', '+', '_', ',', '-', '.', '/', ':', '=', '?'}, c)
}

func TestBoundariesOfEachByte(t *testing.T) { // P8.1, P8.2
	number := 0
	for i := range 256 {
		c := string([]byte{byte(i)})
		if boundaryByte(byte(i)) {
			number++
		}
		for _, b := range []string{c, c + "a", "a" + c, "a" + c + "b", xs(69) + c} {
			s := "--" + b + "\r\n\r\nx\r\n--" + b + "--\r\n"
			if boundaryByte(byte(i)) {
				prints(t, b, s, one("x"))
				parses(t, s, b, one("x"))
			} else {
				refuses(t, b, api.ErrBoundary, one("x"))
				wrong(t, s, b, api.ErrBoundary)
			}
		}
	}
	if number != 26+26+10+12 {
		t.Errorf("%d bytes may stand in a boundary", number)
	}
}

func TestBoundariesOfEachLength(t *testing.T) { // P8.1, P8.2
	for n := range 200 {
		b := xs(n)
		s := "--" + b + "\r\n\r\ny\r\n--" + b + "--\r\n"
		if n >= 1 && n <= 70 {
			prints(t, b, s, one("y"))
			parses(t, s, b, one("y"))
		} else {
			refuses(t, b, api.ErrBoundary, one("y"))
			wrong(t, s, b, api.ErrBoundary)
		}
	}
	for _, b := range []string{"\u00e9", "a\u00e9", "a b", " b", "b ", "b\r\n", "a\r\nb", "\"b\"", "a;b", "a*b", "\xff", "a\x00", xs(70) + " "} {
		refuses(t, b, api.ErrBoundary, one("y"))
		wrong(t, "--"+b+"\r\n\r\ny\r\n--"+b+"--\r\n", b, api.ErrBoundary)
	}
}

func TestPrintOfBodiesThatClash(t *testing.T) { // P8.1
	for _, body := range []string{"--b", "--b--", "--bc", "--b\r\n", "--b x", "\r\n--b", "x\r\n--b", "x\r\n--b--\r\ny", "x\r\n--bc\r\ny", "x\r\n\r\n--b", "\r\r\n--b", "\n\r\n--b", "x--b\r\n--b", "--x\r\n--b", "\r\n--\r\n--b", "--\r\n--b"} {
		refuses(t, "b", api.ErrBoundary, one(body))
		refuses(t, "b", api.ErrBoundary, one("x"), one("y", "a", "b"), one(body))
		refuses(t, "b", api.ErrBoundary, one(body, "a", "b"), one("x"))
	}
	for _, body := range []string{"b", "-b", "--", "--B", "-- b", "--\r\nb", "x--b", " --b", "---b", "\n--b", "\r--b", "x\n--b", "x\r--b", "\n\r--b", "\r\n --b", "\r\n-b", "x\r\n-", "x\r\n--", "\r\n--a", "\r\n---b", "\r\n\n--b", "\r\n\r--b", "-", "x\r", "x\n", "x\r\n"} {
		prints(t, "b", "--b\r\n\r\n"+body+"\r\n--b--\r\n", one(body))
		parses(t, "--b\r\n\r\n"+body+"\r\n--b--\r\n", "b", one(body))
	}
	refuses(t, "-", api.ErrBoundary, one("---"))
	refuses(t, "-", api.ErrBoundary, one("----"))
	refuses(t, "-", api.ErrBoundary, one("x\r\n---"))
	prints(t, "-", "---\r\n\r\n--\r\n-----\r\n", one("--"))
	prints(t, "--", "----\r\n\r\n---\r\n------\r\n", one("---"))
	refuses(t, xs(70), api.ErrBoundary, one("--"+xs(70)))
	refuses(t, xs(70), api.ErrBoundary, one("--"+xs(71)))
	prints(t, xs(70), "--"+xs(70)+"\r\n\r\n--"+xs(69)+"\r\n--"+xs(70)+"--\r\n", one("--"+xs(69)))
}

func TestPrintOfNamesThatClash(t *testing.T) { // P8.1
	for _, name := range []string{"--b", "--bx", "--b--", "--bb", "--b\r\n", "--b:"} {
		refuses(t, "b", api.ErrBoundary, one("", name, "v"))
		refuses(t, "b", api.ErrBoundary, one("x", "a", "c", name, ""))
		refuses(t, "b", api.ErrBoundary, one(""), one("x", name, "v", "a", "c"), one("y"))
	}
	for _, name := range []string{"b", "-b", "---b", "--", "--B", "x--b", "--a", "-", "--x--b"} {
		prints(t, "b", "--b\r\n"+name+": v\r\n\r\nx\r\n--b--\r\n", one("x", name, "v"))
		parses(t, "--b\r\n"+name+": v\r\n\r\nx\r\n--b--\r\n", "b", one("x", name, "v"))
	}
	// The colon behind a name may be the boundary's own.
	refuses(t, "b:", api.ErrBoundary, one("", "--b", "v"))
	refuses(t, "b:", api.ErrBoundary, one("", "--b", ""))
	prints(t, "b:", "--b:\r\n--bc: v\r\n\r\n\r\n--b:--\r\n", one("", "--bc", "v"))
	refuses(t, ":", api.ErrBoundary, one("", "--", ""))
	prints(t, "b:c", "--b:c\r\n--b: c\r\n\r\n\r\n--b:c--\r\n", one("", "--b", "c"))
	prints(t, "b::", "--b::\r\n--b: :\r\n\r\n\r\n--b::--\r\n", one("", "--b", ":"))
	// Values and lines behind the first one begin with a blank.
	long := xs(70)
	prints(t, "b", "--b\r\nn: --b\r\n\r\n\r\n--b--\r\n", one("", "n", "--b"))
	prints(t, "b", "--b\r\nn: "+long+"\r\n --b\r\n\r\n\r\n--b--\r\n", one("", "n", long+" --b"))
}

func TestPrintOfFieldsThatAreRefused(t *testing.T) { // P8.1
	nine := one("", strings.Split(strings.Repeat("n v ", 9), " ")[:18]...)
	for _, x := range []struct {
		p    api.Part
		want api.Errno
	}{
		{nine, api.ErrLong},
		{one("", "", "v"), api.ErrName},
		{one("", "a b", "v"), api.ErrName},
		{one("", xs(65), "v"), api.ErrName},
		{one("", "n", " v"), api.ErrForm},
		{one("", "n", "v\r\n--b"), api.ErrForm},
		{one("", "n", xs(996)), api.ErrLong},
		{one("", "n", "v\t", "", ""), api.ErrForm},
		{one("", "", "v\t", "n", xs(996)), api.ErrName},
	} {
		refuses(t, "b", x.want, x.p)
		refuses(t, "b", x.want, one("x", "n", "v"), x.p, one(""))
		// The first one that is refused is told.
		refuses(t, "b", x.want, x.p, one("", "n", "\n"), nine, one("", "", ""))
		refuses(t, "b", x.want, one(""), one("y"), x.p, one("", "a:", ""))
	}
}

func TestPrintTellsTheFirstError(t *testing.T) { // P8.1
	clash, bad := one("--b"), one("", "a b", "\n")
	refuses(t, "", api.ErrBoundary)
	refuses(t, "a b", api.ErrBoundary)
	refuses(t, xs(71), api.ErrBoundary, append(many(41), bad)...)
	refuses(t, "b", api.ErrBoundary, append(many(41), clash)...)
	refuses(t, "b", api.ErrBoundary, append([]api.Part{bad, clash}, many(41)...)...)
	refuses(t, "b", api.ErrBoundary, bad, clash)
	refuses(t, "b", api.ErrBoundary, one("", "a b", "", "--b", ""))
	refuses(t, "b", api.ErrLong, append([]api.Part{bad}, many(40)...)...)
	refuses(t, "b", api.ErrName, append([]api.Part{bad}, many(39)...)...)
	refuses(t, "b", api.ErrName, append(many(39), bad)...)
}

func TestParse(t *testing.T) { // P8.2
	parses(t, "--b\r\n\r\nhi\r\n--b--", "b", one("hi"))
	parses(t, "--b\r\n\r\nhi\r\n--b--\r\n", "b", one("hi"))
	parses(t, "--b\r\na: c\r\nD:e\r\n f\r\n\r\nhi\r\n--b--", "b", one("hi", "a", "c", "D", "e f"))
	parses(t, "--b\r\n\r\n\r\n--b--", "b", one(""))
	parses(t, "--b\r\na:\r\n\r\n\r\n--b\r\n\r\n\r\n\r\n--b--", "b", one("", "a", ""), one("\r\n"))
	parses(t, "--b\r\n\r\n\x00\xff\r\n--b\r\n\r\na: b\r\n\r\n\r\n--b--", "b", one("\x00\xff"), one("a: b\r\n\r\n"))
	parses(t, "--a:b\r\n\r\n--a\r\n--a:b--", "a:b", one("--a"))
}

func TestParseOfWhatStandsAheadAndBehind(t *testing.T) { // P8.2
	body := "--b\r\n\r\nhi\r\n--b--"
	for _, s := range []string{"", "\r\n", "pre\r\n", "x--b\r\n", "\n--b\r\n", "\r--b--\r\n", " --b\r\n\r\n", "--\r\n", "--\r\nb\r\n", "-\r\n", "a: b\r\n\r\n", "--B\r\n\r\nx\r\n--B--\r\n", "\x00\xff\r\n", "\r\r\n", "\n\r\n", "---b\r\n", strings.Repeat("--a\r\n\r\n\r\n", 50), xs(2000) + "\r\n"} {
		parses(t, s+body, "b", one("hi"))
	}
	for _, s := range []string{"", "\r\n", "post", "-", "--", "b", " ", "\r\n--b", "\r\n--b\r\n", "\r\n--b\r\n\r\nx\r\n--b--", "\r\n--b x", "\r\n--b--", "\n", "\x00\xff", strings.Repeat("\r\n--b\r\n\r\n", 50)} {
		parses(t, body+s, "b", one("hi"))
	}
	parses(t, "pre\r\n--b \t\r\nA: 1\r\n\r\nx\r\n\r\n--b\r\n\r\n\r\n--b--post", "b", one("x\r\n", "A", "1"), one(""))
}

func TestParseWithoutADelimiter(t *testing.T) { // P8.2
	for _, s := range []string{"", "-", "--", "b", "-b", "--B\r\n", "-- b", "x--b", "x--b\r\n\r\n\r\n--", " --b--", "\n--b\r\n\r\n\r\n--a", "\r--b", "\n\r--b", "\r\n --b", "\r\n-b", "\r\n-", "\r\n", "---b", "--\r\nb", "\r\n\n--b", "\r\n\r--b"} {
		wrong(t, s, "b", api.ErrBoundary)
	}
	for _, b := range []string{"", " ", "b ", xs(71)} { // no boundary, whatever stands there
		for _, s := range []string{"", "--\r\n", "--\r\n\r\nx\r\n----", "--" + b + "\r\n\r\nx\r\n--" + b + "--\r\n", "--b\r\n\r\nx\r\n--b--\r\n"} {
			wrong(t, s, b, api.ErrBoundary)
		}
	}
}

func TestParseWhereDelimitersStand(t *testing.T) { // P8.2
	// Not one, but in a part's body.
	for _, s := range []string{"x--b", "x\n--b", "x\r--b", "x--b\r\ny", "\n--b--", "\r--b\r\ny", "x\n\r--b", " --b--", "\r\n --b", "---b", "--\r\nb", "x\r\n--", "--B", "--a", "x\r\n-", "-", "\r\n-\r\n--", "\r", "\n"} {
		parses(t, "--b\r\n\r\n"+s+"\r\n--b--", "b", one(s))
		parses(t, "--b\r\n\r\n"+s+"\r\n--b\r\na: c\r\n\r\n"+s+"\r\n--b--", "b", one(s), one(s, "a", "c"))
		wrong(t, "--b\r\n\r\n"+s, "b", api.ErrShort)
	}
	// A body's last bytes don't make its line end.
	parses(t, "--b\r\n\r\nx\r\r\n--b--", "b", one("x\r"))
	parses(t, "--b\r\n\r\nx\n\r\n--b--", "b", one("x\n"))
	parses(t, "--b\r\n\r\nx\r\n\r\n--b--", "b", one("x\r\n"))
	// Boundaries of dashes.
	parses(t, "---\r\n\r\n--\r\n-----", "-", one("--"))
	parses(t, "---\r\n\r\n-\r\n-- -\r\n-----", "-", one("-\r\n-- -"))
	wrong(t, "-----", "-", api.ErrShort)
	wrong(t, "----", "-", api.ErrForm)
	parses(t, "----\r\n\r\n---\r\n------", "--", one("---"))
	parses(t, "--b--\r\n\r\nx\r\n--b----", "b--", one("x"))
	wrong(t, "--b--\r\n\r\nx\r\n--b----", "b", api.ErrShort)
}

func TestParseOfTheLastDelimiter(t *testing.T) { // P8.2
	for _, s := range []string{"--b--", "--b--\r\n", "pre\r\n--b--", "\r\n--b--", "--b--\r\n--b\r\n\r\nx\r\n--b--", "--b---", "--b--x", "--b-- \r\n\r\n\r\n--b--"} {
		wrong(t, s, "b", api.ErrShort)
	}
	wrong(t, "--b -- \r\n\r\n\r\n--b--", "b", api.ErrForm)
	wrong(t, "--b-\r\n\r\n\r\n--b--", "b", api.ErrForm)
	wrong(t, "--b- -\r\n\r\n\r\n--b--", "b", api.ErrForm)
	wrong(t, "--b\r\n\r\n\r\n--b-", "b", api.ErrForm)
	wrong(t, "--b\r\n\r\n\r\n--b --", "b", api.ErrForm)
}

func TestParseBehindADelimiter(t *testing.T) { // P8.2
	for _, s := range []string{"", " ", "\t", "  ", " \t \t", strings.Repeat(" ", 2000)} {
		parses(t, "--b"+s+"\r\n\r\nhi\r\n--b--", "b", one("hi"))
		parses(t, "--b\r\n\r\nhi\r\n--b"+s+"\r\n\r\nyo\r\n--b--", "b", one("hi"), one("yo"))
		wrong(t, "--b"+s, "b", api.ErrForm)
		wrong(t, "--b\r\n\r\nhi\r\n--b"+s, "b", api.ErrForm)
		wrong(t, "--b"+s+"\r", "b", api.ErrForm)
		wrong(t, "--b"+s+"\n", "b", api.ErrForm)
		wrong(t, "--b"+s+"\r\n", "b", api.ErrShort)
	}
	for i := range 256 {
		c := string([]byte{byte(i)})
		for _, s := range []string{c, " " + c, "\t" + c, " " + c + " "} {
			if c == " " || c == "\t" {
				parses(t, "--b"+s+"\r\n\r\nhi\r\n--b--", "b", one("hi"))
				continue
			}
			wrong(t, "--b"+s+"\r\n\r\nhi\r\n--b--", "b", api.ErrForm)
			wrong(t, "--b\r\n\r\nhi\r\n--b"+s+"\r\n\r\nhi\r\n--b--", "b", api.ErrForm)
		}
	}
	for _, s := range []string{"\r", "\n", "\n\r", "\r\r", "\n\n", "\v\r\n", "\f\r\n", "\u00a0\r\n", "c\r\n", ":\r\n", "-\r\n", "\x00\r\n", " x\r\n", " \n", "\r \n"} {
		wrong(t, "--b"+s+"\r\nhi\r\n--b--", "b", api.ErrForm)
	}
	// A delimiter of a longer boundary is one of its beginning, too.
	wrong(t, "--bc\r\n\r\nhi\r\n--bc--", "b", api.ErrForm)
	wrong(t, "--b\r\n\r\nhi\r\n--bc\r\n\r\n--b--", "b", api.ErrForm)
}

func TestParseOfDelimitersBehindOneAnother(t *testing.T) { // P8.2
	wrong(t, "--b\r\n--b--", "b", api.ErrShort)
	wrong(t, "--b\r\n--b\r\n\r\n\r\n--b--", "b", api.ErrShort)
	wrong(t, "--b\r\n--bx", "b", api.ErrShort) // ahead of what stands behind the next one
	wrong(t, "--b \r\n--b--", "b", api.ErrShort)
	wrong(t, "--b\r\n\r\n--b--", "b", api.ErrShort)
	wrong(t, "--b\r\na: b\r\n--b--", "b", api.ErrShort)
	wrong(t, "--b\r\na: b\r\n\r\n--b--", "b", api.ErrShort)
	parses(t, "--b\r\na: b\r\n\r\n\r\n--b--", "b", one("", "a", "b"))
	wrong(t, "--b\r\n\r\nhi\r\n--b\r\n--b--", "b", api.ErrShort)
	wrong(t, "--b\r\n\r\nhi\r\n--b\r\n\r\n--b--", "b", api.ErrShort)
}

func TestParseOfAPartThatNothingFollows(t *testing.T) { // P8.2
	for _, s := range []string{"--b\r\n", "--b\r\n\r\n", "--b\r\n\r\nx", "--b\r\n\r\nx\r\n", "--b\r\n\r\nx\r\n--", "--b\r\n\r\nx--b--", "--b\r\n\r\nx\n--b--", "--b\r\nab\r\n\r\n", "--b\r\n:\r\n\r\n\r\n", "--b\r\n-b--", "--b\r\n\n--b--", "--b\r\n\r--b--"} {
		wrong(t, s, "b", api.ErrShort)
		wrong(t, "--b\r\n\r\nhi\r\n"+s, "b", api.ErrShort)
	}
}

func TestParseOfManyParts(t *testing.T) { // P8.2
	forty, next := strings.Repeat("--b\r\n\r\nx\r\n", 40), "--b\r\n\r\nx\r\n"
	parses(t, forty+"--b--", "b", many(40)...)
	parses(t, forty+"--b--\r\n"+next+"--b--", "b", many(40)...)
	wrong(t, forty+next+"--b--", "b", api.ErrLong)
	wrong(t, forty+forty+"--b--", "b", api.ErrLong)
	wrong(t, forty+next+"--b", "b", api.ErrLong) // ahead of what stands behind the next delimiter
	wrong(t, forty+"--b\r\nab\r\n\r\n\r\n--b--", "b", api.ErrLong)
	wrong(t, forty+"--b\r\n--b--", "b", api.ErrLong)
	// Behind what is named ahead of it.
	wrong(t, forty+next, "b", api.ErrShort)
	wrong(t, forty+"--bx\r\n\r\n\r\n--b--", "b", api.ErrForm)
	wrong(t, forty+"--b", "b", api.ErrForm)
	wrong(t, forty, "b", api.ErrShort)
}

func TestParseOfFieldsThatAreWrong(t *testing.T) { // P8.2
	nine := strings.Repeat("a: b\r\n", 9)
	for s, want := range map[string]api.Errno{
		"": api.ErrShort, "x": api.ErrShort, "a: b": api.ErrShort, "a: b\r\n c": api.ErrShort, nine: api.ErrLong, nine + "\r\nx": api.ErrLong,
		"ab\r\n\r\nx": api.ErrForm, " a: b\r\n\r\nx": api.ErrForm, "a: \x00\r\n\r\n": api.ErrForm, ": b\r\n\r\nx": api.ErrName, "a b: c\r\n\r\n": api.ErrName, "a:" + xs(997) + "\r\n\r\n": api.ErrLong, "a: b\n\r\n\r\nx": api.ErrForm,
	} {
		at := "--b\r\n" + s + "\r\n--b"
		for _, behind := range []string{"--", "--\r\n", "", "x", "\r\n", "\r\nab\r\n\r\n\r\n--b--", "\r\n:\r\n\r\n\r\n--b--", "\r\n\r\n\r\n--b--", strings.Repeat("\r\n\r\nx\r\n--b", 41) + "--"} {
			wrong(t, at+behind, "b", want) // ahead of all later errors
			wrong(t, "pre\r\n--b\r\nc: d\r\n\r\nhi\r\n"+at+behind, "b", want)
		}
	}
	wrong(t, strings.Repeat("--b\r\n\r\nx\r\n", 39)+"--b\r\n:\r\n\r\n\r\n--b\r\n\r\n\r\n--b--", "b", api.ErrName)
}

func TestWhatIsPrintedIsParsedAsItWas(t *testing.T) { // P8.3
	l := []api.Part{one("", "Content-Type", "text/xml; charset=\"x\"", "Content-ID", "<a@b>"), one("\r\n--a\r\n\x00\xff--b--"), one("x\r\n\r\n", "n", xs(300)+" "+xs(80)+" y"), one("\r"), one("\n"), one("--"), one("-"), one("")}
	for _, b := range []string{"b", "wb1", "-", "--", ":", "'()+_,-./:=?", xs(70)} {
		s, e := part.Print(b, l...)
		if e != api.OK {
			t.Fatal(e)
		}
		for _, ahead := range []string{"", "pre\r\n", "\r\n\r\n", "\r\r\n", "x--" + b + "\r\n", " --" + b + "--\r\n", "\n--" + b + "\r\n", "-\r\n", "\x00\xff\r\n"} {
			for _, behind := range []string{"", "\r\n", "post", "--" + b + "\r\n", "--" + b + "--\r\n", s, "\x00\xff"} {
				parses(t, ahead+s+behind, b, l...)
			}
		}
		cutOff(t, s, b)
	}
}

// cutOff: bytes that are printed, cut off anywhere ahead of their last delimiter's end, must be refused.
func cutOff(t *testing.T, s, b string) {
	t.Helper()
	last := strings.LastIndex(s, "\r\n--"+b+"--") + len("\r\n--"+b+"--")
	for at := range s[:last] {
		if l, e := part.Parse(s[:at], b); e == api.OK || len(l) != 0 {
			t.Errorf("Parse(%.300q, %.100q) = %.300q, %v", s[:at], b, l, e)
		}
		if l, e := part.Parse("pre\r\n"+s[:at], b); e == api.OK || len(l) != 0 {
			t.Errorf("Parse(pre, %.300q, %.100q) = %.300q, %v", s[:at], b, l, e)
		}
	}
	for at := last; at <= len(s); at++ {
		if l, e := part.Parse(s[:at], b); e != api.OK || len(l) == 0 {
			t.Errorf("Parse(%.300q, %.100q) = %.300q, %v", s[:at], b, l, e)
		}
	}
}

func TestErrorsOfBodiesThatAreCutOff(t *testing.T) { // P8.2
	s := "--b\r\nn: v\r\n\r\nhi\r\n--b--\r\n"
	for at := range s {
		switch {
		case at < len("--b"):
			wrong(t, s[:at], "b", api.ErrBoundary)
		case at < len("--b\r\n"):
			wrong(t, s[:at], "b", api.ErrForm)
		case at < len("--b\r\nn: v\r\n\r\nhi\r\n--b"):
			wrong(t, s[:at], "b", api.ErrShort)
		case at < len("--b\r\nn: v\r\n\r\nhi\r\n--b--"):
			wrong(t, s[:at], "b", api.ErrForm)
		default:
			parses(t, s[:at], "b", one("hi", "n", "v"))
		}
	}
}
