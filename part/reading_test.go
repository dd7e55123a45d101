package part_test

import (
	"fmt"
	"math/rand"
	"regexp"
	"slices"
	"strconv"
	"strings"
	"testing"

	"watchbill/api"
	"watchbill/field"
	"watchbill/part"
)

// A second reading of the chapter, by rows of lines, against which the package is held: a delimiter stands where a line begins.

var boundaryPattern = regexp.MustCompile(`^[A-Za-z0-9'()+_,./:=?-]{1,70}$`)

// begun: the numbers of the lines that begin with -- and a boundary.
func begun(lines []string, boundary string) []int {
	var out []int
	for i, line := range lines {
		if len(line) >= len(boundary)+2 && line[:2] == "--" && line[2:len(boundary)+2] == boundary {
			out = append(out, i)
		}
	}
	return out
}

// wantedClash: does a boundary clash with a part?
func wantedClash(boundary string, p api.Part) bool {
	own := strings.Split(p.Body, "\r\n")
	for _, f := range p.Fields {
		own = append(own, f.Name+":")
	}
	return len(begun(own, boundary)) > 0
}

// wantedChoose: what Choose should answer.
func wantedChoose(l []api.Part) string {
	for n := 1; ; n++ {
		b := "wb" + strconv.Itoa(n)
		if !slices.ContainsFunc(l, func(p api.Part) bool { return wantedClash(b, p) }) {
			return b
		}
	}
}

// wantedPrint: what Print should answer.
func wantedPrint(boundary string, l []api.Part) (string, api.Errno) {
	if !boundaryPattern.MatchString(boundary) {
		return "", api.ErrBoundary
	}
	for _, p := range l {
		if wantedClash(boundary, p) {
			return "", api.ErrBoundary
		}
	}
	if len(l) > 40 {
		return "", api.ErrLong
	}
	if len(l) < 1 {
		return "", api.ErrShort
	}
	var lines []string
	for _, p := range l {
		s, e := field.Print(p.Fields...)
		if e != api.OK {
			return "", e
		}
		lines = append(lines, "--"+boundary, s+p.Body)
	}
	return strings.Join(append(lines, "--"+boundary+"--", ""), "\r\n"), api.OK
}

// wantedParse: what Parse should answer.
func wantedParse(s, boundary string) ([]api.Part, api.Errno) {
	lines := strings.Split(s, "\r\n") // the last one has no end
	marks := begun(lines, boundary)
	if !boundaryPattern.MatchString(boundary) || len(marks) == 0 {
		return nil, api.ErrBoundary
	}
	var l []api.Part
	for i, at := range marks {
		behind := lines[at][len(boundary)+2:]
		if strings.HasPrefix(behind, "--") {
			if i == 0 {
				return nil, api.ErrShort
			}
			return l, api.OK
		}
		if strings.Trim(behind, "\t ") != "" || at == len(lines)-1 {
			return nil, api.ErrForm
		}
		if i == len(marks)-1 {
			return nil, api.ErrShort
		}
		if i == 40 {
			return nil, api.ErrLong
		}
		fields, body, e := field.Parse(strings.Join(lines[at+1:marks[i+1]], "\r\n"))
		if e != api.OK {
			return nil, e
		}
		l = append(l, api.Part{Fields: fields, Body: body})
	}
	return nil, api.ErrShort
}

// reads: bytes must be parsed as they are read here; and what they are parsed as, if it may be printed, must be parsed again as it was.
func reads(t *testing.T, s, boundary string) api.Errno {
	t.Helper()
	want, wantE := wantedParse(s, boundary)
	l, e := part.Parse(s, boundary)
	if !alike(l, want) || e != wantE {
		t.Errorf("Parse(%.300q, %.100q) = %.300q, %v, not %.300q, %v", s, boundary, l, e, want, wantE)
	}
	if e == api.OK {
		holds(t, boundary, l)
	}
	return e
}

// holds: parts must be printed as they are read here, and parsed as they were, whatever stands about them.
func holds(t *testing.T, boundary string, l []api.Part) api.Errno {
	t.Helper()
	want, wantE := wantedPrint(boundary, l)
	s, e := part.Print(boundary, l...)
	if s != want || e != wantE {
		t.Errorf("Print(%.100q, %.300q) = %.300q, %v, not %.300q, %v", boundary, l, s, e, want, wantE)
	}
	if got, want := part.Choose(l...), wantedChoose(l); got != want {
		t.Errorf("Choose(%.300q) = %q, not %q", l, got, want)
	}
	if e != api.OK {
		return e
	}
	for i, about := range [][2]string{{"", ""}, {"pre\r\n", "post"}, {"x--" + boundary + "\r\n\r\n", "--" + boundary + "\r\n"}, {"\r\n", s}} {
		if i <= len(s)%4 {
			parses(t, about[0]+s+about[1], boundary, l...)
		}
	}
	return e
}

// rows: all rows of up to so many pieces behind a beginning are handed to a function.
func rows(n int, s string, pieces []string, of func(s string)) {
	of(s)
	if n == 0 {
		return
	}
	for _, p := range pieces {
		rows(n-1, s+p, pieces, of)
	}
}

func TestParseOfAllShortBytes(t *testing.T) { // P8.2, P8.3
	told := map[api.Errno]int{}
	of := func(s string) { told[reads(t, s, "b")]++ }
	pieces := []string{"--b", "-", "b", "\r\n", "\r", "\n", " ", "x", "a:"}
	rows(5, "", pieces, of)
	rows(5, "--b\r\n", pieces, of)
	rows(5, "--b\r\n", []string{":", "a", " ", "\r\n", "\r\n\r\n", "\r\n--b"}, of)
	rows(4, "--b\r\n\r\n", append(pieces, "\t", "\r\n--b", "--b--", "\x00"), of)
	rows(4, "pre\r\n--b\r\na: b\r\n\r\nx\r\n--b", append(pieces, "\t", "\r\n\r\n", "--"), of)
	rows(6, "", []string{"--b", "\r\n", "--", "a: c\r\n", "x"}, of)
	rows(6, "", []string{"--b\r\n\r\n", "\r\n", "--b--", "\r\n--b \r\n", "x"}, of)
	for _, e := range []api.Errno{api.OK, api.ErrBoundary, api.ErrForm, api.ErrShort, api.ErrName} {
		if told[e] < 100 {
			t.Errorf("too few of one kind: %v", told)
		}
	}
}

func TestParseByAllShortBoundaries(t *testing.T) { // P8.2, P8.3
	told := map[api.Errno]int{}
	for _, b := range []string{"-", "--", "---", "b-", "b--", "-b", "bb", ":", "b:", "", " ", "\r\n"} {
		rows(5, "", []string{"--" + b, "-", "b", "\r\n", ":", "\r\n\r\n"}, func(s string) { told[reads(t, s, b)]++ })
		rows(5, "--"+b+"\r\n\r\n", []string{"--" + b, "-", "b", "\r\n", "\r\n--" + b + "--"}, func(s string) { told[reads(t, s, b)]++ })
	}
	for _, e := range []api.Errno{api.OK, api.ErrBoundary, api.ErrForm, api.ErrShort} {
		if told[e] < 1000 {
			t.Errorf("too few of one kind: %v", told)
		}
	}
}

func TestPrintOfAllShortParts(t *testing.T) { // P8.1, P8.3
	told := map[api.Errno]int{}
	pieces := []string{"--wb1", "--wb", "-", "1", "2", "0", "\r\n", "\r", "\n", "wb"}
	rows(4, "", pieces, func(s string) {
		for _, b := range []string{"wb1", "wb", "wb2", "-", "1"} {
			told[holds(t, b, bodies("x", s))]++
		}
		holds(t, "wb1", append(bodies("--wb1"), one("", s, s)))
	})
	rows(4, "--", []string{"w", "b", "1", ":", "-"}, func(name string) {
		for _, b := range []string{"w", "b", "1", ":", "-", "w:", "wb1", "wb1:", "b:1", "::"} {
			told[holds(t, b, []api.Part{one("", "a", "c", name, "v")})]++
		}
	})
	for _, e := range []api.Errno{api.OK, api.ErrBoundary, api.ErrName} {
		if told[e] < 100 {
			t.Errorf("too few of one kind: %v", told)
		}
	}
}

// pick: one of several, by chance.
func pick[T any](chance *rand.Rand, l ...T) T { return l[chance.Intn(len(l))] }

// chancePart: by chance; most may be printed.
func chancePart(chance *rand.Rand) api.Part {
	var p api.Part
	for range chance.Intn(4) {
		p.Fields = append(p.Fields, api.Field{Name: pick(chance, "Content-Type", "Content-ID", "a", "--", "-", xs(chance.Intn(64)+1)), Value: pick(chance, "", "b", "<a@b>", "--wb1", xs(90)+" --b "+xs(chance.Intn(90)+1))})
	}
	for range chance.Intn(8) {
		p.Body += pick(chance, "\r\n", "\r\n", "\r", "\n", "--", "-", "b", "wb1", "x--b", " --wb2", "\x00", "\xff", "\u00e9", "a: b", xs(chance.Intn(200)))
	}
	if chance.Intn(60) == 0 {
		p.Fields = append(p.Fields, pick(chance, api.Field{}, api.Field{Name: "a b"}, api.Field{Name: "--b"}, api.Field{Name: "--wb1"}, api.Field{Name: "a", Value: "\n"}, api.Field{Name: "a", Value: xs(996)}))
	}
	if chance.Intn(60) == 0 {
		p.Body += "\r\n--" + pick(chance, "b", "wb1", "wb2", "wb10", "wb3\r\n--wb2", "-")
	}
	return p
}

func TestOfChance(t *testing.T) { // P8.1, P8.2, P8.3
	chance := rand.New(rand.NewSource(8))
	printed, parsed := map[api.Errno]int{}, map[api.Errno]int{}
	for range 4000 {
		var l []api.Part
		for range chance.Intn(4) + chance.Intn(2)*chance.Intn(2)*chance.Intn(45) {
			l = append(l, chancePart(chance))
		}
		b := pick(chance, "b", "wb1", "wb2", "-", "--", xs(chance.Intn(75)), "b c")
		printed[holds(t, b, l)]++
		s, e := part.Print(b, l...)
		if e != api.OK {
			continue
		}
		if len(s) < 400 {
			cutOff(t, s, b)
		}
		// Some bytes of it otherwise.
		for range 8 {
			at := chance.Intn(len(s))
			to := at + chance.Intn(min(len(s)-at, 4)+1)
			parsed[reads(t, s[:at]+pick(chance, "", "\r\n", "--"+b, "\r\n--"+b+"\r\n", "-", " ", "\t", "\r", "\x00")+s[to:], pick(chance, b, b, b, b, b[1:]))]++
		}
	}
	for _, e := range []api.Errno{api.OK, api.ErrBoundary, api.ErrLong, api.ErrShort, api.ErrName, api.ErrForm} {
		if printed[e] < 10 || parsed[e] < 10 && e != api.ErrLong {
			t.Errorf("too few of one kind: %v, %v", printed, parsed)
		}
	}
}

// roomy: a list with spare room, in which something stands.
func roomy[T any](l []T, spare T) []T {
	return append(slices.Clone(l), spare, spare, spare)[:len(l)]
}

func TestWhatIsHandedInStaysAsItWas(t *testing.T) { // rules 3 and 4
	l := []api.Part{one("x", "B", "c d", "a", strings.Repeat("e ", 60)+"f"), one("--wb1\r\n--wb2"), one("", "b", "")}
	for i := range l {
		l[i].Fields = roomy(l[i].Fields, api.Field{Name: "spare", Value: "room"})
	}
	l = roomy(l, one("spare", "spare", "room"))
	all := func() string {
		s := fmt.Sprintf("%q", l[:cap(l)])
		for _, p := range l {
			s += fmt.Sprintf("%q", p.Fields[:cap(p.Fields)])
		}
		return s
	}
	was := all()
	for range 2 {
		part.Choose(l...)
		part.Choose(l[1:]...)
		part.Print("b", l...)
		part.Print("wb1", l...)
		part.Print("", l...)
		part.Print("b", l[:1]...)
		part.Print("b", slices.Concat(l, []api.Part{one("", "", "")})...)
		if now := all(); now != was {
			t.Fatalf("what is handed in became %s", now)
		}
	}
}

func TestAnswersAreNewMemory(t *testing.T) { // rules 3 and 4
	s := "--b\r\na: b\r\nc: d\r\n\r\nx\r\n--b\r\ne: f\r\n\r\ny\r\n--b\r\n\r\n\r\n--b--"
	want := []api.Part{one("x", "a", "b", "c", "d"), one("y", "e", "f"), one("")}
	first, _ := part.Parse(s, "b")
	second, _ := part.Parse(s, "b")
	for i, p := range first {
		for j := range p.Fields[:cap(p.Fields)] {
			p.Fields[:cap(p.Fields)][j] = api.Field{Name: strconv.Itoa(i)}
		}
	}
	for i, p := range first {
		for _, f := range p.Fields[:cap(p.Fields)] {
			if f.Name != strconv.Itoa(i) {
				t.Errorf("two lists of fields share")
			}
		}
	}
	for i := range first[:cap(first)] {
		first[:cap(first)][i] = one("spoilt")
	}
	if !alike(second, want) {
		t.Errorf("another answer became %q", second)
	}
	parses(t, s, "b", want...)
	// What was printed is told again, though what was handed in is spoilt.
	was, _ := part.Print("b", want...)
	for range 3 {
		prints(t, "b", was, one("x", "a", "b", "c", "d"), one("y", "e", "f"), one(""))
	}
	for i := range want {
		want[i] = one("spoilt")
	}
	prints(t, "b", was, one("x", "a", "b", "c", "d"), one("y", "e", "f"), one(""))
	chooses(t, 2, bodies("--wb1")...)
	chooses(t, 1, bodies("--wb2")...) // nothing of it is kept
}

func TestLongBytesAreGoneThroughQuickly(t *testing.T) { // rule 5
	n := 1 << 18
	for _, s := range []string{"--b", "x--b", "\n--b", "\r\n", "\r\n-", "--", "-", "\r", " "} {
		body := "x" + strings.Repeat(s, n)
		parses(t, "--b\r\n\r\n"+body+"\r\n--b--", "b", one(body))
		prints(t, "b", "--b\r\n\r\n"+body+"\r\n--b--\r\n", one(body))
		parses(t, body+"\r\n--b\r\n\r\n\r\n--b--"+body, "b", one(""))
	}
	wrong(t, strings.Repeat("x--b", n), "b", api.ErrBoundary)
	wrong(t, strings.Repeat("-", n), strings.Repeat("-", 70), api.ErrShort)
	wrong(t, "x"+strings.Repeat("-", n), strings.Repeat("-", 70), api.ErrBoundary)
	wrong(t, "--b\r\n"+strings.Repeat("-", n), "b", api.ErrShort)
	wrong(t, "--b"+strings.Repeat(" ", n), "b", api.ErrForm)
	wrong(t, strings.Repeat("--b\r\n\r\nx\r\n", n)+"--b--", "b", api.ErrLong)
	wrong(t, "--b\r\n\r\n\r\n--b--", strings.Repeat("b", n), api.ErrBoundary)
	refuses(t, strings.Repeat("b", n), api.ErrBoundary, one(""))
	var lines []string
	for i := n; i > 0; i-- {
		lines = append(lines, "--wb"+strconv.Itoa(i))
	}
	if b := part.Choose(bodies(strings.Join(lines, "\r\n"))...); b != "wb"+strconv.Itoa(n+1) {
		t.Errorf("Choose of many that are taken: %q", b)
	}
}

func FuzzParse(f *testing.F) { // P8.2, P8.3
	for _, s := range []string{"", "--b\r\n\r\nhi\r\n--b--", "pre\r\n--b \t\r\nA: 1\r\n\r\nx\r\n\r\n--b\r\n\r\n\r\n--b--post", "--b--", "--b\r\n--b--"} {
		f.Add(s, "b")
	}
	f.Fuzz(func(t *testing.T, s, boundary string) { reads(t, s, boundary) })
}

func FuzzPrint(f *testing.F) { // P8.1, P8.3
	f.Add("b", "a", "c", "hi", "--b")
	f.Add("wb1", "--wb1", "", "--wb2\r\n--wb3", "")
	f.Fuzz(func(t *testing.T, boundary, name, value, body, other string) {
		holds(t, boundary, []api.Part{one(body, name, value), one(other)})
	})
}
