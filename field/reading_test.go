package field_test

import (
	"fmt"
	"math/rand"
	"regexp"
	"slices"
	"strings"
	"testing"

	"watchbill/api"
	"watchbill/field"
)

// A second reading of the chapter, by rows of lines and by patterns, against which the package is held.

var (
	namePattern   = regexp.MustCompile(`^[!-9;-~]{1,64}$`)
	plainPattern  = regexp.MustCompile(`^([!-~]+( [!-~]+)*)?$`)
	valuePattern  = regexp.MustCompile("^[ -~\t]*$")
	tokenForm     = "[!#$%&'*+.0-9A-Z^_`a-z{|}~-]+"
	tokenPattern  = regexp.MustCompile("^" + tokenForm + "$")
	typePattern   = regexp.MustCompile("^[ \t]*(" + tokenForm + "/" + tokenForm + ")(?s:(.*))$")
	quotedForm    = `"(?:[ !#-\[\]-~` + "\t" + `]|\\["\\])*"`
	paramForm     = "[ \t]*;[ \t]*(" + tokenForm + ")[ \t]*=[ \t]*(" + tokenForm + "|" + quotedForm + ")"
	paramPattern  = regexp.MustCompile(paramForm)
	paramsPattern = regexp.MustCompile("^(?:" + paramForm + ")*[ \t]*$")
)

// wantedLines: those of a field that may be printed: all of it in one, which is broken from the front as late as may be.
func wantedLines(f api.Field) []string {
	whole := f.Name + ":"
	if f.Value != "" {
		whole += " " + f.Value
	}
	var out []string
	first := len(f.Name) + 2 // no break ahead of the first word
	for from := 0; ; {
		best := -1
		for at := max(first, from+1); at < len(whole) && len(whole)-from > 76; at++ {
			if whole[at] == ' ' && (best < 0 || at-from <= 76) {
				best = at
			}
		}
		if best < 0 {
			return append(out, whole[from:])
		}
		out, from = append(out, whole[from:best]), best
	}
}

// wantedPrint: what Print should answer.
func wantedPrint(l []api.Field) (string, api.Errno) {
	if len(l) > 8 {
		return "", api.ErrLong
	}
	s := ""
	for _, f := range l {
		if !namePattern.MatchString(f.Name) {
			return "", api.ErrName
		}
		if !plainPattern.MatchString(f.Value) {
			return "", api.ErrForm
		}
		for _, line := range wantedLines(f) {
			if len(line) > 998 {
				return "", api.ErrLong
			}
			s += line + "\r\n"
		}
	}
	return s + "\r\n", api.OK
}

// wantedField: the field of lines, of which the last one may be cut off.
func wantedField(lines []string, cut bool, number int) (api.Field, api.Errno) {
	if cut {
		return api.Field{}, api.ErrShort
	}
	if number >= 8 || slices.ContainsFunc(lines, func(s string) bool { return len(s) > 998 }) {
		return api.Field{}, api.ErrLong
	}
	whole := strings.Join(lines, "")
	colon := strings.Index(whole, ":")
	if colon < 0 || strings.ContainsAny(whole[:1], " \t") {
		return api.Field{}, api.ErrForm
	}
	if !namePattern.MatchString(whole[:colon]) {
		return api.Field{}, api.ErrName
	}
	if !valuePattern.MatchString(whole[colon+1:]) {
		return api.Field{}, api.ErrForm
	}
	return api.Field{Name: whole[:colon], Value: strings.Trim(whole[colon+1:], "\t ")}, api.OK
}

// wantedParse: what Parse should answer.
func wantedParse(s string) ([]api.Field, string, api.Errno) {
	lines := strings.Split(s, "\r\n") // the last one has no end
	last := len(lines) - 1
	var l []api.Field
	for at := 0; ; {
		if at == last {
			return nil, "", api.ErrShort
		}
		if lines[at] == "" {
			return l, strings.Join(lines[at+1:], "\r\n"), api.OK
		}
		from := at
		for at++; at <= last && lines[at] != "" && strings.ContainsAny(lines[at][:1], "\t "); {
			at++
		}
		f, e := wantedField(lines[from:at], at > last, len(l))
		if e != api.OK {
			return nil, "", e
		}
		l = append(l, f)
	}
}

// wantedPrintType: what PrintType should answer.
func wantedPrintType(typ string, l []api.Param) (string, api.Errno) {
	two := strings.Split(typ, "/")
	if len(two) != 2 || !tokenPattern.MatchString(two[0]) || !tokenPattern.MatchString(two[1]) {
		return "", api.ErrType
	}
	s, e := typ, api.OK
	for _, p := range l {
		if !tokenPattern.MatchString(p.Name) {
			return "", api.ErrName
		}
		if !valuePattern.MatchString(p.Value) {
			e = api.ErrForm // unless a name behind it is none
		}
		value := p.Value
		if !tokenPattern.MatchString(value) {
			value = `"` + strings.NewReplacer(`"`, `\"`, `\`, `\\`).Replace(value) + `"`
		}
		s += "; " + p.Name + "=" + value
	}
	if e != api.OK {
		return "", e
	}
	return s, e
}

// wantedParseType: what ParseType should answer.
func wantedParseType(s string) (string, []api.Param, api.Errno) {
	two := typePattern.FindStringSubmatch(s)
	if two == nil {
		return "", nil, api.ErrType
	}
	if !paramsPattern.MatchString(two[2]) {
		return "", nil, api.ErrForm
	}
	var l []api.Param
	for _, m := range paramPattern.FindAllStringSubmatch(two[2], -1) {
		p := api.Param{Name: strings.ToLower(m[1]), Value: m[2]}
		if m[2][0] == '"' {
			p.Value = strings.NewReplacer(`\"`, `"`, `\\`, `\`).Replace(m[2][1 : len(m[2])-1])
		}
		if slices.ContainsFunc(l, func(q api.Param) bool { return q.Name == p.Name }) {
			return "", nil, api.ErrForm
		}
		l = append(l, p)
	}
	return strings.ToLower(two[1]), l, api.OK
}

// holds: fields must be printed as they are read here, and parsed as they were, whatever stands behind them.
func holds(t *testing.T, l []api.Field) api.Errno {
	t.Helper()
	want, e := wantedPrint(l)
	s, got := field.Print(l...)
	if s != want || got != e {
		t.Errorf("Print(%.300q) = %.300q, %v, not %.300q, %v", l, s, got, want, e)
	}
	if got != api.OK {
		return e
	}
	for _, rest := range []string{"", "\r\n", " x", "\ta: b\r\n\r\n", "a", "a: b\r\n", "\n", "\x00\xff", strings.Repeat("x", 1200)} {
		parses(t, s+rest, rest, l...)
	}
	for i := range s {
		if i%7 == len(l)%7 {
			wrong(t, s[:i], api.ErrShort)
		}
	}
	for line := range strings.SplitSeq(s, "\r\n") {
		_, words, ok := strings.Cut(line, ": ")
		if line != "" && line[0] == ' ' {
			words, ok = line[1:], true
		}
		if ok && strings.Contains(words, " ") && len(line) > 76 || len(line) > 998 {
			t.Errorf("a line is too long: %q", line)
		}
	}
	return e
}

// reads: bytes must be parsed as they are read here; what they are parsed as, if it may be printed, must be parsed again as it was.
func reads(t *testing.T, s string) api.Errno {
	t.Helper()
	want, wantRest, wantE := wantedParse(s)
	l, rest, e := field.Parse(s)
	if !slices.Equal(l, want) || rest != wantRest || e != wantE {
		t.Errorf("Parse(%.300q) = %.300q, %.300q, %v, not %.300q, %.300q, %v", s, l, rest, e, want, wantRest, wantE)
	}
	if p, e := field.Print(l...); e == api.OK {
		parses(t, p+rest, rest, l...)
	}
	return e
}

// holdsType: likewise a type with parameters; two of one name are printed, but not parsed.
func holdsType(t *testing.T, typ string, l []api.Param) api.Errno {
	t.Helper()
	want, e := wantedPrintType(typ, l)
	s, got := field.PrintType(typ, l...)
	if s != want || got != e {
		t.Errorf("PrintType(%.300q, %.300q) = %.300q, %v, not %.300q, %v", typ, l, s, got, want, e)
	}
	if got != api.OK {
		return e
	}
	var back []api.Param
	came, twice := map[string]bool{}, false
	for _, p := range l {
		name := strings.ToLower(p.Name)
		back, twice = append(back, api.Param{Name: name, Value: p.Value}), twice || came[name]
		came[name] = true
	}
	if twice {
		wrongType(t, s, api.ErrForm)
	} else {
		parsesType(t, s, strings.ToLower(typ), back...)
	}
	return e
}

// readsType: likewise a text.
func readsType(t *testing.T, s string) api.Errno {
	t.Helper()
	want, wantL, wantE := wantedParseType(s)
	typ, l, e := field.ParseType(s)
	if typ != want || !slices.Equal(l, wantL) || e != wantE {
		t.Errorf("ParseType(%.300q) = %.300q, %.300q, %v, not %.300q, %.300q, %v", s, typ, l, e, want, wantL, wantE)
	}
	if e == api.OK {
		if f := holdsType(t, typ, l); f != api.OK {
			t.Errorf("ParseType(%.300q) = %.300q, %.300q, which can't be printed: %v", s, typ, l, f)
		}
	}
	return e
}

// rows: all rows of up to so many pieces behind a beginning are handed to a function.
func rows(n int, s string, pieces []string, of func(s string)) {
	of(s)
	if n == 0 {
		return
	}
	for _, p := range pieces {
		rows(n-1, s+p, pieces, of)
	}
}

func TestParseOfAllShortBytes(t *testing.T) { // P7.2, P7.5
	told := map[api.Errno]int{}
	of := func(s string) { told[reads(t, s)]++ }
	pieces := []string{"a", ":", " ", "\t", "\r\n", "\r", "\n", "\x7f"}
	rows(5, "", pieces, of)
	rows(4, "a:", pieces, of)
	rows(4, "a: b\r\n", pieces, of)
	rows(4, "a: b\r\n ", pieces, of)
	rows(5, "", []string{"a: b\r\n", " c", ":", "\r\n", "\t\r\n", "d\x00", strings.Repeat("x", 998)}, of)
	rows(3, strings.Repeat("a:b\r\n", 7), []string{"a: b", ":", " c", "\r\n"}, of)
	for _, e := range []api.Errno{api.OK, api.ErrShort, api.ErrForm, api.ErrName, api.ErrLong} {
		if told[e] < 20 {
			t.Errorf("too few of one kind: %v", told)
		}
	}
}

func TestParseTypeOfAllShortTexts(t *testing.T) { // P7.4, P7.5
	told := map[api.Errno]int{}
	of := func(s string) { told[readsType(t, s)]++ }
	rows(6, "", []string{"a", "B", "/", ";", "=", " "}, of)
	pieces := []string{"a", "A", "/", ";", "=", " ", "\t", `"`, `\`, "\n", "\x7f"}
	rows(4, "a/b", pieces, of)
	rows(4, "a/b;c=", pieces, of)
	rows(4, `a/b;c="`, pieces, of)
	rows(4, "a/b;a=c", pieces, of)
	rows(5, "a/b", []string{";c", "C", "=", "d", ` "e;"`, `"\"`, ";", " "}, of)
	for _, e := range []api.Errno{api.OK, api.ErrType, api.ErrForm} {
		if told[e] < 1000 {
			t.Errorf("too few of one kind: %v", told)
		}
	}
}

func TestPrintOfAllRowsOfWords(t *testing.T) { // P7.1, P7.5
	lengths := []int{1, 2, 34, 35, 36, 37, 38, 70, 73, 74, 75, 76, 77, 932, 933, 995, 996, 997, 998}
	for _, name := range []string{"n", "name", xs(63), xs(64)} {
		holds(t, fields(name, ""))
		for _, a := range lengths {
			holds(t, fields(name, row(a)))
			for _, b := range lengths {
				holds(t, fields(name, row(a, b)))
				if name == "n" {
					for _, c := range []int{1, 35, 37, 38, 75} {
						holds(t, fields(name, row(a, b, c)))
					}
				}
			}
		}
	}
	for n := 1; n < 80; n++ { // up to each number of bytes, word by word
		holds(t, fields(xs(n%64+1), row(slices.Repeat([]int{n%5 + 1}, n)...)))
		holds(t, fields("n", row(n, max(76-n, 1), 1, n)))
	}
}

// pick: one of several, by chance.
func pick[T any](chance *rand.Rand, l ...T) T { return l[chance.Intn(len(l))] }

// chanceField, chanceParam: by chance; most may be printed.
func chanceField(chance *rand.Rand) api.Field {
	var words []string
	for range chance.Intn(4) * chance.Intn(12) {
		words = append(words, pick(chance, "a", ":", "b;c", "<x@y>", xs(chance.Intn(20)+1), xs(chance.Intn(80)+1), xs(chance.Intn(80)+1)))
	}
	value := strings.Join(words, " ")
	if chance.Intn(20) == 0 {
		value += pick(chance, " ", "\t", "  x", "\n", "\xff", " "+xs(990+chance.Intn(10)))
	}
	return api.Field{Name: pick(chance, "A", "Content-Type", "Content-ID", "!~", xs(chance.Intn(65)+1), xs(chance.Intn(64)+1)), Value: value}
}

func chanceParam(chance *rand.Rand) api.Param {
	value := ""
	for range chance.Intn(5) {
		value += pick(chance, "a", "B", " ", "\t", `"`, `\`, ";", "=", "/", "-", "~", xs(chance.Intn(9)))
	}
	if chance.Intn(20) == 0 {
		value += pick(chance, "\n", "\x7f", "\u00e9")
	}
	name := pick(chance, "a", "B", "Charset", "type", "start", "x", "y", "Z", xs(chance.Intn(70)+1))
	if chance.Intn(30) == 0 {
		name = pick(chance, "", " ", "a=", "\u00e9")
	}
	return api.Param{Name: name, Value: value}
}

func TestOfChance(t *testing.T) { // P7.1, P7.4, P7.5
	chance := rand.New(rand.NewSource(7))
	told, toldOfTypes := map[api.Errno]int{}, map[api.Errno]int{}
	for range 3000 {
		var l []api.Field
		for range chance.Intn(10) {
			l = append(l, chanceField(chance))
		}
		told[holds(t, l)]++
		var ps []api.Param
		for range chance.Intn(6) {
			ps = append(ps, chanceParam(chance))
		}
		toldOfTypes[holdsType(t, pick(chance, "a/b", "Text/XML", "multipart/related", "a", "a/b/c"), ps)]++
	}
	for _, e := range []api.Errno{api.OK, api.ErrForm, api.ErrName, api.ErrLong} {
		if told[e] < 10 {
			t.Errorf("too few fields of one kind: %v", told)
		}
	}
	for _, e := range []api.Errno{api.OK, api.ErrForm, api.ErrName, api.ErrType} {
		if toldOfTypes[e] < 10 {
			t.Errorf("too few types of one kind: %v", toldOfTypes)
		}
	}
}

func TestWhereAValueIsFoldedPlaysNoPart(t *testing.T) { // P7.2, P7.5
	chance := rand.New(rand.NewSource(8))
	for range 2000 {
		l := fields("A", row(chance.Intn(9)+1, 3, 70, 1, 1, 5), "Content-Type", "a/b; c=\"d e\"", "b", "c")
		s, e := field.Print(l...)
		if e != api.OK {
			t.Fatal(e)
		}
		// Put together, and folded anew at blanks by chance.
		s = strings.ReplaceAll(s, "\r\n ", " ")
		var b strings.Builder
		for _, c := range []byte(s) {
			if c == ' ' && chance.Intn(3) == 0 {
				b.WriteString("\r\n")
			}
			b.WriteByte(c)
		}
		parses(t, b.String()+"rest", "rest", l...)
	}
	parses(t, "a:b\tc  d\r\n\r\n", "", fields("a", "b\tc  d")...)
	for _, s := range []string{"a:\r\n\tb\tc  d", "a:b\r\n\tc  d", "a:b\tc\r\n  d", "a:b\tc \r\n d", "a:b\tc \r\n d\r\n ", "a:b\r\n\tc\r\n \r\n d"} {
		parses(t, s+"\r\n\r\n", "", fields("a", "b\tc  d")...)
	}
}

// roomy: a list with spare room, in which something stands.
func roomy[T any](l []T, spare T) []T {
	return append(slices.Clone(l), spare, spare, spare)[:len(l)]
}

func TestWhatIsHandedInStaysAsItWas(t *testing.T) { // rules 3 and 4
	l := roomy(fields("B", "c d", "a", strings.Repeat("e ", 60)+"f", "b", ""), api.Field{Name: "spare", Value: "room"})
	ps := roomy(params("B", "c d", "a", `"\`, "b", ""), api.Param{Name: "spare", Value: "room"})
	all := func() string { return fmt.Sprintf("%q %q", l[:cap(l)], ps[:cap(ps)]) }
	was := all()
	for range 2 {
		field.Print(l...)
		field.Print(l[1:]...)
		field.Print(append(l[:0:0], api.Field{})...)
		field.Get(l, "b")
		field.Get(l, "z")
		field.PrintType("A/b", ps...)
		field.PrintType("A", ps...)
		field.Param(ps, "b")
		field.Param(ps, "z")
		if now := all(); now != was {
			t.Fatalf("what is handed in became %s", now)
		}
	}
}

func TestAnswersAreNewMemory(t *testing.T) { // rules 3 and 4
	s, typ := "a: b\r\nc: d\r\ne: f\r\n\r\nrest", "a/b;c=d;e=f;g=h"
	l, _, _ := field.Parse(s)
	_, ps, _ := field.ParseType(typ)
	more, _, _ := field.Parse(s)
	_, morePs, _ := field.ParseType(typ)
	for i := range l[:cap(l)] {
		l[:cap(l)][i] = api.Field{Name: "spoilt"}
	}
	for i := range ps[:cap(ps)] {
		ps[:cap(ps)][i] = api.Param{Name: "spoilt"}
	}
	if !slices.Equal(more, fields("a", "b", "c", "d", "e", "f")) || !slices.Equal(morePs, params("c", "d", "e", "f", "g", "h")) {
		t.Errorf("other answers became %q, %q", more, morePs)
	}
	parses(t, s, "rest", fields("a", "b", "c", "d", "e", "f")...)
	parsesType(t, typ, "a/b", params("c", "d", "e", "f", "g", "h")...)
}

func TestLongBytesAreGoneThroughQuickly(t *testing.T) { // rule 5
	n := 1 << 20
	parses(t, "a:"+strings.Repeat("\r\n b", n)+"\r\n\r\n", "", fields("a", strings.TrimSpace(strings.Repeat(" b", n)))...)
	wrong(t, strings.Repeat("a: b\r\n ", n), api.ErrShort)
	wrong(t, strings.Repeat("\r", n), api.ErrShort)
	wrong(t, strings.Repeat("a: b\r\n", n), api.ErrLong)
	value := strings.Repeat("b ", n) + "b"
	if s, e := field.Print(fields("a", value)...); e != api.OK || strings.ReplaceAll(s, "\r\n", "") != "a: "+value {
		t.Errorf("Print of a long value: %v", e)
	}
	parsesType(t, `a/b;c="`+strings.Repeat(`\"`, n)+`"`, "a/b", params("c", strings.Repeat(`"`, n))...)
	wrongType(t, `a/b;c="`+strings.Repeat(`\"`, n), api.ErrForm)
	wrongType(t, "a/b"+strings.Repeat(" ", n)+"x", api.ErrForm)
	parsesType(t, "a/b;c="+strings.Repeat(" ", n)+"d", "a/b", params("c", "d")...)
}

func FuzzParse(f *testing.F) { // P7.2, P7.5
	for _, s := range []string{"", "\r\n", "a: b\r\n c\r\n\r\nrest", "A:\tb:c \r\n\t\r\n\r\n", " a: b\r\n\r\n", strings.Repeat("a: b\r\n", 9)} {
		f.Add(s)
	}
	f.Fuzz(func(t *testing.T, s string) { reads(t, s) })
}

func FuzzParseType(f *testing.F) { // P7.4, P7.5
	for _, s := range []string{"a/b", ` Text/XML ; A="b\"c" ; d = e `, "a/b;c=d;C=e", `a/b;c="\`} {
		f.Add(s)
	}
	f.Fuzz(func(t *testing.T, s string) { readsType(t, s) })
}
