package sel_test

import (
	"fmt"
	"math/big"
	"math/rand"
	"net/url"
	"regexp"
	"slices"
	"strings"
	"testing"
	"unicode/utf8"
	"unsafe"

	"watchbill/api"
	"watchbill/qname"
	"watchbill/sel"
)

// A second reading of the chapter, by patterns, against which the package is held.

const (
	begins = `A-Za-z_\x{C0}-\x{D6}\x{D8}-\x{F6}\x{F8}-\x{2FF}\x{370}-\x{37D}\x{37F}-\x{1FFF}\x{200C}\x{200D}\x{2070}-\x{218F}\x{2C00}-\x{2FEF}\x{3001}-\x{D7FF}\x{F900}-\x{FDCF}\x{FDF0}-\x{FFFD}\x{10000}-\x{EFFFF}`
	ofName = `[` + begins + `][` + begins + `.0-9\x{B7}\x{300}-\x{36F}\x{203F}\x{2040}-]*`
	ofBoth = `(?:(` + ofName + `):)?(` + ofName + `)`
)

var (
	namePattern      = regexp.MustCompile(`^` + ofName + `$`)
	bothPattern      = regexp.MustCompile(`^` + ofBoth + `$`)
	stepPattern      = regexp.MustCompile(`(?s)^(?:\*|` + ofBoth + `)(?:\[([1-9][0-9]{0,3})\])?(\[@` + ofBoth + `=(?:"([^"]*)"|'([^']*)')\])?$`)
	bindPattern      = regexp.MustCompile(`(?s)^[\t\n\r ]*xmlns\((` + ofName + `)=([^)]*)\)`)
	blanksPattern    = regexp.MustCompile(`^[\t\n\r ]*$`)
	charsPattern     = regexp.MustCompile(`^[\t\n\r\x{20}-\x{D7FF}\x{E000}-\x{FFFD}\x{10000}-\x{10FFFF}]*$`)
	referencePattern = regexp.MustCompile(`&(?:lt|gt|amp|quot|apos|#[0-9]+|#x[0-9A-Fa-f]+);`)
	plainPattern     = regexp.MustCompile(`^[A-Za-z0-9._~-]$`)
)

// isName: is it one?
func isName(s string) bool { return len(s) <= 64 && utf8.ValidString(s) && namePattern.MatchString(s) }

// isText: is it XML's signs throughout?
func isText(s string) bool { return utf8.ValidString(s) && charsPattern.MatchString(s) }

// wantedDecode: what layer 9 should answer.
func wantedDecode(s string) (string, api.Errno) {
	out, err := url.PathUnescape(s)
	switch {
	case err != nil:
		return "", api.ErrPercent
	case !utf8.ValidString(out):
		return "", api.ErrUTF
	}
	return out, api.OK
}

// wantedEncode: what layer 9 should answer.
func wantedEncode(s string) string {
	out := ""
	for i := range len(s) {
		if plainPattern.MatchString(s[i : i+1]) {
			out += s[i : i+1]
		} else {
			out += fmt.Sprintf("%%%02X", s[i])
		}
	}
	return out
}

// wantedBinds: what ParseBinds should answer.
func wantedBinds(query string) ([]api.Bind, api.Errno) {
	s, e := wantedDecode(query)
	var l []api.Bind
	for e == api.OK && !blanksPattern.MatchString(s) {
		m := bindPattern.FindStringSubmatch(s)
		if m == nil || len(m[1]) > 64 {
			return nil, api.ErrForm
		}
		if len(l) == 16 {
			return nil, api.ErrLong
		}
		reserved := m[2] == qname.XML || m[2] == qname.XMLNS
		if m[1] == "xmlns" || m[1] == "xml" && m[2] != qname.XML || m[1] != "xml" && reserved || m[2] == "" {
			return nil, api.ErrPrefix
		}
		l, s = append(l, api.Bind{Prefix: m[1], Space: m[2]}), s[len(m[0]):]
	}
	return l, e
}

// wantedName: what layer 2 should answer of a name, cut in two.
func wantedName(prefix, local, space string, binds []api.Bind, attr bool) (api.Name, api.Errno) {
	there := prefix == ""
	switch {
	case there && attr:
		return name("", local), api.OK
	case prefix == "xml":
		return name(qname.XML, local), api.OK
	case prefix == "xmlns":
		return api.Name{}, api.ErrPrefix
	}
	for _, b := range binds {
		if b.Prefix == prefix {
			there, space = true, b.Space
		}
	}
	if !there {
		return api.Name{}, api.ErrPrefix
	}
	return name(space, local), api.OK
}

// wantedReference: what a reference stands for; nothing, if it may not be.
func wantedReference(s string) string {
	switch s {
	case "&lt;":
		return "<"
	case "&gt;":
		return ">"
	case "&amp;":
		return "&"
	case "&quot;":
		return "\""
	case "&apos;":
		return "'"
	}
	n, ok := new(big.Int).SetString(s[2:len(s)-1], 10)
	if s[2] == 'x' {
		n, ok = new(big.Int).SetString(s[3:len(s)-1], 16)
	}
	if !ok || n.Cmp(big.NewInt(0x10FFFF)) > 0 || !utf8.ValidRune(rune(n.Int64())) || !isText(string(rune(n.Int64()))) {
		return ""
	}
	return string(rune(n.Int64()))
}

// wantedValue: what layer 3 should answer of a value.
func wantedValue(s string) (string, api.Errno) {
	rest := referencePattern.ReplaceAllStringFunc(s, func(x string) string {
		if wantedReference(x) == "" {
			return "&"
		}
		return ""
	})
	if strings.Contains(rest, "&") {
		return "", api.ErrRef
	}
	s = strings.NewReplacer("\r\n", " ", "\r", " ", "\n", " ", "\t", " ").Replace(s)
	return referencePattern.ReplaceAllStringFunc(s, wantedReference), api.OK
}

// wantedStep: what a step's text should stand for.
func wantedStep(text string, last bool, space string, binds []api.Bind) (x api.Step, e api.Errno) {
	if last && text == "namespace::*" {
		return spaces(), api.OK
	}
	if last && strings.HasPrefix(text, "@") {
		m := bothPattern.FindStringSubmatch(text[1:])
		if m == nil || len(m[1]) > 64 || len(m[2]) > 64 {
			return x, api.ErrName
		}
		n, e := wantedName(m[1], m[2], space, binds, true)
		if e != api.OK {
			return x, e
		}
		return attr(n.Space, n.Local), api.OK
	}
	m := stepPattern.FindStringSubmatch(text)
	if m == nil || slices.ContainsFunc([]string{m[1], m[2], m[5], m[6]}, func(s string) bool { return len(s) > 64 }) {
		return x, api.ErrStep
	}
	y := api.Step{Kind: 1, Any: text[0] == '*', By: m[4] != ""}
	fmt.Sscan(m[3], &y.Pos)
	if !y.Any {
		if y.Name, e = wantedName(m[1], m[2], space, binds, false); e != api.OK {
			return x, e
		}
	}
	if y.By {
		if y.Attr, e = wantedName(m[5], m[6], space, binds, true); e != api.OK {
			return x, e
		}
		if y.Value, e = wantedValue(m[7] + m[8]); e != api.OK {
			return x, e
		}
	}
	return y, api.OK
}

// wantedParse: what Parse should answer.
func wantedParse(s, space string, binds []api.Bind) (l []api.Step, e api.Errno) {
	texts := strings.Split(s, "/")
	if len(texts) > 16 {
		return nil, api.ErrLong
	}
	for i, text := range texts {
		text, e := wantedDecode(text)
		if e != api.OK {
			return nil, e
		}
		x, e := wantedStep(text, len(l) > 0 && i+1 == len(texts), space, binds)
		if e != api.OK {
			return nil, e
		}
		l = append(l, x)
	}
	return l, api.OK
}

// couldBe: steps that Parse could answer, but for their names and values.
func couldBe(l []api.Step) bool {
	for i, x := range l {
		last := i > 0 && i == len(l)-1
		rest := x
		rest.Kind = 0
		switch x.Kind {
		case 1:
			rest.Pos = 0
			if rest.By {
				rest.By, rest.Attr, rest.Value = false, api.Name{}, ""
			}
			if !rest.Any && rest.Name == (api.Name{}) || x.Pos < 0 || x.Pos > 9999 {
				return false
			}
			if rest.Any {
				rest.Any = false
			} else {
				rest.Name = api.Name{}
			}
		case 2:
			rest.Name = api.Name{}
		}
		if x.Kind < 1 || x.Kind > 3 || x.Kind > 1 && !last || rest != (api.Step{}) {
			return false
		}
	}
	return len(l) >= 1 && len(l) <= 16
}

// wantedPrint: what Print should answer.
func wantedPrint(space string, l []api.Step) (selector, query string, e api.Errno) {
	if !couldBe(l) {
		return "", "", api.ErrStep
	}
	number := map[string]int{}
	names := func(n api.Name, plain string) string {
		if !isName(n.Local) {
			e = api.ErrName
			return ""
		}
		if n.Space == plain {
			return n.Local
		}
		if n.Space == qname.XML {
			return "xml:" + n.Local
		}
		if n.Space == "" || n.Space == qname.XMLNS || strings.Contains(n.Space, ")") || !isText(n.Space) {
			e = api.ErrPrefix
			return ""
		}
		if number[n.Space] == 0 {
			number[n.Space] = len(number) + 1
			query += fmt.Sprintf("xmlns(n%d=%s)", number[n.Space], n.Space)
		}
		if len(number) > 16 {
			e = api.ErrLong
			return ""
		}
		return fmt.Sprintf("n%d:%s", number[n.Space], n.Local)
	}
	var texts []string
	for _, x := range l {
		text := map[bool]string{true: "*", false: ""}[x.Any]
		switch {
		case x.Kind == 3:
			text = "namespace::*"
		case x.Kind == 2:
			text = "@" + names(x.Name, "")
		case !x.Any:
			text = names(x.Name, space)
		}
		if e != api.OK {
			return "", "", e
		}
		if x.Pos > 0 {
			text += fmt.Sprintf("[%d]", x.Pos)
		}
		if x.By {
			text += "[@" + names(x.Attr, "")
			if e == api.OK && !isText(x.Value) {
				e = api.ErrChar
			}
			if e != api.OK {
				return "", "", e
			}
			text += "=\"" + strings.NewReplacer("&", "&amp;", "<", "&lt;", "\"", "&quot;", "\t", "&#9;", "\n", "&#10;", "\r", "&#13;").Replace(x.Value) + "\"]"
		}
		texts = append(texts, wantedEncode(text))
	}
	return strings.Join(texts, "/"), wantedEncode(query), api.OK
}

// readsBinds: a query must be parsed as it is read here.
func readsBinds(t *testing.T, query string) api.Errno {
	t.Helper()
	want, wantE := wantedBinds(query)
	if l, e := sel.ParseBinds(query); !slices.Equal(l, want) || e != wantE {
		t.Errorf("ParseBinds(%.300q) = %.300q, %v, not %.300q, %v", query, l, e, want, wantE)
	}
	return wantE
}

// reads: a selector must be parsed as it is read here; and its steps, printed, be parsed as the same ones.
func reads(t *testing.T, s, space string, binds []api.Bind) api.Errno {
	t.Helper()
	want, wantE := wantedParse(s, space, binds)
	l, e := sel.Parse(s, space, binds)
	if !slices.Equal(l, want) || e != wantE {
		t.Errorf("Parse(%.300q, %q, %.300q) = %+v, %v, not %+v, %v", s, space, binds, l, e, want, wantE)
	}
	if e == api.OK {
		holds(t, space, l...)
	}
	return wantE
}

// holds: steps must be printed as it is read here; and be parsed again.
func holds(t *testing.T, space string, l ...api.Step) api.Errno {
	t.Helper()
	selector, query, wantE := wantedPrint(space, l)
	if s, q, e := sel.Print(space, l...); s != selector || q != query || e != wantE {
		t.Errorf("Print(%q, %+v) = %.300q, %.300q, %v, not %.300q, %.300q, %v", space, l, s, q, e, selector, query, wantE)
	}
	if wantE == api.OK {
		comesBack(t, space, l...)
	}
	return wantE
}

// rows: all rows of up to so many pieces behind a beginning are handed to a function.
func rows(n int, s string, pieces []string, of func(s string)) {
	of(s)
	if n == 0 {
		return
	}
	for _, p := range pieces {
		rows(n-1, s+p, pieces, of)
	}
}

// enough: each of these errors must have come so often.
func enough(t *testing.T, told map[api.Errno]int, least int, l ...api.Errno) {
	t.Helper()
	for _, e := range l {
		if told[e] < least {
			t.Errorf("too few of %v: %v", e, told)
		}
	}
}

func TestAllShortQueries(t *testing.T) { // P10.1
	told := map[api.Errno]int{}
	of := func(s string) { told[readsBinds(t, s)]++ }
	rows(6, "", []string{"xmlns(", "a", "=", ")", " ", "%"}, of)
	rows(5, "", []string{"xmlns(", "p=", "u)", "%20", "xml", "%78mlns%28a%3dv%29", "xmlns(p=q)", "1", ")"}, of)
	rows(4, "xmlns(", []string{"xml", "xmlns", "=", ")", "a", qname.XML, qname.XMLNS, "\t", "xmlns("}, of)
	rows(4, "xmlns(a=", []string{"%C3", "%A9", "\xc3", "\xa9", ")", "xmlns(", "\u00e9=", "%ff", "%2", "9"}, of)
	rows(4, strings.Repeat("xmlns(a=b)", 15), []string{"xmlns(a=b)", "xmlns(a=)", "xmlns(", " ", "a=b)", "%20", "%"}, of)
	enough(t, told, 100, api.OK, api.ErrPercent, api.ErrForm, api.ErrPrefix)
	enough(t, told, 10, api.ErrUTF, api.ErrLong)
}

func TestAllShortSelectors(t *testing.T) { // P10.2, P10.3, P10.4
	told := map[api.Errno]int{}
	of := func(s string) { told[reads(t, s, deflt, bound())]++ }
	rows(5, "", []string{"a", "p:", "*", "[", "]", "1", "0", "@", "=", "\"x\"", "'", "&", "/"}, of)
	rows(5, "", []string{"a", "/", "@", "namespace::*", "z:", "q:", "%", "*"}, of)
	rows(5, "a[", []string{"1", "9", "0", "]", "[", "@b=", "'", "+", "]["}, of)
	rows(5, "*[@b=", []string{"\"", "'", "x", "]", "[", "=", "&lt;"}, of)
	rows(5, "p:a[@q:b='", []string{"'", "']", "\"", "&", "#65;", "\r", "\n", "%27]"}, of)
	rows(4, "a/", []string{"@", "b", "q:", "z:", "/", "[2]", "[@c='']", "xml:", "xmlns", "%40", "namespace::*"}, of)
	rows(4, "a%5b", []string{"%40", "b", "%3D", "%22", "%C3", "%A9", "%5D", "%2F", "/", "2"}, of)
	rows(4, strings.Repeat("*/", 14), []string{"a", "/", "@b", "namespace::*", "z:", "%", "[1]"}, of)
	enough(t, told, 100, api.OK, api.ErrPercent, api.ErrStep, api.ErrName, api.ErrPrefix, api.ErrRef)
	enough(t, told, 10, api.ErrUTF, api.ErrLong)
}

// allSteps: of each kind, with all rows of a few values in their fields.
func allSteps() []api.Step {
	var l []api.Step
	names := []api.Name{{}, name("", "a"), name("u", "b"), name("u", "1"), name(")", "c")}
	for kind := range 5 {
		for _, n := range names {
			for _, a := range names {
				for _, pos := range []int{-1, 0, 1, 9999, 10000} {
					for _, value := range []string{"", "&", "\x00"} {
						for flags := range 4 {
							l = append(l, api.Step{Kind: kind, Any: flags&1 > 0, Name: n, Pos: pos, By: flags&2 > 0, Attr: a, Value: value})
						}
					}
				}
			}
		}
	}
	return l
}

func TestAllSmallSteps(t *testing.T) { // P10.3, P10.4
	told := map[api.Errno]int{}
	for _, x := range allSteps() {
		for _, space := range []string{"", "u"} {
			told[holds(t, space, x)]++
			told[holds(t, space, x, every())]++
			told[holds(t, space, every(), x)]++
			told[holds(t, space, el("u", "a"), x, by(el("v", "b"), "u", "c", "d"))]++
		}
	}
	enough(t, told, 100, api.OK, api.ErrStep, api.ErrName, api.ErrPrefix, api.ErrChar)
}

// pick: one of them, by chance.
func pick(chance *rand.Rand, l ...string) string { return l[chance.Intn(len(l))] }

// chanceText: a text by chance; most are XML's signs.
func chanceText(chance *rand.Rand) string {
	var b strings.Builder
	for range chance.Intn(8) {
		switch chance.Intn(5) {
		case 0:
			b.WriteRune(rune(32 + chance.Intn(0x3000)))
		case 1:
			b.WriteRune(rune(0x10000 + chance.Intn(0x100000)))
		case 2:
			b.WriteString(pick(chance, "%", "/", "\"", "'", "[", "]", "=", "&", "<", "\r", "\n", "\t", "%2F", "&lt;", "@", "(", "?"))
		default:
			b.WriteByte(byte(32 + chance.Intn(95)))
		}
	}
	if chance.Intn(30) == 0 {
		b.WriteString(pick(chance, "\xff", "\x00", "\ufffe", ")"))
	}
	return b.String()
}

// chanceName: a name by chance, in one of some Spaces; most may be.
func chanceName(chance *rand.Rand, spaces []string) api.Name {
	n := name(pick(chance, spaces...), pick(chance, "a", "b", "xml", "n1", "\u00e9", "a-1", "namespace"))
	if chance.Intn(40) == 0 {
		n.Local = pick(chance, "1", "", "a:b", "*", "\xff")
	}
	return n
}

// chanceSteps: steps by chance; most may be.
func chanceSteps(chance *rand.Rand, space string) []api.Step {
	spaces := []string{space, space, "urn:x", "", qname.XML}
	for range chance.Intn(100) {
		spaces = append(spaces, strings.ReplaceAll(chanceText(chance), ")", ""))
	}
	var l []api.Step
	for range 1 + chance.Intn(16) {
		x := every()
		if chance.Intn(3) > 0 {
			x = api.Step{Kind: 1, Name: chanceName(chance, spaces)}
			if x.Name.Space == "" {
				x.Name.Space = space
			}
		}
		if chance.Intn(3) == 0 {
			x.Pos = chance.Intn(10000)
		}
		if chance.Intn(2) == 0 {
			n := chanceName(chance, spaces)
			x = by(x, n.Space, n.Local, chanceText(chance))
		}
		l = append(l, x)
	}
	switch chance.Intn(6) {
	case 0:
		l[len(l)-1] = chanceSpaces(chance)
	case 1:
		l[len(l)-1] = api.Step{Kind: 2, Name: chanceName(chance, spaces)}
	}
	return l
}

// chanceSpaces: the step of the namespaces; by chance with a field that may not be.
func chanceSpaces(chance *rand.Rand) api.Step {
	x := spaces()
	x.Any = chance.Intn(10) == 0
	return x
}

// damaged: a text with a byte more or less, by chance.
func damaged(chance *rand.Rand, s string) string {
	if s == "" {
		return s
	}
	at := chance.Intn(len(s))
	switch chance.Intn(3) {
	case 0:
		return s[:at] + s[at+1:]
	case 1:
		return s[:at] + pick(chance, "/", "%", "[", "]", "'", "\"", "@", "*", ":", "1", "0", "%5B", "%5D", "%22", "z", "&", ")", "(", " ") + s[at:]
	}
	return s[:at] + s[at:at+1] + s[at:]
}

func TestOfChance(t *testing.T) { // P10.1, P10.2, P10.3, P10.4
	chance := rand.New(rand.NewSource(10))
	printed, parsed, queries := map[api.Errno]int{}, map[api.Errno]int{}, map[api.Errno]int{}
	for range 12000 {
		space := pick(chance, "", "urn:d", "urn:x", chanceText(chance))
		l := chanceSteps(chance, space)
		printed[holds(t, space, l...)]++
		s, q, e := sel.Print(space, l...)
		if e != api.OK {
			continue
		}
		binds, _ := sel.ParseBinds(q)
		for range chance.Intn(4) {
			if chance.Intn(2) == 0 && len(binds) > 0 {
				binds[chance.Intn(len(binds))].Prefix = pick(chance, "", "n1", "n2", "xml", "z")
			}
			parsed[reads(t, s, space, binds)]++
			bare, _ := url.PathUnescape(s)
			parsed[reads(t, bare, space, binds)]++
			s, q = damaged(chance, s), damaged(chance, q)
			if chance.Intn(20) == 0 {
				s, q = s+"/"+s, q+q
			}
			parsed[reads(t, s, space, binds)]++
			queries[readsBinds(t, q)]++
		}
	}
	enough(t, printed, 100, api.OK, api.ErrStep, api.ErrName, api.ErrPrefix, api.ErrChar)
	enough(t, printed, 10, api.ErrLong)
	enough(t, parsed, 100, api.OK, api.ErrPercent, api.ErrUTF, api.ErrStep, api.ErrPrefix, api.ErrLong)
	enough(t, parsed, 10, api.ErrName, api.ErrRef)
	enough(t, queries, 100, api.OK, api.ErrPercent, api.ErrForm)
	enough(t, queries, 10, api.ErrLong)
}

// loan: bytes as a text of the same memory, and what writes over it.
func loan(s string) (text string, spoil func()) {
	b := []byte(s)
	return unsafe.String(unsafe.SliceData(b), len(b)), func() {
		for i := range b {
			b[i] = '#'
		}
	}
}

func TestWhatIsHandedInStaysAsItWas(t *testing.T) { // rule 3
	room := append(make([]api.Bind, 0, 8), bound()...)
	spare := api.Bind{Prefix: "spare", Space: "room"}
	for i := len(room); i < cap(room); i++ {
		room[:cap(room)][i] = spare
	}
	for _, s := range []string{"p:a/*[@q:b='x']/@c", "a", "z:a", "", "%", strings.Repeat("/", 20)} {
		sel.Parse(s, deflt, room)
	}
	if !slices.Equal(room, bound()) || room[:3][2] != spare || room[:8][7] != spare {
		t.Errorf("the bindings became %q", room[:cap(room)])
	}
	was := append(chain(3), at(every(), 2), attr("u", "a"))
	steps := append(make([]api.Step, 0, 16), was...)
	for i := len(steps); i < cap(steps); i++ {
		steps[:cap(steps)][i] = spaces()
	}
	for _, space := range []string{"", "u", "e0"} {
		sel.Print(space, steps...)
		sel.Print(space, steps[:2]...)
	}
	if !slices.Equal(steps, was) || steps[:6][5] != spaces() || steps[:16][15] != spaces() {
		t.Errorf("the steps became %+v", steps[:cap(steps)])
	}
}

func TestAnswersShareNoMemoryWithWhatIsHandedIn(t *testing.T) { // rule 3
	for _, x := range []string{"xmlns(a=urn:b)", " xmlns(a=urn%3Ab)xmlns(c=d)"} {
		query, spoil := loan(x)
		l, _ := sel.ParseBinds(query)
		spoil()
		if want, _ := wantedBinds(x); !slices.Equal(l, want) {
			t.Errorf("ParseBinds(%q) became %q", x, l)
		}
	}
	for _, x := range []string{"a", "a/b[2]/*[@c='value']/@d", "p:a[@p:b='v']/p:c", "p:a/@p:b", "a/namespace::*", "%61[@b='&lt;%26']"} {
		s, spoil := loan(x)
		space, spoilSpace := loan("urn:default")
		prefix, spoilPrefix := loan("p")
		own, spoilOwn := loan("urn:p")
		binds := bind(prefix, own)
		l, _ := sel.Parse(s, space, binds)
		if s != x || space != "urn:default" || prefix != "p" || own != "urn:p" {
			t.Errorf("Parse(%q) turned what was handed in into %q, %q, %q, %q", x, s, space, prefix, own)
		}
		spoil()
		spoilSpace()
		spoilPrefix()
		spoilOwn()
		binds[0] = api.Bind{}
		if want, _ := wantedParse(x, "urn:default", bind("p", "urn:p")); !slices.Equal(l, want) {
			t.Errorf("Parse(%q) became %+v", x, l)
		}
	}
	local, spoilLocal := loan("a")
	space, spoilSpace := loan("urn:x")
	value, spoilValue := loan("v")
	steps := []api.Step{by(el(space, local), space, local, value), attr("", local)}
	s, q, _ := sel.Print("", steps...)
	spoilLocal()
	spoilSpace()
	spoilValue()
	if s != wantedEncode("n1:a[@n1:a=\"v\"]")+"/%40a" || q != wantedEncode("xmlns(n1=urn:x)") {
		t.Errorf("Print became %q, %q", s, q)
	}
	one, spoilOne := loan("a")
	s, _, _ = sel.Print("", el("", one))
	spoilOne()
	if s != "a" {
		t.Errorf("Print became %q", s)
	}
}

func TestListsOfAnswersShareNoMemory(t *testing.T) { // rules 3 and 4
	first, _ := sel.Parse("a/b/c", deflt, bound())
	second, _ := sel.Parse("a/b/c", deflt, bound())
	for i := range first[:cap(first)] {
		first[:cap(first)][i] = spaces()
	}
	if !slices.Equal(second, []api.Step{el(deflt, "a"), el(deflt, "b"), el(deflt, "c")}) {
		t.Errorf("another answer became %+v", second)
	}
	query := "xmlns(a=b)xmlns(c=d)xmlns(e=f)"
	ones, _ := sel.ParseBinds(query)
	others, _ := sel.ParseBinds(query)
	for i := range ones[:cap(ones)] {
		ones[:cap(ones)][i] = api.Bind{Prefix: "spoilt"}
	}
	if !slices.Equal(others, bind("a", "b", "c", "d", "e", "f")) {
		t.Errorf("another answer became %q", others)
	}
	binds(t, query, "a", "b", "c", "d", "e", "f")
}

func TestNothingIsKept(t *testing.T) { // rule 4
	for range 3 {
		prints(t, "n1:a/n2:a", "xmlns(n1=u)xmlns(n2=v)", el("u", "a"), el("v", "a"))
		prints(t, "n1:a/n2:a", "xmlns(n1=v)xmlns(n2=u)", el("v", "a"), el("u", "a"))
		refuses(t, api.ErrLong, chain(9)...)
		refuses(t, api.ErrPrefix, el("w", "a"), el(")", "a"))
		prints(t, "n1:a", "xmlns(n1=x)", el("x", "a"))
		parsesIn(t, "p:a", "", bind("p", "u"), el("u", "a"))
		wrongIn(t, "p:a", "", nil, api.ErrPrefix)
		parsesIn(t, "p:a", "", bind("p", "v"), el("v", "a"))
		binds(t, "xmlns(a=b)", "a", "b")
		noBinds(t, "xmlns(a=b", api.ErrForm)
		binds(t, "")
	}
}

func TestLongTextsAreGoneThroughQuickly(t *testing.T) { // rule 5
	n := 1 << 20
	long := strings.Repeat("\u00e9%", n/2)
	wrong(t, strings.Repeat("/", n), api.ErrLong)
	for _, s := range []string{"a", "[", "]", "a[1]", "[@b='c']", "'", "=", "&lt;", "%41", "%5B", "p:", "*"} {
		s = strings.Repeat(s, n)
		wrong(t, s, api.ErrStep)
		wrong(t, "a["+s, api.ErrStep)
		wrong(t, "a[@b='"+s, api.ErrStep)
		wrong(t, s+"/@a", api.ErrStep)
		wrong(t, "a/@"+s, api.ErrName)
		noBinds(t, s, api.ErrForm)
		noBinds(t, "xmlns("+s, api.ErrForm)
		noBinds(t, "xmlns(a="+s, api.ErrForm)
	}
	binds(t, strings.Repeat(" ", n))
	binds(t, strings.Repeat(" ", n)+"xmlns(a=b)"+strings.Repeat(" ", n), "a", "b")
	noBinds(t, strings.Repeat("xmlns(a=b)", n/8), api.ErrLong)
	prints(t, "n1:a[@b=\""+long+"\"]", "xmlns(n1="+long+")", by(el(long, "a"), "", "b", long))
	prints(t, "a[@b=\""+strings.Repeat("&amp;", n)+"\"]", "", by(el(deflt, "a"), "", "b", strings.Repeat("&", n)))
	refuses(t, api.ErrName, el(deflt, long))
	parsesIn(t, "p:a", deflt, slices.Repeat(bind("p", "u", "q", "v"), 1<<18), el("u", "a"))
}

func FuzzParse(f *testing.F) { // P10.2, P10.4
	for _, s := range []string{"a/b[2]/@c", "*[3][@p:x='&lt;1']/namespace::*", "a[@b=\"]\"]", "z:a", "%5B/%", "xml:a"} {
		f.Add(s, "urn:d", "p", "urn:p")
	}
	f.Fuzz(func(t *testing.T, s, space, prefix, of string) { reads(t, s, space, bind(prefix, of)) })
}

func FuzzParseBinds(f *testing.F) { // P10.1
	for _, s := range []string{"", " xmlns(p=urn:x)xmlns%28q=%20%29 ", "xmlns(xml=a)", "xmlns(a"} {
		f.Add(s)
	}
	f.Fuzz(func(t *testing.T, s string) { readsBinds(t, s) })
}

func FuzzPrint(f *testing.F) { // P10.3, P10.4
	f.Add("", "a", "urn:x", 2, true, "b", "v\"%/", 2)
	f.Add("u", "a", "u", 0, false, "", "", 3)
	f.Fuzz(func(t *testing.T, space, local, of string, pos int, test bool, a, value string, kind int) {
		x := at(el(of, local), pos)
		if test {
			x = by(x, space, a, value)
		}
		holds(t, space, x)
		holds(t, space, every(), x, api.Step{Kind: kind, Name: name(of, a)})
	})
}
