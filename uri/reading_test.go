package uri_test

import (
	"fmt"
	"math/rand"
	"net/url"
	"regexp"
	"slices"
	"strings"
	"testing"
	"unicode/utf8"
	"unsafe"

	"watchbill/api"
	"watchbill/sel"
	"watchbill/uri"
)

// A second reading of the chapter, by places and patterns, against which the package is held. Selectors and queries are layer 10's, which has a reading of its own.

var (
	documentPattern = regexp.MustCompile(`(?s)^/([^/]*)/(?:users/([^/]*)|global)/([^/]*)$`)
	usagePattern    = regexp.MustCompile(`^(?:resource-lists|rls-services|pres-rules|xcap-caps)$`)
	plainPattern    = regexp.MustCompile(`^[A-Za-z0-9._~-]$`)
)

// mayBe: may a user, or a document, be called so?
func mayBe(s string) bool { return len(s) >= 1 && len(s) <= 64 && s != "~~" }

// wantedDecode: what layer 9 should answer.
func wantedDecode(s string) (string, api.Errno) {
	out, err := url.PathUnescape(s)
	switch {
	case err != nil:
		return "", api.ErrPercent
	case !utf8.ValidString(out):
		return "", api.ErrUTF
	}
	return out, api.OK
}

// wantedEncode: what layer 9 should answer.
func wantedEncode(s string) string {
	out := ""
	for i := range len(s) {
		if plainPattern.MatchString(s[i : i+1]) {
			out += s[i : i+1]
		} else {
			out += fmt.Sprintf("%%%02X", s[i])
		}
	}
	return out
}

// wantedParse: what Parse should answer.
func wantedParse(s string) (api.Where, api.Errno) {
	if len(s) > 512 {
		return api.Where{}, api.ErrLong
	}
	query, asked := "", strings.IndexByte(s, '?')
	document := s
	if asked >= 0 {
		document, query = s[:asked], s[asked+1:]
	}
	raw, parts := "", strings.Index(document, "/~~/")
	if parts >= 0 {
		document, raw = document[:parts], document[parts+4:]
	}
	m := documentPattern.FindStringSubmatch(document)
	if m == nil || asked >= 0 && parts < 0 {
		return api.Where{}, api.ErrForm
	}
	if !usagePattern.MatchString(m[1]) {
		return api.Where{}, api.ErrUsage
	}
	user, e := wantedDecode(m[2])
	if e != api.OK {
		return api.Where{}, e
	}
	doc, e := wantedDecode(m[3])
	if e != api.OK {
		return api.Where{}, e
	}
	owned := strings.HasPrefix(document, "/"+m[1]+"/users/")
	if owned && !mayBe(user) || !mayBe(doc) {
		return api.Where{}, api.ErrForm
	}
	w := api.Where{Usage: m[1], User: user, Doc: doc}
	if parts < 0 {
		return w, api.OK
	}
	w.Node, w.Raw = true, raw
	if w.Binds, e = sel.ParseBinds(query); e != api.OK {
		return api.Where{}, e
	}
	if w.Steps, e = sel.Parse(raw, "urn:ietf:params:xml:ns:"+m[1], w.Binds); e != api.OK {
		return api.Where{}, e
	}
	return w, api.OK
}

// wantedPrint: what Print should answer.
func wantedPrint(w api.Where) (string, api.Errno) {
	if !usagePattern.MatchString(w.Usage) {
		return "", api.ErrUsage
	}
	rows := []string{"", w.Usage, "users", wantedEncode(w.User), wantedEncode(w.Doc)}
	if w.User == "" {
		rows = []string{"", w.Usage, "global", wantedEncode(w.Doc)}
	} else if !mayBe(w.User) || !utf8.ValidString(w.User) {
		return "", api.ErrForm
	}
	if !mayBe(w.Doc) || !utf8.ValidString(w.Doc) {
		return "", api.ErrForm
	}
	query := ""
	if w.Node {
		selector, q, e := sel.Print("urn:ietf:params:xml:ns:"+w.Usage, w.Steps...)
		if e != api.OK {
			return "", e
		}
		rows, query = append(rows, "~~", selector), "?"+q
	}
	s := strings.TrimSuffix(strings.Join(rows, "/")+query, "?")
	if len(s) > 512 {
		return "", api.ErrLong
	}
	return s, api.OK
}

// reads: a URI must be parsed as it is read here; and what it names, printed, be parsed as the same.
func reads(t *testing.T, s string) api.Errno {
	t.Helper()
	want, wantE := wantedParse(s)
	w, e := uri.Parse(s)
	if !same(w, want) || e != wantE {
		t.Errorf("Parse(%.600q) = %+v, %v, not %+v, %v", s, w, e, want, wantE)
	}
	if e == api.OK {
		holds(t, w)
	}
	return wantE
}

// holds: this must be printed as it is read here; and be parsed again.
func holds(t *testing.T, w api.Where) api.Errno {
	t.Helper()
	want, wantE := wantedPrint(w)
	if s, e := uri.Print(w); s != want || e != wantE {
		t.Errorf("Print(%+v) = %.600q, %v, not %.600q, %v", w, s, e, want, wantE)
	}
	if wantE == api.OK {
		comesBack(t, w)
	}
	return wantE
}

// rows: all rows of up to so many pieces behind a beginning are handed to a function.
func rows(n int, s string, pieces []string, of func(s string)) {
	of(s)
	if n == 0 {
		return
	}
	for _, p := range pieces {
		rows(n-1, s+p, pieces, of)
	}
}

// enough: each of these errors must have come so often.
func enough(t *testing.T, told map[api.Errno]int, least int, l ...api.Errno) {
	t.Helper()
	for _, e := range l {
		if told[e] < least {
			t.Errorf("too few of %v: %v", e, told)
		}
	}
}

func TestParseOfAllShortRows(t *testing.T) { // P11.1, P11.3
	told := map[api.Errno]int{}
	read := func(s string) { told[reads(t, s)]++ }
	rows(5, "", []string{"/", "pres-rules", "users", "global", "a", "~~", "?", "%2F", ""}, read)
	rows(5, "/pres-rules", []string{"/", "/users/", "/global/", "a", "~", "/~~/", "?", "%", ""}, read)
	rows(5, "/x/", []string{"/", "users", "global", "a", "~~", "?", "%7e"}, read)
	rows(6, "/xcap-caps/users/", []string{"/", "a", "~", "?", "%7E", "%ff", "%"}, read)
	rows(6, "/rls-services/global/", []string{"/", "a", "~", "?", "%7E", "%ff", "%2"}, read)
	rows(5, "/pres-rules/users/u/d/", []string{"/", "~~", "a", "?", "xmlns(p=", ")", "p:", "%"}, read)
	rows(5, "/pres-rules/global/d/~~/", []string{"/", "~~", "a", "?", "xmlns(p=", ")", "p:", "@", "%"}, read)
	enough(t, told, 100, api.OK, api.ErrForm, api.ErrUsage, api.ErrPercent, api.ErrUTF, api.ErrStep, api.ErrPrefix)
}

func TestParseOfAllLengths(t *testing.T) { // P11.1
	for n := range 600 {
		for _, s := range []string{"", "/", "/pres-rules/", "/pres-rules/users/", "/pres-rules/users/u/", "/pres-rules/global/", "/pres-rules/users/u/d?", "/x/global/", "/pres-rules/global/d/~~/", "/pres-rules/global/d/~~/a?", "/pres-rules/global/d/~~/p:a?xmlns(p="} {
			reads(t, s+xs(n))
			reads(t, s+xs(n)+")")
			reads(t, s+xs(n)+"/d")
			reads(t, s+strings.Repeat("%41", n))
			reads(t, s+strings.Repeat("\u00e9", n))
		}
		holds(t, whole(xs(n), "d"))
		holds(t, whole("u", xs(n)))
		holds(t, whole("", strings.Repeat("\u00e9", n)))
		holds(t, to("", "d", in(xs(n), "a")))
		holds(t, to("u", "d", by(el("a"), "b", xs(n))))
	}
}

func TestOfAllSigns(t *testing.T) { // P11.1, P11.2, P11.3
	for c := range 256 {
		b := string([]byte{byte(c)})
		for _, s := range []string{b, b + "a", "a" + b, "~" + b, b + "~", "%" + b + "1", "%4" + b} {
			reads(t, of("users/"+s+"/d"))
			reads(t, of("users/u/"+s))
			reads(t, of("global/"+s+"/~~/a"))
			reads(t, ofNode(s))
			reads(t, ofNode("a?"+s))
			reads(t, "/pres-rules"+s+"/users/u/d")
			reads(t, s+"/pres-rules/users/u/d")
			holds(t, whole(s, "d"))
			holds(t, whole("u", s))
			holds(t, api.Where{Usage: "pres-rules" + s, Doc: "d"})
		}
	}
}

// pick: one of them, by chance.
func pick(chance *rand.Rand, l ...string) string { return l[chance.Intn(len(l))] }

// chanceText: a text by chance; most are short, and signs.
func chanceText(chance *rand.Rand) string {
	var b strings.Builder
	most := 8
	if chance.Intn(30) == 0 {
		most = 80
	}
	for range chance.Intn(most) {
		switch chance.Intn(6) {
		case 0:
			b.WriteRune(rune(32 + chance.Intn(0x3000)))
		case 1:
			b.WriteRune(rune(0x10000 + chance.Intn(0x100000)))
		case 2:
			b.WriteString(pick(chance, "%", "/", "~", "~~", "?", "/~~/", "%7E", "%2F", " ", "@", ":"))
		default:
			b.WriteByte(byte(32 + chance.Intn(95)))
		}
	}
	if chance.Intn(40) == 0 {
		b.WriteString(pick(chance, "\xff", "\x00", "\xc3"))
	}
	return b.String()
}

// chanceSteps: steps by chance, of elements of a namespace or others; most may be.
func chanceSteps(chance *rand.Rand, space string) []api.Step {
	var l []api.Step
	for range 1 + chance.Intn(5) {
		x := in(pick(chance, space, space, "urn:x", chanceText(chance)), pick(chance, "a", "b", "\u00e9"))
		if chance.Intn(4) == 0 {
			x = api.Step{Kind: api.StepName, Any: true}
		}
		if chance.Intn(3) == 0 {
			x.Pos = chance.Intn(10000)
		}
		if chance.Intn(3) == 0 {
			x = by(x, "c", chanceText(chance))
		}
		l = append(l, x)
	}
	switch chance.Intn(8) {
	case 0:
		l = append(l, api.Step{Kind: api.StepSpace})
	case 1:
		l = append(l, api.Step{Kind: api.StepAttr, Name: api.Name{Local: pick(chance, "a", "b", "1")}})
	case 2:
		l[chance.Intn(len(l))].Pos = chance.Intn(3) - 1
	}
	return l
}

// chanceWhere: by chance; most may be printed.
func chanceWhere(chance *rand.Rand) api.Where {
	w := api.Where{Usage: pick(chance, usages()...), User: chanceText(chance), Doc: chanceText(chance)}
	if w.Doc == "" {
		w.Doc = pick(chance, "d", "index", "a/b", "~~~", "")
	}
	if w.Node = chance.Intn(3) > 0; w.Node {
		w.Steps = chanceSteps(chance, uri.Space(w.Usage))
	}
	switch chance.Intn(40) {
	case 0:
		w.Usage = pick(chance, noUsages()...)
	case 1:
		w.User = "~~"
	case 2:
		w.Doc = "~~"
	case 3:
		w.User = ""
	}
	return w
}

// damaged: a text with a byte more or less, or another piece, by chance.
func damaged(chance *rand.Rand, s string) string {
	if s == "" {
		return s
	}
	at := chance.Intn(len(s))
	switch chance.Intn(4) {
	case 0:
		return s[:at] + s[at+1:]
	case 1:
		return s[:at] + pick(chance, "/", "//", "/~~/", "~~", "~", "?", "%", "%ff", "users/", "global/", "%2F", "a", " ", "\xff") + s[at:]
	case 2:
		return strings.Replace(s, pick(chance, "/", "users", "global", "~~", "?", "pres-", "%"), pick(chance, "", "/", "users", "global", "~", "?"), 1)
	}
	return s[:at] + s[at:at+1] + s[at:]
}

func TestOfChance(t *testing.T) { // P11.1, P11.2, P11.3
	chance := rand.New(rand.NewSource(11))
	printed, parsed := map[api.Errno]int{}, map[api.Errno]int{}
	for range 30000 {
		w := chanceWhere(chance)
		printed[holds(t, w)]++
		s, e := uri.Print(w)
		for e == api.OK && chance.Intn(5) > 0 {
			parsed[reads(t, s)]++
			s = damaged(chance, s)
			if chance.Intn(20) == 0 {
				s, _ = url.PathUnescape(s)
			}
			if chance.Intn(200) == 0 {
				s += strings.Repeat("a", 400)
			}
		}
	}
	enough(t, printed, 100, api.OK, api.ErrUsage, api.ErrForm, api.ErrLong, api.ErrStep, api.ErrPrefix, api.ErrChar, api.ErrName)
	enough(t, parsed, 100, api.OK, api.ErrForm, api.ErrUsage, api.ErrPercent, api.ErrUTF, api.ErrStep, api.ErrPrefix, api.ErrLong)
}

// loan: bytes as a text of the same memory, and what writes over it.
func loan(s string) (text string, spoil func()) {
	b := []byte(s)
	return unsafe.String(unsafe.SliceData(b), len(b)), func() {
		for i := range b {
			b[i] = '#'
		}
	}
}

func TestAnswersShareNoMemoryWithWhatIsHandedIn(t *testing.T) { // rule 3
	for _, x := range []string{of("users/u/d"), of("global/d"), of("users/a%2Fb/%C3%A9"), ofNode("a/p:b[2][@c='v']/@d?xmlns(p=urn:x)"), ofNode("%61[@b='&lt;']/p:c/namespace::*?xmlns%28p=q%29%20xmlns(r=s)"), "/resource-lists/global/d/~~/a?"} {
		s, spoil := loan(x)
		w, e := uri.Parse(s)
		if s != x {
			t.Errorf("Parse(%q) turned it into %q", x, s)
		}
		spoil()
		if want, _ := wantedParse(x); !same(w, want) || e != api.OK {
			t.Errorf("Parse(%q) became %+v, %v", x, w, e)
		}
	}
	for _, usage := range usages() {
		s, spoil := loan(usage)
		space := uri.Space(s)
		spoil()
		if space != "urn:ietf:params:xml:ns:"+usage {
			t.Errorf("Space(%q) became %q", usage, space)
		}
	}
	for _, user := range []string{"", "u", "a/b"} {
		usage, spoilUsage := loan("pres-rules")
		name, spoilName := loan(user)
		doc, spoilDoc := loan("d")
		local, spoilLocal := loan("a")
		value, spoilValue := loan("v")
		w := api.Where{Usage: usage, User: name, Doc: doc, Node: true, Steps: []api.Step{by(in("urn:x", local), local, value)}}
		want, _ := wantedPrint(to(user, "d", by(in("urn:x", "a"), "a", "v")))
		s, _ := uri.Print(w)
		if usage != "pres-rules" || name != user || doc != "d" || local != "a" || value != "v" {
			t.Errorf("Print turned what was handed in into %+v", w)
		}
		for _, spoil := range []func(){spoilUsage, spoilName, spoilDoc, spoilLocal, spoilValue} {
			spoil()
		}
		if s != want {
			t.Errorf("Print became %q, not %q", s, want)
		}
	}
}

func TestWhatIsHandedInStaysAsItWas(t *testing.T) { // rule 3
	steps := append(make([]api.Step, 0, 16), el("a"), in("urn:x", "b"))
	binds := append(make([]api.Bind, 0, 16), bind("p", "urn:p")...)
	for i := len(steps); i < cap(steps); i++ {
		steps[:cap(steps)][i] = el("spare")
	}
	for i := len(binds); i < cap(binds); i++ {
		binds[:cap(binds)][i] = api.Bind{Prefix: "spare"}
	}
	w := api.Where{Usage: "pres-rules", User: "u", Doc: "d", Node: true, Steps: steps, Raw: "raw", Binds: binds}
	uri.Print(w)
	w.Steps = steps[:1]
	uri.Print(w)
	w.User = ""
	uri.Print(w)
	if !slices.Equal(steps, []api.Step{el("a"), in("urn:x", "b")}) || !slices.Equal(binds, bind("p", "urn:p")) {
		t.Errorf("handed in were %+v, %q", steps, binds)
	}
	for i := 2; i < 16; i++ {
		if steps[:16][i] != el("spare") || binds[:16][i-1].Prefix != "spare" {
			t.Errorf("the spare room became %+v, %q", steps[:16], binds[:16])
		}
	}
}

func TestListsOfAnswersShareNoMemory(t *testing.T) { // rules 3 and 4
	s := ofNode("a/p:b/q:c?xmlns(p=urn:p)xmlns(q=urn:q)")
	want, _ := wantedParse(s)
	first, _ := uri.Parse(s)
	second, _ := uri.Parse(s)
	for i := range first.Steps[:cap(first.Steps)] {
		first.Steps[:cap(first.Steps)][i] = api.Step{}
	}
	for i := range first.Binds[:cap(first.Binds)] {
		first.Binds[:cap(first.Binds)][i] = api.Bind{}
	}
	third, _ := uri.Parse(s)
	if !same(second, want) || !same(third, want) {
		t.Errorf("other answers became %+v, %+v", second, third)
	}
}

func TestNothingIsKept(t *testing.T) { // rule 4
	for range 3 {
		parses(t, ofNode("p:a?xmlns(p=u)"), node("p:a", bind("p", "u"), in("u", "a")))
		wrong(t, ofNode("p:a"), api.ErrPrefix)
		parses(t, ofNode("p:a?xmlns(p=v)"), node("p:a", bind("p", "v"), in("v", "a")))
		parses(t, "/xcap-caps/global/a", api.Where{Usage: "xcap-caps", Doc: "a"})
		wrong(t, "/x/global/a", api.ErrUsage)
		parses(t, of("users/u/d"), whole("u", "d"))
		prints(t, to("u", "d", in("u", "a")), ofNode("n1%3Aa?xmlns%28n1%3Du%29"))
		refuses(t, to("u", "d", in("u", "a"), in(")", "a")), api.ErrPrefix)
		prints(t, to("", "e", in("v", "a")), of("global/e/~~/n1%3Aa?xmlns%28n1%3Dv%29"))
		prints(t, whole("u", "d"), of("users/u/d"))
	}
}

func TestLongTextsAreGoneThroughQuickly(t *testing.T) { // rule 5
	n := 1 << 20
	for _, s := range []string{"/", "a", "%", "?", "~~", "/~~/", "%41", "\u00e9", "\xff", "users/", "/pres-rules/users/u/d"} {
		s = strings.Repeat(s, n)
		wrong(t, s, api.ErrLong)
		wrong(t, "/pres-rules/users/"+s+"/d", api.ErrLong)
		refuses(t, api.Where{Usage: s, Doc: "d"}, api.ErrUsage)
		refuses(t, whole(s, "d"), api.ErrForm)
		refuses(t, whole("u", s), api.ErrForm)
		if uri.Space(s) != "" {
			t.Errorf("Space(%.20q...) isn't empty", s)
		}
	}
	refuses(t, to("u", "d", slices.Repeat([]api.Step{el("a")}, n)...), api.ErrStep)
	refuses(t, to("u", "d", by(el("a"), "b", xs(n)), in(xs(n), "a")), api.ErrLong)
}

func FuzzParse(f *testing.F) { // P11.1, P11.3
	for _, s := range []string{"", "/pres-rules/users/u/d", "/resource-lists/global/%C3%A9/~~/a/p:b[2][@c='d']/@e?xmlns(p=urn:x)", "/xcap-caps/users/~~/a", "/rls-services/users/a%2Fb/~%7e/~~/*?"} {
		f.Add(s)
	}
	f.Fuzz(func(t *testing.T, s string) {
		reads(t, s)
		reads(t, "/pres-rules/"+s)
		reads(t, ofNode(s))
	})
}

func FuzzPrint(f *testing.F) { // P11.2, P11.3
	f.Add("pres-rules", "u", "d", true, "urn:x", "a", 2, "v")
	f.Add("xcap-caps", "", "~~", false, "", "", 0, "/")
	f.Fuzz(func(t *testing.T, usage, user, doc string, node bool, space, local string, pos int, value string) {
		x := in(space, local)
		x.Pos = pos
		for _, u := range append(usages(), usage) {
			holds(t, api.Where{Usage: u, User: user, Doc: doc, Node: node, Steps: []api.Step{in(uri.Space(u), "a"), by(x, local, value)}})
		}
	})
}
