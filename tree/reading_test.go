package tree_test

import (
	"math/rand"
	"strings"
	"testing"

	"watchbill/api"
	"watchbill/qname"
	"watchbill/tree"
	"watchbill/utf"
)

// This file holds the package against a second reading of the chapter: documents are read piece by piece by
// functions that call themselves, and trees are asked node by node, each told with the nodes that it stands in.

// piece: of a document: its bytes, and the token that they are (of no kind, if they are none).
type piece struct {
	s string
	t api.Token
}

// pieces: of these bytes; each is a tag, a comment or what stands for a text.
func pieces(l ...string) []piece {
	var out []piece
	for _, s := range l {
		inside := strings.Trim(s, "</>")
		word, rest, _ := strings.Cut(inside, " ")
		p := piece{s: s}
		switch {
		case strings.HasPrefix(s, "<![CDATA["):
			p.t = api.Token{Kind: api.TokText, Text: s[9 : len(s)-3]}
		case strings.HasPrefix(s, "<!"), strings.HasPrefix(s, "<?"):
		case s[0] != '<':
			p.t = api.Token{Kind: api.TokText, Text: strings.NewReplacer("&#32;", " ", "&lt;", "<").Replace(s)}
		case s[1] == '/':
			p.t = api.Token{Kind: api.TokEnd, Name: inside}
		default:
			p.t = api.Token{Kind: api.TokStart, Name: word}
			if strings.HasSuffix(s, "/>") {
				p.t.Kind = api.TokEmpty
			}
			for _, x := range strings.Fields(rest) {
				name, value, _ := strings.Cut(x, "=")
				p.t.Attrs = append(p.t.Attrs, api.Raw{Name: name, Value: strings.Trim(value, "'")})
			}
		}
		out = append(out, p)
	}
	return out
}

// fault: what is wrong, and where.
type fault struct {
	at int
	e  api.Errno
}

// reading: a document that is read.
type reading struct {
	rest  []piece
	at    int // where the next piece begins
	nodes int
}

// next: the piece that comes, and where it begins; false at the end.
func (r *reading) next() (p piece, at int, ok bool) {
	if len(r.rest) == 0 {
		return piece{}, r.at, false
	}
	p, at = r.rest[0], r.at
	r.rest, r.at = r.rest[1:], r.at+len(p.s)
	return p, at, true
}

// unless: gives up, where something doesn't hold.
func unless(holds bool, at int, e api.Errno) {
	if !holds {
		panic(fault{at, e})
	}
}

// node: one more.
func (r *reading) node(at int) {
	r.nodes++
	unless(r.nodes <= 2000, at, api.ErrLong)
}

// element: the one that a tag opens at a place, with so many that it stands in.
func (r *reading) element(t api.Token, at, within int, scope []api.Bind) api.Node {
	unless(within < 24, at, api.ErrDeep)
	r.node(at)
	scope, rest, e := qname.Declare(scope, t.Attrs...)
	unless(e == api.OK, at, e)
	unless(len(rest) <= 32, at, api.ErrLong)
	n := api.Node{Kind: 1}
	n.Name, e = qname.Resolve(scope, t.Name, false)
	unless(e == api.OK, at, e)
	n.Attrs, e = qname.Attrs(scope, rest...)
	unless(e == api.OK, at, e)
	if t.Kind == api.TokEmpty {
		return n
	}
	text := "" // what stands since the last element
	flush := func() {
		if text != "" {
			n.Kids = append(n.Kids, api.Node{Kind: 2, Text: text})
		}
		text = ""
	}
	for {
		p, at, ok := r.next()
		unless(ok, at, api.ErrShort)
		switch p.t.Kind {
		case api.TokText:
			if text == "" && p.t.Text != "" {
				r.node(at)
			}
			text += p.t.Text
		case api.TokEnd:
			unless(p.t.Name == t.Name, at, api.ErrEnd)
			flush()
			return n
		case api.TokStart, api.TokEmpty:
			flush()
			n.Kids = append(n.Kids, r.element(p.t, at, within+1, scope))
		}
	}
}

// read: what the chapter says of a document.
func read(l []piece) (n api.Node, at int, e api.Errno) {
	defer func() {
		if f, is := recover().(fault); is {
			n, at, e = api.Node{}, f.at, f.e
		}
	}()
	r := reading{rest: l}
	for {
		p, at, ok := r.next()
		switch {
		case !ok:
			unless(n.Kind == 1, at, api.ErrRoot)
			return n, 0, api.OK
		case p.t.Kind == api.TokEnd:
			unless(false, at, api.ErrEnd)
		case p.t.Kind == api.TokText:
			unless(strings.Trim(p.t.Text, "\t\r\n ") == "", at, api.ErrRoot)
		case p.t.Kind != 0:
			unless(n.Kind == 0, at, api.ErrRoot)
			n = r.element(p.t, at, 0, nil)
		}
	}
}

// joined: pieces of which no two are one text, as bytes up to the next < are.
func joined(l []piece) []piece {
	var out []piece
	for _, p := range l {
		if last := len(out) - 1; last >= 0 && p.s[0] != '<' && out[last].s[0] != '<' {
			out[last].s += p.s
			out[last].t.Text += p.t.Text
			continue
		}
		out = append(out, p)
	}
	return out
}

// asRead: a document must be answered as it is read here, and be right if it is taken.
func asRead(t *testing.T, l []piece) {
	t.Helper()
	var s strings.Builder
	for _, p := range l {
		s.WriteString(p.s)
	}
	want, wantAt, wantE := read(joined(l))
	n, at, e := tree.Parse(s.String())
	if !like(n, want) || at != wantAt || e != wantE {
		t.Errorf("Parse(%.500q) = %.500s, %d, %v, not %.500s, %d, %v", s.String(), shown(n), at, e, shown(want), wantAt, wantE)
	}
	if tree.Right(n) != (e == api.OK) {
		t.Errorf("Parse(%.500q): right is %v", s.String(), tree.Right(n))
	}
}

// every: calls with all rows of up to so many of the pieces, behind a beginning.
func every(n int, begin []piece, call func([]piece), l ...piece) {
	call(begin)
	if n == 0 {
		return
	}
	for _, p := range l {
		every(n-1, append(begin[:len(begin):len(begin)], p), call, l...)
	}
}

func TestParseOfAllShortDocuments(t *testing.T) { // P4.1, P4.4
	check := func(l []piece) { asRead(t, l) }
	every(4, nil, check, pieces("<a>", "</a>", "<b>", "</b>", "<a/>", "x", " ", "&#32;", "&lt;", "<![CDATA[]]>", "<![CDATA[y]]>", "<!--x-->", "<?p x?>")...)
	every(8, nil, check, pieces("<a>", "</a>", "<a/>", "x")...)
	every(7, pieces("<a>"), check, pieces("<b>", "</b>", "x", "<![CDATA[]]>", "</a>")...)
	names := pieces("<a xmlns='u'>", "<a xmlns=''>", "<p:a xmlns:p='u'>", "<p:a xmlns:p='v' xmlns='w'>", "<a>", "<p:a>", "</a>", "</p:a>",
		"<p:b x='1' p:x='2'/>", "<q:b/>", "<a q:x='1' p:x='2' x='3'/>", "<xmlns:a/>", "<a p:x='1' p:x='2'/>", "<a xmlns:p=''/>", "<a xmlns:='u'/>", "<1 b:c:d='1'/>")
	every(3, nil, check, names...)
	every(3, pieces("<r xmlns:q='v'>"), check, names...)
	every(3, pieces("<p:a xmlns:q='u' xmlns:p='u' xmlns='x'>"), check, names...)
}

func TestParseOfChanceDocuments(t *testing.T) { // P4.1, P4.4
	chance := rand.New(rand.NewSource(4))
	told := map[api.Errno]int{}
	for range 300 {
		row := chanceDocument(chance, chance.Intn(4500))
		asRead(t, row)
		_, _, e := read(joined(row))
		told[e]++
	}
	for _, e := range []api.Errno{api.OK, api.ErrLong, api.ErrDeep, api.ErrShort, api.ErrEnd} {
		if told[e] < 10 {
			t.Errorf("too few documents come to %v: %v", e, told)
		}
	}
}

// chanceDocument: a root with pieces by chance, most of the time such as may stand there.
func chanceDocument(chance *rand.Rand, n int) []piece {
	l := pieces("<a>", "<a>", "</a>", "</a>", "</a>", "</a>", "<a/>", "<b/>", "<c/>", "<d/>", "x", "y", "z", " ", "<![CDATA[]]>", "<!---->", "<p:c xmlns:p='u' p:x='1'/>", "<a xmlns='u'>", "<a xmlns=''>")
	row, open := pieces("<a>"), 1
	for range n {
		p := l[chance.Intn(len(l))]
		switch {
		case p.t.Kind == api.TokStart && (open < 24 || chance.Intn(300) == 0):
			open++
		case p.t.Kind == api.TokEnd && open > 1:
			open--
		case p.t.Kind == api.TokStart, p.t.Kind == api.TokEnd, p.t.Kind == api.TokEmpty && open == 24:
			continue
		}
		row = append(row, p)
	}
	for range open - chance.Intn(12)/11 + chance.Intn(12)/11 {
		row = append(row, l[2])
	}
	return row
}

// standing: a node, how many elements it stands in, and the node ahead of it.
type standing struct {
	n, ahead api.Node
	within   int
}

// gathered: all nodes of a tree.
func gathered(x standing) []standing {
	l := []standing{x}
	var ahead api.Node
	for _, k := range x.n.Kids {
		l = append(l, gathered(standing{k, ahead, x.within + 1})...)
		ahead = k
	}
	return l
}

// taken: is it XML's signs throughout?
func taken(s string) bool {
	for at := 0; at < len(s); {
		r, size := utf.Rune(s, at)
		if size == 0 || !utf.Char(r) {
			return false
		}
		at += size
	}
	return true
}

// named: may it be the name of an element?
func named(n api.Name) bool {
	return utf.Name(n.Local) && taken(n.Space) && n.Space != "http://www.w3.org/2000/xmlns/"
}

// fitting: is a node as it must be where it stands?
func fitting(x standing) bool {
	n := x.n
	switch n.Kind {
	case api.Text:
		return n.Text != "" && taken(n.Text) && n.Name == (api.Name{}) && len(n.Attrs)+len(n.Kids) == 0 && x.ahead.Kind != api.Text
	case api.Element:
	default:
		return false
	}
	for i, a := range n.Attrs {
		for _, b := range n.Attrs[:i] {
			if a.Name == b.Name {
				return false
			}
		}
		if !named(a.Name) || a.Name == (api.Name{Local: "xmlns"}) || !taken(a.Value) {
			return false
		}
	}
	return named(n.Name) && n.Text == "" && len(n.Attrs) <= 32 && x.within < 24
}

// rightly: what the chapter says of a tree.
func rightly(n api.Node) bool {
	l := gathered(standing{n: n})
	for _, x := range l {
		if !fitting(x) {
			return false
		}
	}
	return n.Kind == api.Element && len(l) <= 2000
}

// chanceText, chanceName, chanceNode: by chance, right most of the time.
func chanceText(chance *rand.Rand, good ...string) string {
	if chance.Intn(60) == 0 {
		return []string{"", "\x00", "\xff", "x\xc3", "\ufffe", "xmlns", " ", ":", qname.XMLNS}[chance.Intn(9)]
	}
	return good[chance.Intn(len(good))]
}

func chanceName(chance *rand.Rand) api.Name {
	return api.Name{Space: chanceText(chance, "", "u", "v"), Local: chanceText(chance, "a", "b", "c", "d", "e")}
}

func chanceNode(chance *rand.Rand, kind, deep int) api.Node {
	if chance.Intn(60) == 0 {
		kind = chance.Intn(4)
	}
	n := api.Node{Kind: kind}
	if chance.Intn(60) == 0 || kind != api.Element {
		n.Text = chanceText(chance, "x", "y", " ")
	}
	if chance.Intn(60) == 0 || kind == api.Element {
		n.Name = chanceName(chance)
	}
	if chance.Intn(60) != 0 && kind != api.Element {
		return n
	}
	for range chance.Intn(3) {
		n.Attrs = append(n.Attrs, api.Attr{Name: chanceName(chance), Value: chanceText(chance, "", "1", "2")})
	}
	if deep == 0 {
		return n
	}
	for i := range chance.Intn(4) {
		n.Kids = append(n.Kids, chanceNode(chance, 1+i%2, deep-1))
	}
	return n
}

func TestRightOfChanceTrees(t *testing.T) { // P4.2
	chance := rand.New(rand.NewSource(4))
	told := map[bool]int{}
	for range 60000 {
		n := chanceNode(chance, api.Element, chance.Intn(5))
		want := rightly(n)
		told[want]++
		if tree.Right(n) != want {
			t.Errorf("Right(%s) = %v", shown(n), !want)
		}
	}
	if told[true] < 10000 || told[false] < 10000 {
		t.Errorf("too few trees of one kind: %v", told)
	}
}

func TestSameOfChanceTrees(t *testing.T) { // P4.2
	chance := rand.New(rand.NewSource(4))
	first := map[string]api.Node{} // of trees that are the same
	var l []api.Node
	for range 2000 {
		n := chanceNode(chance, api.Element, 1)
		want := shown(sorted(n))
		for _, x := range l {
			if tree.Same(x, n) != (shown(sorted(x)) == want) {
				t.Errorf("Same of %s and %s: %v", shown(x), shown(n), tree.Same(x, n))
			}
		}
		if x, there := first[want]; there && (!tree.Same(x, n) || !tree.Same(n, x)) {
			t.Errorf("not the same: %s and %s", shown(x), shown(n))
		}
		first[want] = n
		if len(l) < 30 {
			l = append(l, n)
		}
		c := tree.Copy(n)
		chance.Shuffle(len(c.Attrs), func(i, j int) { c.Attrs[i], c.Attrs[j] = c.Attrs[j], c.Attrs[i] })
		if !tree.Same(n, c) || tree.Right(n) != tree.Right(c) || tree.Cost(n) != tree.Cost(c) {
			t.Errorf("not the same: %s and %s", shown(n), shown(c))
		}
	}
}
