package qname_test

import (
	"slices"
	"strings"
	"testing"

	"watchbill/api"
	"watchbill/qname"
	"watchbill/utf"
)

// bound: a scope, of prefixes and namespaces in turn.
func bound(l ...string) []api.Bind {
	var scope []api.Bind
	for i := 0; i < len(l); i += 2 {
		scope = append(scope, api.Bind{Prefix: l[i], Space: l[i+1]})
	}
	return scope
}

// raws: attributes as they stand, of names and values in turn.
func raws(l ...string) []api.Raw {
	var out []api.Raw
	for i := 0; i < len(l); i += 2 {
		out = append(out, api.Raw{Name: l[i], Value: l[i+1]})
	}
	return out
}

// in: a name in a namespace.
func in(space, local string) api.Name { return api.Name{Space: space, Local: local} }

// roomy: the items with spare room behind them, and a check that all of it stayed as it was.
func roomy[T comparable](t *testing.T, spare T, l ...T) ([]T, func()) {
	t.Helper()
	whole := slices.Clone(l)
	for range 9 {
		whole = append(whole, spare)
	}
	was := slices.Clone(whole)
	return whole[:len(l)], func() {
		t.Helper()
		if !slices.Equal(whole, was) {
			t.Errorf("what was handed in is %v, was %v", whole, was)
		}
	}
}

// spoil: writes over a list and its spare room, so that memory that it shares with another shows.
func spoil[T any](l []T, with T) {
	l = l[:cap(l)]
	for i := range l {
		l[i] = with
	}
}

var (
	spareBind = api.Bind{Prefix: "spare", Space: "urn:spare"}
	spoilBind = api.Bind{Prefix: "spoilt", Space: "urn:spoilt"}
	spareRaw  = api.Raw{Name: "spare", Value: "spare"}
	spoilRaw  = api.Raw{Name: "spoilt", Value: "spoilt"}
)

// longName: a name of so many bytes.
func longName(n int) string { return strings.Repeat("n", n) }

func TestSplitTellsPrefixAndLocalPart(t *testing.T) { // P2.1
	e32, e33 := strings.Repeat("\u00e9", 32), strings.Repeat("\u00e9", 33)
	for _, x := range []struct{ q, prefix, local string }{
		{"a", "", "a"},
		{"a:b", "a", "b"},
		{"_:_", "_", "_"},
		{"a-1:b.2", "a-1", "b.2"},
		{"xml:lang", "xml", "lang"},
		{"xmlns", "", "xmlns"},
		{"xmlns:a", "xmlns", "a"},
		{"\u00e9:\u4e2d\u00b7", "\u00e9", "\u4e2d\u00b7"},
		{"a\uff1ab", "", "a\uff1ab"}, // a sign that looks like a colon is none
		{longName(64), "", longName(64)},
		{longName(64) + ":b", longName(64), "b"},
		{"a:" + longName(64), "a", longName(64)},
		{longName(64) + ":" + longName(64), longName(64), longName(64)},
		{e32 + ":" + e32, e32, e32},
	} {
		if prefix, local, ok := qname.Split(x.q); prefix != x.prefix || local != x.local || !ok {
			t.Errorf("Split(%q) = %q, %q, %v", x.q, prefix, local, ok)
		}
	}
	for _, q := range []string{
		"", ":", "::", "a:", ":a", ":a:", "a::b", "a:b:", ":a:b", "a:b:c", "a:b:c:d",
		"1", "1:a", "a:1", "-a:b", "a:-b", ".:a", "a:.",
		" a", "a ", "a b", "a :b", "a: b", " a:b", "a:b ", "a\n:b", "a\u00a0:b",
		"a\x00", "\x00:a", "a\xff", "a\xff:b", "a:b\xff", "a:\xc3", "\xc3:a", "\xc3:\xa9",
		longName(65), longName(65) + ":b", "a:" + longName(65), longName(64) + ":" + longName(65), longName(65) + ":" + longName(64),
		e33, e33 + ":b", "a:" + e33, longName(64) + ":", ":" + longName(64),
		longName(100000), longName(100000) + ":a", strings.Repeat(":", 100000), strings.Repeat("a:", 100000) + "a",
	} {
		if prefix, local, ok := qname.Split(q); prefix != "" || local != "" || ok {
			t.Errorf("Split(%.99q) = %q, %q, %v", q, prefix, local, ok)
		}
	}
}

// short: all texts of up to so many of the pieces.
func short(n int, pieces ...string) []string {
	l := []string{""}
	for from := 0; n > 0; n-- {
		to := len(l)
		for _, s := range l[from:to] {
			for _, p := range pieces {
				l = append(l, s+p)
			}
		}
		from = to
	}
	return l
}

func TestSplitTakesJustOneOrTwoNames(t *testing.T) { // P2.1
	for _, q := range short(6, "a", ":", "-", "\u00e9", "\xc3") {
		l := strings.Split(q, ":")
		want := len(l) <= 2
		for _, s := range l {
			want = want && utf.Name(s)
		}
		prefix, local, ok := qname.Split(q)
		if ok != want {
			t.Errorf("Split(%q) = %q, %q, %v", q, prefix, local, ok)
		}
		if !want {
			l = []string{"", ""}
		}
		if len(l) == 1 {
			l = []string{"", q}
		}
		if prefix != l[0] || local != l[1] {
			t.Errorf("Split(%q) = %q, %q, not %q", q, prefix, local, l)
		}
	}
}

func TestAddTellsWhatMayBeBound(t *testing.T) { // P2.2
	spaces := []string{"urn:x", "", qname.XML, qname.XMLNS, " any \x00\xff text: ", qname.XML + "/", qname.XMLNS[:len(qname.XMLNS)-1], "HTTP" + qname.XML[4:], strings.Repeat("u", 40000)}
	const ok, bad, no = api.OK, api.ErrPrefix, api.ErrName
	for _, x := range []struct {
		prefix string
		want   []api.Errno
	}{
		{"", []api.Errno{ok, ok, bad, bad, ok, ok, ok, ok, ok}},
		{"a", []api.Errno{ok, bad, bad, bad, ok, ok, ok, ok, ok}},
		{"xmln", []api.Errno{ok, bad, bad, bad, ok, ok, ok, ok, ok}},
		{"xmlnsa", []api.Errno{ok, bad, bad, bad, ok, ok, ok, ok, ok}},
		{"XML", []api.Errno{ok, bad, bad, bad, ok, ok, ok, ok, ok}},
		{"XMLNS", []api.Errno{ok, bad, bad, bad, ok, ok, ok, ok, ok}},
		{longName(64), []api.Errno{ok, bad, bad, bad, ok, ok, ok, ok, ok}},
		{"xml", []api.Errno{bad, bad, ok, bad, bad, bad, bad, bad, bad}},
		{"xmlns", []api.Errno{bad, bad, bad, bad, bad, bad, bad, bad, bad}},
		{"1", []api.Errno{no, no, no, no, no, no, no, no, no}},
		{"a:b", []api.Errno{no, no, no, no, no, no, no, no, no}},
		{"xmlns:", []api.Errno{no, no, no, no, no, no, no, no, no}},
		{" ", []api.Errno{no, no, no, no, no, no, no, no, no}},
		{"a\xff", []api.Errno{no, no, no, no, no, no, no, no, no}},
		{longName(65), []api.Errno{no, no, no, no, no, no, no, no, no}},
	} {
		for i, space := range spaces {
			for _, scope := range [][]api.Bind{nil, {}, bound("a", "urn:y"), bound("", "urn:y", x.prefix, space, "1", "", "xmlns", "")} {
				var want []api.Bind
				if x.want[i] == api.OK {
					want = append(slices.Clone(scope), api.Bind{Prefix: x.prefix, Space: space})
				}
				handed, same := roomy(t, spareBind, scope...)
				got, e := qname.Add(handed, x.prefix, space)
				if !slices.Equal(got, want) || e != x.want[i] {
					t.Errorf("Add(%v, %q, %.99q) = %.99v, %v", scope, x.prefix, space, got, e)
				}
				same()
				spoil(got, spoilBind)
				same()
			}
		}
	}
}

func TestAddTwiceToOneScope(t *testing.T) { // P2.2: neither answer stands in the other's memory
	scope, same := roomy(t, spareBind, bound("a", "urn:a")...)
	one, _ := qname.Add(scope, "b", "urn:b")
	two, _ := qname.Add(scope, "c", "urn:c")
	three, _ := qname.Add(one, "d", "urn:d")
	four, _ := qname.Add(one, "e", "urn:e")
	for _, x := range []struct{ got, want []api.Bind }{
		{one, bound("a", "urn:a", "b", "urn:b")},
		{two, bound("a", "urn:a", "c", "urn:c")},
		{three, bound("a", "urn:a", "b", "urn:b", "d", "urn:d")},
		{four, bound("a", "urn:a", "b", "urn:b", "e", "urn:e")},
	} {
		if !slices.Equal(x.got, x.want) {
			t.Errorf("the scope is %v, not %v", x.got, x.want)
		}
	}
	same()
}

func TestFindTellsTheLastBinding(t *testing.T) { // P2.3
	scope := bound("a", "urn:1", "", "urn:2", "b", "urn:3", "a", "urn:4", "xml", "urn:5", "c", "urn:6", "c", "", "1:", "urn:7")
	last := bound("", "urn:1", "a", "urn:2", "", "urn:3", "", "")
	for _, x := range []struct {
		scope         []api.Bind
		prefix, space string
		ok            bool
	}{
		{scope, "a", "urn:4", true},
		{scope, "", "urn:2", true},
		{scope, "b", "urn:3", true},
		{scope, "xml", qname.XML, true},
		{scope, "c", "", true},
		{scope, "1:", "urn:7", true},
		{scope, "d", "", false},
		{scope, "A", "", false},
		{scope, "aa", "", false},
		{scope, "xmlns", "", false},
		{scope, "1", "", false},
		{last, "", "", true},
		{last[:3], "", "urn:3", true},
		{last[:2], "", "urn:1", true},
		{nil, "", "", true},
		{nil, "xml", qname.XML, true},
		{nil, "a", "", false},
		{nil, "xmlns", "", false},
		{nil, "\xff", "", false},
		{bound("a", "urn:1"), "", "", true},
		{bound("xmlns", "urn:1"), "xmlns", "urn:1", true},
	} {
		handed, same := roomy(t, spareBind, x.scope...)
		if space, ok := qname.Find(handed, x.prefix); space != x.space || ok != x.ok {
			t.Errorf("Find(%v, %q) = %q, %v", x.scope, x.prefix, space, ok)
		}
		same()
	}
}

func TestResolveTellsANameInItsNamespace(t *testing.T) { // P2.3
	scope := bound("a", "urn:1", "", "urn:2", "b", "urn:3", "a", "urn:4", "xml", "urn:5", "xmlns", "urn:6", longName(64), "urn:7")
	undone := append(slices.Clone(scope), api.Bind{})
	for _, x := range []struct {
		scope         []api.Bind
		q             string
		element, attr api.Name
		e             api.Errno
	}{
		{scope, "x", in("urn:2", "x"), in("", "x"), api.OK},
		{scope, "a", in("urn:2", "a"), in("", "a"), api.OK},
		{scope, "xml", in("urn:2", "xml"), in("", "xml"), api.OK},
		{scope, "xmlns", in("urn:2", "xmlns"), in("", "xmlns"), api.OK},
		{scope, "a:x", in("urn:4", "x"), in("urn:4", "x"), api.OK},
		{scope, "b:x", in("urn:3", "x"), in("urn:3", "x"), api.OK},
		{scope, "b:a", in("urn:3", "a"), in("urn:3", "a"), api.OK},
		{scope, "xml:x", in(qname.XML, "x"), in(qname.XML, "x"), api.OK},
		{scope, longName(64) + ":" + longName(64), in("urn:7", longName(64)), in("urn:7", longName(64)), api.OK},
		{undone, "x", in("", "x"), in("", "x"), api.OK},
		{undone, "a:x", in("urn:4", "x"), in("urn:4", "x"), api.OK},
		{nil, "x", in("", "x"), in("", "x"), api.OK},
		{nil, "xml:x", in(qname.XML, "x"), in(qname.XML, "x"), api.OK},
		{nil, "a:x", api.Name{}, api.Name{}, api.ErrPrefix},
		{scope, "c:x", api.Name{}, api.Name{}, api.ErrPrefix},
		{scope, "A:x", api.Name{}, api.Name{}, api.ErrPrefix},
		{scope, "xmlns:x", api.Name{}, api.Name{}, api.ErrPrefix},
		{nil, "xmlns:x", api.Name{}, api.Name{}, api.ErrPrefix},
		{scope, "", api.Name{}, api.Name{}, api.ErrName},
		{scope, ":x", api.Name{}, api.Name{}, api.ErrName},
		{scope, "a:", api.Name{}, api.Name{}, api.ErrName},
		{scope, "xmlns:", api.Name{}, api.Name{}, api.ErrName},
		{scope, "c:1", api.Name{}, api.Name{}, api.ErrName},
		{scope, "a:x:y", api.Name{}, api.Name{}, api.ErrName},
		{scope, "a:x ", api.Name{}, api.Name{}, api.ErrName},
		{scope, "\xff", api.Name{}, api.Name{}, api.ErrName},
		{scope, longName(65), api.Name{}, api.Name{}, api.ErrName},
		{scope, longName(65) + ":x", api.Name{}, api.Name{}, api.ErrName},
		{scope, "*", api.Name{}, api.Name{}, api.ErrName},
	} {
		handed, same := roomy(t, spareBind, x.scope...)
		if n, e := qname.Resolve(handed, x.q, false); n != x.element || e != x.e {
			t.Errorf("Resolve(%v, %q, false) = %q, %v", x.scope, x.q, n, e)
		}
		if n, e := qname.Resolve(handed, x.q, true); n != x.attr || e != x.e {
			t.Errorf("Resolve(%v, %q, true) = %q, %v", x.scope, x.q, n, e)
		}
		same()
	}
}

func TestDeclareTellsDeclarationsAndTheOthers(t *testing.T) { // P2.4
	for _, x := range []struct {
		l           []api.Raw
		binds, rest []string
	}{
		{nil, nil, nil},
		{raws("x", "1"), nil, []string{"x", "1"}},
		{raws("xmlns", "urn:d"), []string{"", "urn:d"}, nil},
		{raws("xmlns", ""), []string{"", ""}, nil},
		{raws("xmlns:a", "urn:a"), []string{"a", "urn:a"}, nil},
		{raws("xmlns:xml", qname.XML), []string{"xml", qname.XML}, nil},
		{raws("xmlns:"+longName(64), "urn:a"), []string{longName(64), "urn:a"}, nil},
		{raws("xmlns:xmln", "u", "xmlns:xmlnsa", "u"), []string{"xmln", "u", "xmlnsa", "u"}, nil},
		{raws("xmlns:b", "urn:u", "xmlns", "urn:u", "xmlns:a", "urn:u"), []string{"b", "urn:u", "", "urn:u", "a", "urn:u"}, nil},
		{
			raws("x", "1", "xmlns:b", "urn:b", "a:x", "2", "xmlns", "urn:d", "b:y", "", "xmlns:a", "urn:a", "z", "4"),
			[]string{"b", "urn:b", "", "urn:d", "a", "urn:a"},
			[]string{"x", "1", "a:x", "2", "b:y", "", "z", "4"},
		},
		// What is no declaration is told as it stands, whatever it is.
		{
			raws("xmlnsy", "1", "xmln", "2", "XMLNS", "3", "XMLNS:a", "4", "a:xmlns", "5", " xmlns", "6", "xmlns ", "7", "xmlns=", "8", "xml:ns", "9", "", "", "1:", "\xff", "x", "1", "x", "1"), nil,
			[]string{"xmlnsy", "1", "xmln", "2", "XMLNS", "3", "XMLNS:a", "4", "a:xmlns", "5", " xmlns", "6", "xmlns ", "7", "xmlns=", "8", "xml:ns", "9", "", "", "1:", "\xff", "x", "1", "x", "1"},
		},
	} {
		for _, scope := range [][]api.Bind{nil, bound("a", "urn:1", "", "urn:2", "b", "urn:3"), bound("xmlns", "", "1", "u", "a", "urn:1", "a", "")} {
			handed, sameScope := roomy(t, spareBind, scope...)
			l, sameRaws := roomy(t, spareRaw, x.l...)
			got, rest, e := qname.Declare(handed, l...)
			if want := append(slices.Clone(scope), bound(x.binds...)...); !slices.Equal(got, want) || e != api.OK {
				t.Errorf("Declare(%v, %v) = %v, %v", scope, x.l, got, e)
			}
			if !slices.Equal(rest, raws(x.rest...)) {
				t.Errorf("Declare(%v, %v) leaves %v", scope, x.l, rest)
			}
			sameScope()
			sameRaws()
			spoil(got, spoilBind)
			spoil(rest, spoilRaw)
			sameScope()
			sameRaws()
		}
	}
}

func TestDeclareTellsTheFirstWrongDeclaration(t *testing.T) { // P2.4
	for _, x := range []struct {
		l    []api.Raw
		want api.Errno
	}{
		{raws("xmlns:", "urn:x"), api.ErrName},
		{raws("xmlns:", ""), api.ErrName},
		{raws("xmlns:1", "urn:x"), api.ErrName},
		{raws("xmlns:1", ""), api.ErrName},
		{raws("xmlns::a", "urn:x"), api.ErrName},
		{raws("xmlns:a:b", "urn:x"), api.ErrName},
		{raws("xmlns:a ", "urn:x"), api.ErrName},
		{raws("xmlns:\xff", "urn:x"), api.ErrName},
		{raws("xmlns:"+longName(65), "urn:x"), api.ErrName},
		{raws("xmlns:xmlns:", "urn:x"), api.ErrName},
		{raws("xmlns:a", "urn:x", "xmlns:a", "urn:x"), api.ErrTwice},
		{raws("xmlns:a", "urn:x", "xmlns:a", "urn:y"), api.ErrTwice},
		{raws("xmlns", "urn:x", "xmlns", "urn:y"), api.ErrTwice},
		{raws("xmlns", "", "xmlns", ""), api.ErrTwice},
		{raws("xmlns:xml", qname.XML, "xmlns:xml", qname.XML), api.ErrTwice},
		{raws("xmlns:a", "urn:x", "xmlns:b", "urn:x", "x", "1", "xmlns", "urn:x", "xmlns:a", "urn:z"), api.ErrTwice},
		{raws("xmlns:a", ""), api.ErrPrefix},
		{raws("xmlns:a", qname.XML), api.ErrPrefix},
		{raws("xmlns:a", qname.XMLNS), api.ErrPrefix},
		{raws("xmlns", qname.XML), api.ErrPrefix},
		{raws("xmlns", qname.XMLNS), api.ErrPrefix},
		{raws("xmlns:xml", "urn:x"), api.ErrPrefix},
		{raws("xmlns:xml", ""), api.ErrPrefix},
		{raws("xmlns:xml", qname.XMLNS), api.ErrPrefix},
		{raws("xmlns:xmlns", "urn:x"), api.ErrPrefix},
		{raws("xmlns:xmlns", qname.XMLNS), api.ErrPrefix},
		{raws("xmlns:xmlns", ""), api.ErrPrefix},
		{raws("xmlns", "urn:x", "xmlns:xmlns", "urn:x"), api.ErrPrefix}, // no second one of the empty prefix
		// Of one declaration, being there twice goes ahead of what Add says; of several, the first wrong one counts.
		{raws("xmlns:a", "urn:x", "xmlns:a", ""), api.ErrTwice},
		{raws("xmlns:a", "urn:x", "xmlns:a", qname.XML), api.ErrTwice},
		{raws("xmlns", "urn:x", "xmlns", qname.XMLNS), api.ErrTwice},
		{raws("xmlns:a", "", "xmlns:a", "urn:x"), api.ErrPrefix},
		{raws("xmlns:a", "", "xmlns:1", "urn:x"), api.ErrPrefix},
		{raws("xmlns:xmlns", "u", "xmlns:xmlns", "u"), api.ErrPrefix},
		{raws("xmlns:", "u", "xmlns:", "u"), api.ErrName},
		{raws("xmlns:1", "u", "xmlns:a", ""), api.ErrName},
		{raws("xmlns", "u", "xmlns:", ""), api.ErrName},
		{raws("xmlns", "u", "xmlns", "u", "xmlns:", ""), api.ErrTwice},
		{raws("xmlns", "u", "xmlns:b", "u", "xmlns:a", "", "xmlns", "u"), api.ErrPrefix},
	} {
		for _, scope := range [][]api.Bind{nil, bound("a", "urn:1", "", "urn:2")} {
			for _, l := range [][]api.Raw{x.l, append(raws("x", "1", "x", "2", ":", ""), x.l...), append(slices.Clone(x.l), raws("x", "1")...)} {
				handed, sameScope := roomy(t, spareBind, scope...)
				l, sameRaws := roomy(t, spareRaw, l...)
				got, rest, e := qname.Declare(handed, l...)
				if e != x.want || len(got) != 0 || len(rest) != 0 {
					t.Errorf("Declare(%v, %q) = %v, %v, %v, not %v", scope, l, got, rest, e, x.want)
				}
				sameScope()
				sameRaws()
			}
		}
	}
}

func TestDeclareMindsNoBindingOfTheScope(t *testing.T) { // P2.4: only declarations in l stand ahead of one
	scope := bound("a", "urn:1", "", "urn:2")
	got, rest, e := qname.Declare(scope, raws("xmlns:a", "urn:1", "xmlns", "")...)
	if !slices.Equal(got, bound("a", "urn:1", "", "urn:2", "a", "urn:1", "", "")) || len(rest) != 0 || e != api.OK {
		t.Errorf("the scope is %v, the rest %v, the error %v", got, rest, e)
	}
}

func TestAttrsTellsNamesAndValues(t *testing.T) { // P2.4
	scope := bound("a", "urn:x", "b", "urn:x", "c", "urn:y", "", "urn:d")
	for _, x := range []struct {
		l    []api.Raw
		want []api.Attr
	}{
		{nil, nil},
		{raws("z", "1"), []api.Attr{{Name: in("", "z"), Value: "1"}}},
		{
			raws("z", "1", "c:z", "1", "b:z", "", "xml:z", "\xff", "a:y", "&", "xmlns", "u"),
			[]api.Attr{
				{Name: in("", "z"), Value: "1"},
				{Name: in("urn:y", "z"), Value: "1"},
				{Name: in("urn:x", "z")},
				{Name: in(qname.XML, "z"), Value: "\xff"},
				{Name: in("urn:x", "y"), Value: "&"},
				{Name: in("", "xmlns"), Value: "u"},
			},
		},
	} {
		handed, sameScope := roomy(t, spareBind, scope...)
		l, sameRaws := roomy(t, spareRaw, x.l...)
		got, e := qname.Attrs(handed, l...)
		if !slices.Equal(got, x.want) || e != api.OK {
			t.Errorf("Attrs(%q) = %q, %v", x.l, got, e)
		}
		sameScope()
		sameRaws()
		again, _ := qname.Attrs(handed, l...)
		spoil(got, api.Attr{Value: "spoilt"})
		if !slices.Equal(again, x.want) {
			t.Errorf("Attrs(%q) twice share their memory", x.l)
		}
	}
}

func TestAttrsTellsTheFirstWrongOne(t *testing.T) { // P2.4
	scope := bound("a", "urn:x", "b", "urn:x", "c", "urn:y", "e", "", "", "urn:x")
	for _, x := range []struct {
		l    []api.Raw
		want api.Errno
	}{
		{raws("z", "1", "z", "1"), api.ErrTwice},
		{raws("z", "1", "z", "2"), api.ErrTwice},
		{raws("a:z", "1", "a:z", "1"), api.ErrTwice},
		{raws("a:z", "1", "b:z", "2"), api.ErrTwice},
		{raws("b:z", "1", "y", "2", "c:z", "3", "a:z", "4"), api.ErrTwice},
		{raws("z", "1", "e:z", "2"), api.ErrTwice},
		{raws("xml:z", "1", "xml:z", "2"), api.ErrTwice},
		{raws("xmlns", "u", "xmlns", "u"), api.ErrTwice},
		{raws("d:z", "1"), api.ErrPrefix},
		{raws("xmlns:a", "1"), api.ErrPrefix},
		{raws("", "1"), api.ErrName},
		{raws("a:", "1"), api.ErrName},
		{raws("z z", "1"), api.ErrName},
		{raws("a:b:c", "1"), api.ErrName},
		{raws(longName(65), "1"), api.ErrName},
		// The first wrong one counts; a name that is there twice, where it comes again.
		{raws("d:z", "1", "z z", "2"), api.ErrPrefix},
		{raws("z z", "1", "d:z", "2"), api.ErrName},
		{raws("z", "1", "z", "2", "d:z", "3"), api.ErrTwice},
		{raws("z", "1", "d:z", "2", "z", "3"), api.ErrPrefix},
		{raws("z", "1", "z z", "2", "z", "3"), api.ErrName},
		{raws("a:z", "1", "b:z", "2", "z z", "3"), api.ErrTwice},
		{raws("z z", "1", "z z", "2"), api.ErrName},
		{raws("d:z", "1", "d:z", "2"), api.ErrPrefix},
	} {
		for _, l := range [][]api.Raw{x.l, append(raws("first", "1"), x.l...), append(slices.Clone(x.l), raws("last", "1")...)} {
			handed, sameScope := roomy(t, spareBind, scope...)
			l, sameRaws := roomy(t, spareRaw, l...)
			if got, e := qname.Attrs(handed, l...); e != x.want || len(got) != 0 {
				t.Errorf("Attrs(%q) = %q, %v, not %v", l, got, e, x.want)
			}
			sameScope()
			sameRaws()
		}
	}
}

func TestAttrsTellsLikeNamesInUnlikeNamespacesApart(t *testing.T) { // P2.4
	// No prefix means the empty namespace here, not the default one, and no text of two parts stands for another.
	scope := bound("a", "urn:x", "b", "urn:xy", "", "urn:x")
	for _, l := range [][]api.Raw{
		raws("z", "1", "a:z", "2"),
		raws("a:z", "1", "b:z", "2"),
		raws("a:yz", "1", "b:z", "2"),
		raws("z", "1", "Z", "2", "xml:z", "3"),
	} {
		if got, e := qname.Attrs(scope, l...); len(got) != len(l) || e != api.OK {
			t.Errorf("Attrs(%q) = %q, %v", l, got, e)
		}
	}
}

// scopes: all lists of up to so many bindings that Add takes.
func scopes(n int) [][]api.Bind {
	l := [][]api.Bind{nil}
	for from := 0; n > 0; n-- {
		to := len(l)
		for _, scope := range l[from:to] {
			for _, b := range bound("", "", "", "urn:1", "a", "urn:1", "a", "urn:2", "b", "urn:1", "xml", qname.XML) {
				if more, e := qname.Add(scope, b.Prefix, b.Space); e == api.OK {
					l = append(l, more)
				}
			}
		}
		from = to
	}
	return l
}

func TestWhatIsAddedIsFoundAndNothingElseChanges(t *testing.T) { // P2.5
	prefixes := []string{"", "a", "b", "c", "xml", "xmlns", "1"}
	all := scopes(3)
	if len(all) != 1+6+36+216 {
		t.Fatalf("there are %d scopes", len(all))
	}
	for _, scope := range all {
		for _, prefix := range prefixes {
			for _, space := range []string{"", "urn:1", "urn:9", qname.XML} {
				more, e := qname.Add(scope, prefix, space)
				declaration := api.Raw{Name: strings.TrimSuffix("xmlns:"+prefix, ":"), Value: space}
				declared, _, f := qname.Declare(scope, declaration)
				if e != f || !slices.Equal(more, declared) {
					t.Errorf("Add = %v, %v; Declare of %q = %v, %v", more, e, declaration, declared, f)
				}
				if e != api.OK {
					continue
				}
				for _, p := range prefixes {
					want, ok := qname.Find(scope, p)
					if p == prefix {
						want, ok = space, true
					}
					if got, is := qname.Find(more, p); got != want || is != ok {
						t.Errorf("behind Add(%v, %q, %q): Find(%q) = %q, %v", scope, prefix, space, p, got, is)
					}
				}
			}
		}
	}
}

// meaning: what each prefix comes to in a scope; "-" where it is bound to nothing.
func meaning(scope []api.Bind) [3]string {
	m := [3]string{"", "-", "-"}
	for _, b := range scope {
		switch b.Prefix {
		case "":
			m[0] = b.Space
		case "a":
			m[1] = b.Space
		case "b":
			m[2] = b.Space
		}
	}
	return m
}

func TestNamesInScopesThatBindAlikeAreAlike(t *testing.T) { // P2.5
	type told struct {
		element, attr   api.Name
		eElement, eAttr api.Errno
	}
	first := map[[3]string]map[string]told{}
	for _, scope := range scopes(4) {
		m := meaning(scope)
		known := first[m] != nil
		if !known {
			first[m] = map[string]told{}
		}
		for _, q := range []string{"x", "a:x", "b:x", "c:x", "xml:x", "xmlns:x", "xmlns", ":x", "a:x:y"} {
			var got told
			got.element, got.eElement = qname.Resolve(scope, q, false)
			got.attr, got.eAttr = qname.Resolve(scope, q, true)
			if known && got != first[m][q] {
				t.Errorf("%q in %v is %v, in one that binds alike %v", q, scope, got, first[m][q])
			}
			first[m][q] = got
		}
	}
	if len(first) != 2*3*2 {
		t.Errorf("there are %d kinds of scopes", len(first))
	}
}
