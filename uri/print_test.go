package uri_test

import (
	"slices"
	"strings"
	"testing"

	"watchbill/api"
	"watchbill/uri"
)

// prints: this must be printed so; and be parsed again.
func prints(t *testing.T, w api.Where, want string) {
	t.Helper()
	if s, e := uri.Print(w); s != want || e != api.OK {
		t.Errorf("Print(%+v) = %.600q, %v, not %.600q", w, s, e, want)
	}
	comesBack(t, w)
}

// comesBack: what this is printed as must name the same.
func comesBack(t *testing.T, w api.Where) {
	t.Helper()
	s, e := uri.Print(w)
	if e != api.OK || len(s) > 512 {
		t.Errorf("Print(%+v) = %.600q, %v", w, s, e)
	}
	got, e := uri.Parse(s)
	if e != api.OK || got.Usage != w.Usage || got.User != w.User || got.Doc != w.Doc || got.Node != w.Node {
		t.Errorf("%+v, printed as %q, is parsed as %+v, %v", w, s, got, e)
	}
	if w.Node && !slices.Equal(got.Steps, w.Steps) {
		t.Errorf("%+v, printed as %q, has the steps %+v", w, s, got.Steps)
	}
}

// refuses: this must not be printed.
func refuses(t *testing.T, w api.Where, want api.Errno) {
	t.Helper()
	if s, e := uri.Print(w); s != "" || e != want {
		t.Errorf("Print(%+.600v) = %.600q, %v, not %v", w, s, e, want)
	}
}

// to: a node in a document of rules.
func to(user, doc string, steps ...api.Step) api.Where {
	return api.Where{Usage: "pres-rules", User: user, Doc: doc, Node: true, Steps: steps}
}

func TestPrint(t *testing.T) { // P11.2
	prints(t, whole("u", "d"), "/pres-rules/users/u/d")
	prints(t, whole("", "d"), "/pres-rules/global/d")
	prints(t, whole("sip:a@x.com", "index"), "/pres-rules/users/sip%3Aa%40x.com/index")
	prints(t, whole("users", "global"), "/pres-rules/users/users/global")
	prints(t, whole("global", "users"), "/pres-rules/users/global/users")
	prints(t, to("u", "d", el("a")), "/pres-rules/users/u/d/~~/a")
	prints(t, to("", "d", el("a"), el("b")), "/pres-rules/global/d/~~/a/b")
	prints(t, to("u", "d", api.Step{Kind: 1, Any: true, Pos: 12}, api.Step{Kind: 2, Name: api.Name{Local: "b"}}), "/pres-rules/users/u/d/~~/%2A%5B12%5D/%40b")
	prints(t, to("u", "d", el("a"), api.Step{Kind: 3}), "/pres-rules/users/u/d/~~/a/namespace%3A%3A%2A")
	prints(t, to("u", "d", in("urn:x", "a")), "/pres-rules/users/u/d/~~/n1%3Aa?xmlns%28n1%3Durn%3Ax%29")
	prints(t, to("u", "d", in("x", "a"), el("b"), in("y", "c")), "/pres-rules/users/u/d/~~/n1%3Aa/b/n2%3Ac?xmlns%28n1%3Dx%29xmlns%28n2%3Dy%29")
	prints(t, to("u", "d", by(el("a"), "b", "/~~/?%")), "/pres-rules/users/u/d/~~/a%5B%40b%3D%22%2F~~%2F%3F%25%22%5D")
	prints(t, to("u", "d", in("/~~/?", "a")), "/pres-rules/users/u/d/~~/n1%3Aa?xmlns%28n1%3D%2F~~%2F%3F%29")
}

func TestPrintOfUsages(t *testing.T) { // P11.2
	for _, usage := range usages() {
		space := "urn:ietf:params:xml:ns:" + usage
		prints(t, api.Where{Usage: usage, User: "u", Doc: "d"}, "/"+usage+"/users/u/d")
		prints(t, api.Where{Usage: usage, Doc: "d"}, "/"+usage+"/global/d")
		// A name is told plainly in the usage's own namespace alone.
		prints(t, api.Where{Usage: usage, Doc: "d", Node: true, Steps: []api.Step{in(space, "a"), in("x", "b")}}, "/"+usage+"/global/d/~~/a/n1%3Ab?xmlns%28n1%3Dx%29")
		for _, other := range usages() {
			if other != usage {
				prints(t, api.Where{Usage: other, Doc: "d", Node: true, Steps: []api.Step{in(space, "a")}}, "/"+other+"/global/d/~~/n1%3Aa?xmlns%28n1%3Durn%3Aietf%3Aparams%3Axml%3Ans%3A"+usage+"%29")
			}
		}
	}
	for _, usage := range append(noUsages(), "~~", xs(1<<20)) {
		refuses(t, api.Where{Usage: usage, User: "u", Doc: "d"}, api.ErrUsage)
		refuses(t, api.Where{Usage: usage, Doc: "d"}, api.ErrUsage)
		refuses(t, api.Where{Usage: usage}, api.ErrUsage)
		refuses(t, api.Where{Usage: usage, User: "~~", Doc: "\xff", Node: true}, api.ErrUsage)
		refuses(t, api.Where{Usage: usage, Doc: "d", Node: true, Steps: []api.Step{in("", "a")}}, api.ErrUsage)
	}
}

func TestPrintEncodesUserAndName(t *testing.T) { // P11.2, P11.3
	for _, x := range [][2]string{
		{"a", "a"}, {"Az09-._~", "Az09-._~"}, {"~", "~"}, {"~~~", "~~~"}, {"/~~/", "%2F~~%2F"}, {"~~/", "~~%2F"}, {"/~~", "%2F~~"}, {"a/b", "a%2Fb"}, {"/", "%2F"}, {"?", "%3F"}, {"a?b", "a%3Fb"}, {"%", "%25"}, {"%41", "%2541"}, {"%7e~", "%257e~"}, {" ", "%20"}, {"a b", "a%20b"}, {"\t\r\n", "%09%0D%0A"}, {"+", "%2B"}, {":@&=$,;", "%3A%40%26%3D%24%2C%3B"}, {"!*'()", "%21%2A%27%28%29"}, {"#[]", "%23%5B%5D"}, {"\x00\x7f", "%00%7F"},
		{"\u00e9", "%C3%A9"}, {"\u20ac", "%E2%82%AC"}, {"\U0001f600", "%F0%9F%98%80"}, {"\ufffe\uffff", "%EF%BF%BE%EF%BF%BF"}, {"\ufffd", "%EF%BF%BD"}, {"\U0010ffff", "%F4%8F%BF%BF"},
		{xs(64), xs(64)}, {strings.Repeat("/", 64), strings.Repeat("%2F", 64)}, {strings.Repeat("\u00e9", 32), strings.Repeat("%C3%A9", 32)}, {strings.Repeat("~", 64), strings.Repeat("~", 64)},
	} {
		prints(t, whole(x[0], "d"), of("users/"+x[1]+"/d"))
		prints(t, whole("u", x[0]), of("users/u/"+x[1]))
		prints(t, whole("", x[0]), of("global/"+x[1]))
		prints(t, whole(x[0], x[0]), of("users/"+x[1]+"/"+x[1]))
		prints(t, to(x[0], "d", el("a")), of("users/"+x[1]+"/d/~~/a"))
		prints(t, to("", x[0], in("y", "a")), of("global/"+x[1]+"/~~/n1%3Aa?xmlns%28n1%3Dy%29"))
	}
}

func TestPrintOfUsersThatMayNotBe(t *testing.T) { // P11.2
	bad := []string{"~~", xs(65), xs(1 << 20), strings.Repeat("\u00e9", 32) + "x", strings.Repeat("\u20ac", 22), "\xff", "a\xff", "\xc3", "a\xe2\x82", "\x80", "\xed\xa0\x80", "\xc0\x80", "\xf4\x90\x80\x80", xs(65) + "\xff"}
	for _, x := range bad {
		refuses(t, whole(x, "d"), api.ErrForm)
		refuses(t, whole("u", x), api.ErrForm)
		refuses(t, whole("", x), api.ErrForm)
		refuses(t, whole(x, ""), api.ErrForm)
		// Told ahead of what is wrong with the steps, and of a URI that is too long.
		refuses(t, to(x, "d"), api.ErrForm)
		refuses(t, to("u", x, in("", "a")), api.ErrForm)
		refuses(t, to("", x, by(el("a"), "b", xs(600))), api.ErrForm)
		refuses(t, to(x, "d", by(el("a"), "b", xs(600))), api.ErrForm)
		for _, y := range bad {
			refuses(t, whole(x, y), api.ErrForm)
		}
	}
	// An empty user is none, while a document has a name.
	refuses(t, whole("u", ""), api.ErrForm)
	refuses(t, whole("", ""), api.ErrForm)
	refuses(t, to("", "", el("a")), api.ErrForm)
	refuses(t, to("u", "", el("a")), api.ErrForm)
	refuses(t, to("u", ""), api.ErrForm)
}

func TestPrintOfStepsThatMayNotBe(t *testing.T) { // P11.2
	attr := api.Step{Kind: 2, Name: api.Name{Local: "a"}}
	long := slices.Repeat([]api.Step{el("a")}, 17)
	var many []api.Step
	for i := range 9 {
		x := by(in("e"+xs(i), "a"), "b", "")
		x.Attr.Space = "f" + xs(i)
		many = append(many, x)
	}
	for _, user := range []string{"u", "", strings.Repeat("/", 64)} {
		doc := "d" + user[:min(3, len(user))]
		refuses(t, to(user, doc), api.ErrStep)
		refuses(t, to(user, doc, api.Step{}), api.ErrStep)
		refuses(t, to(user, doc, attr), api.ErrStep)
		refuses(t, to(user, doc, api.Step{Kind: 3}), api.ErrStep)
		refuses(t, to(user, doc, el("a"), attr, el("b")), api.ErrStep)
		refuses(t, to(user, doc, long...), api.ErrStep)
		refuses(t, to(user, doc, el("1")), api.ErrName)
		refuses(t, to(user, doc, el(xs(65))), api.ErrName)
		refuses(t, to(user, doc, el(xs(600))), api.ErrName)
		refuses(t, to(user, doc, in("", "a")), api.ErrPrefix)
		refuses(t, to(user, doc, in("a)", "a")), api.ErrPrefix)
		refuses(t, to(user, doc, in(xs(600)+"\xff", "a")), api.ErrPrefix)
		refuses(t, to(user, doc, by(el("a"), "b", "\xff")), api.ErrChar)
		refuses(t, to(user, doc, by(el("a"), "b", xs(600)+"\x00")), api.ErrChar)
		refuses(t, to(user, doc, many...), api.ErrLong)
	}
	// Steps count where a node is named alone, and what they stood as never.
	for _, w := range []api.Where{whole("u", "d"), whole("", "d")} {
		was, _ := uri.Print(w)
		w.Steps, w.Raw, w.Binds = []api.Step{{Kind: 9}}, "\xff", bind("", ")")
		prints(t, w, was)
		w.Steps = long
		prints(t, w, was)
	}
	w := to("u", "d", in("urn:x", "a"))
	w.Raw, w.Binds = "p:b", bind("p", "urn:p")
	prints(t, w, "/pres-rules/users/u/d/~~/n1%3Aa?xmlns%28n1%3Durn%3Ax%29")
}

func TestPrintOfLongURIs(t *testing.T) { // P11.2
	for _, x := range []api.Where{to("u", "d"), to("", "d"), to("\u00e9/", "%"), to(strings.Repeat("/", 64), strings.Repeat("x", 64)), {Usage: "resource-lists", User: "u", Doc: "d", Node: true}} {
		with := func(value string) api.Where {
			x.Steps = []api.Step{by(in(uri.Space(x.Usage), "a"), "b", value)}
			return x
		}
		s, _ := uri.Print(with(""))
		room := 512 - len(s)
		want := strings.Replace(s, "%22%22", "%22"+xs(room)+"%22", 1)
		prints(t, with(xs(room)), want)
		refuses(t, with(xs(room+1)), api.ErrLong)
		refuses(t, with(xs(1<<20)), api.ErrLong)
		// What counts is what it comes to encoded.
		refuses(t, with(xs(room-2)+"/"), api.ErrLong)
		prints(t, with(xs(room-3)+"/"), strings.Replace(s, "%22%22", "%22"+xs(room-3)+"%2F%22", 1))
	}
	// With a query.
	s, _ := uri.Print(to("u", "d", in("x", "a")))
	room := 512 - len(s) + 1
	prints(t, to("u", "d", in(xs(room), "a")), strings.Replace(s, "%3Dx%29", "%3D"+xs(room)+"%29", 1))
	refuses(t, to("u", "d", in(xs(room+1), "a")), api.ErrLong)
	// A user and a name alone are never too long.
	most := strings.Repeat("/", 64)
	s = strings.Repeat("%2F", 64)
	prints(t, api.Where{Usage: "resource-lists", User: most, Doc: most}, "/resource-lists/users/"+s+"/"+s)
	refuses(t, to(most, most, by(el("a"), "b", most)), api.ErrLong)
}

func TestPrintWhereErrorsMeet(t *testing.T) { // P11.2, rule 1
	type fault struct {
		spoil func(w *api.Where)
		e     api.Errno
	}
	set := func(f func(w *api.Where), e api.Errno) fault { return fault{f, e} }
	// In the order in which they are named.
	faults := []fault{
		set(func(w *api.Where) { w.Usage = "x" }, api.ErrUsage),
		set(func(w *api.Where) { w.User = "~~" }, api.ErrForm),
		set(func(w *api.Where) { w.Doc = "\xff" }, api.ErrForm),
		set(func(w *api.Where) { w.Steps[0].Pos = -1 }, api.ErrStep),
		set(func(w *api.Where) { w.Steps[0].Name.Local = "1" }, api.ErrName),
		set(func(w *api.Where) { w.Steps[0].Attr.Space = ")" }, api.ErrPrefix),
		set(func(w *api.Where) { w.Steps[0].Value = "\x00" }, api.ErrChar),
		set(func(w *api.Where) { w.Steps[1].Value = xs(600) }, api.ErrLong),
	}
	for row := range 1 << len(faults) {
		w := to("u", "d", by(el("a"), "b", "c"), by(el("d"), "e", "f"))
		first := api.OK
		for i := len(faults) - 1; i >= 0; i-- {
			if row>>i&1 == 1 {
				faults[i].spoil(&w)
				first = faults[i].e
			}
		}
		if first == api.OK {
			comesBack(t, w)
		} else {
			refuses(t, w, first)
		}
		w.Node = false
		switch {
		case row&1 == 1:
			refuses(t, w, api.ErrUsage)
		case row&7 > 0:
			refuses(t, w, api.ErrForm)
		default:
			prints(t, w, "/pres-rules/users/u/d")
		}
	}
}

func TestWhatWasPrintedIsParsed(t *testing.T) { // P11.3
	names := []string{"", "a", "sip:a@x", "a/b c", "%41", "~~~", "\u00e9\u20ac\U0001f600", "?/~~/", strings.Repeat("/", 60)}
	a := api.Step{Kind: 1, Any: true, Pos: 9999}
	rows := [][]api.Step{nil, {el("a")}, {a}, {a, in("x", "b")}, {el("a"), by(in("urn:y", "b"), "c", "%/?~~\"'&<>]\t"), {Kind: 2, Name: api.Name{Space: "urn:x", Local: "d"}}}, {a, a, a, {Kind: 3}}}
	for _, usage := range usages() {
		for _, user := range names {
			for _, doc := range names[1:] {
				for _, steps := range rows {
					if len(user+doc) < 100 {
						comesBack(t, api.Where{Usage: usage, User: user, Doc: doc, Node: steps != nil, Steps: steps})
					}
				}
			}
		}
	}
}
