package uri_test

import (
	"slices"
	"strings"
	"testing"

	"watchbill/api"
	"watchbill/uri"
)

// usages: all of them.
func usages() []string {
	return []string{"resource-lists", "rls-services", "pres-rules", "xcap-caps"}
}

// noUsages: texts that are none.
func noUsages() []string {
	return []string{"", "x", "pres-rule", "pres-ruless", "Pres-Rules", "pres%2Drules", "%70res-rules", " pres-rules", "pres-rules ", "pres_rules", "resource", "lists", "rls-service", "xcap", "xcap-cap", "users", "global", "~", "org.openmobilealliance.pres-rules", "urn:ietf:params:xml:ns:pres-rules", "\xff", "\x00"}
}

// xs: so many bytes.
func xs(n int) string { return strings.Repeat("x", n) }

// bind: bindings of prefixes and namespaces in turn.
func bind(l ...string) []api.Bind {
	var out []api.Bind
	for i := 0; i < len(l); i += 2 {
		out = append(out, api.Bind{Prefix: l[i], Space: l[i+1]})
	}
	return out
}

// in: a step of elements of a name.
func in(space, local string) api.Step {
	return api.Step{Kind: api.StepName, Name: api.Name{Space: space, Local: local}}
}

// el: likewise, in the namespace of rules.
func el(local string) api.Step { return in("urn:ietf:params:xml:ns:pres-rules", local) }

// by: the same step with an attribute and its value.
func by(x api.Step, local, value string) api.Step {
	x.By, x.Attr, x.Value = true, api.Name{Local: local}, value
	return x
}

// whole: what names a document of rules.
func whole(user, doc string) api.Where {
	return api.Where{Usage: "pres-rules", User: user, Doc: doc}
}

// node: what names a node in d, which is u's.
func node(raw string, binds []api.Bind, steps ...api.Step) api.Where {
	return api.Where{Usage: "pres-rules", User: "u", Doc: "d", Node: true, Raw: raw, Binds: binds, Steps: steps}
}

// same: do they name the same, in the same words?
func same(a, b api.Where) bool {
	return a.Usage == b.Usage && a.User == b.User && a.Doc == b.Doc && a.Node == b.Node && a.Raw == b.Raw && slices.Equal(a.Steps, b.Steps) && slices.Equal(a.Binds, b.Binds)
}

// parses: a URI must name this.
func parses(t *testing.T, s string, want api.Where) {
	t.Helper()
	if w, e := uri.Parse(s); !same(w, want) || e != api.OK {
		t.Errorf("Parse(%.600q) = %+v, %v, not %+v", s, w, e, want)
	}
}

// wrong: a URI must not be parsed.
func wrong(t *testing.T, s string, want api.Errno) {
	t.Helper()
	if w, e := uri.Parse(s); !same(w, api.Where{}) || e != want {
		t.Errorf("Parse(%.600q) = %+v, %v, not %v", s, w, e, want)
	}
}

// of: a URI of rules.
func of(rest string) string { return "/pres-rules/" + rest }

// ofNode: a URI of a node in d, which is u's.
func ofNode(rest string) string { return of("users/u/d/~~/" + rest) }

func TestSpace(t *testing.T) { // P11.1
	for _, x := range [][2]string{{"resource-lists", "urn:ietf:params:xml:ns:resource-lists"}, {"rls-services", "urn:ietf:params:xml:ns:rls-services"}, {"pres-rules", "urn:ietf:params:xml:ns:pres-rules"}, {"xcap-caps", "urn:ietf:params:xml:ns:xcap-caps"}} {
		if got := uri.Space(x[0]); got != x[1] {
			t.Errorf("Space(%q) = %q, not %q", x[0], got, x[1])
		}
	}
	for _, usage := range append(noUsages(), "~~", xs(1<<20)) {
		if got := uri.Space(usage); got != "" {
			t.Errorf("Space(%q) = %q", usage, got)
		}
	}
}

func TestParse(t *testing.T) { // P11.1
	parses(t, "/pres-rules/users/u/d", whole("u", "d"))
	parses(t, "/pres-rules/global/d", whole("", "d"))
	parses(t, "/pres-rules/users/sip:a@x.com/index", whole("sip:a@x.com", "index"))
	parses(t, "/resource-lists/users/sip:a@x/index/~~/resource-lists/list%5b1%5d", api.Where{
		Usage: "resource-lists", User: "sip:a@x", Doc: "index", Node: true,
		Steps: []api.Step{in("urn:ietf:params:xml:ns:resource-lists", "resource-lists"), {Kind: api.StepName, Name: api.Name{Space: "urn:ietf:params:xml:ns:resource-lists", Local: "list"}, Pos: 1}},
		Raw:   "resource-lists/list%5b1%5d",
	})
	parses(t, ofNode("a"), node("a", nil, el("a")))
	parses(t, ofNode("a/@b"), node("a/@b", nil, el("a"), api.Step{Kind: api.StepAttr, Name: api.Name{Local: "b"}}))
	parses(t, ofNode("*/namespace::*"), node("*/namespace::*", nil, api.Step{Kind: api.StepName, Any: true}, api.Step{Kind: api.StepSpace}))
	parses(t, ofNode("p:a/b?xmlns(p=urn:x)"), node("p:a/b", bind("p", "urn:x"), in("urn:x", "a"), el("b")))
	parses(t, ofNode("a?xmlns(p=urn:x)%20xmlns(q=urn:y)"), node("a", bind("p", "urn:x", "q", "urn:y"), el("a")))
	parses(t, "/pres-rules/global/d/~~/a", api.Where{Usage: "pres-rules", Doc: "d", Node: true, Raw: "a", Steps: []api.Step{el("a")}})
}

func TestParseOfUsages(t *testing.T) { // P11.1
	for _, usage := range usages() {
		parses(t, "/"+usage+"/users/u/d", api.Where{Usage: usage, User: "u", Doc: "d"})
		parses(t, "/"+usage+"/global/d", api.Where{Usage: usage, Doc: "d"})
		// Names without a prefix are in the usage's namespace.
		parses(t, "/"+usage+"/global/d/~~/a", api.Where{Usage: usage, Doc: "d", Node: true, Raw: "a", Steps: []api.Step{in("urn:ietf:params:xml:ns:"+usage, "a")}})
		parses(t, "/"+usage+"/users/u/d/~~/p:a/b?xmlns(p=urn:x)", api.Where{Usage: usage, User: "u", Doc: "d", Node: true, Raw: "p:a/b", Binds: bind("p", "urn:x"), Steps: []api.Step{in("urn:x", "a"), in("urn:ietf:params:xml:ns:"+usage, "b")}})
		wrong(t, "/"+usage, api.ErrForm)
		wrong(t, "/"+usage+"/", api.ErrForm)
		wrong(t, usage+"/users/u/d", api.ErrForm)
	}
	for _, usage := range noUsages() {
		wrong(t, "/"+usage+"/users/u/d", api.ErrUsage)
		wrong(t, "/"+usage+"/global/d", api.ErrUsage)
		wrong(t, "/"+usage+"/users/u/d/~~/a?xmlns(p=urn:x)", api.ErrUsage)
		wrong(t, "/"+usage, api.ErrForm)
		wrong(t, "/"+usage+"/", api.ErrForm)
		wrong(t, "/"+usage+"/users/u", api.ErrForm)
		wrong(t, "/"+usage+"/global", api.ErrForm)
		wrong(t, "/"+usage+"/users/u/d?x", api.ErrForm)
		wrong(t, usage+"/users/u/d", api.ErrForm)
	}
}

func TestParseOfAnotherForm(t *testing.T) { // P11.1
	for _, s := range []string{
		"", "/", "//", "///", "////", "a", "?", "/?", "~~", "/~~", "/~~/", "/~~/a", "/~~/?", "//~~/a",
		"pres-rules", "/pres-rules", "/pres-rules/", "/pres-rules//", "/pres-rules///", "/pres-rules////", "/pres-rules/~~/a",
		"pres-rules/users/u/d", "x/pres-rules/users/u/d", " /pres-rules/users/u/d", "//pres-rules/users/u/d", "%2Fpres-rules/users/u/d", "http://x/pres-rules/users/u/d",
		of("users"), of("users/"), of("users/u"), of("users?x"), of("users/u?x"), of("users//d/"), of("users/u/d/"), of("users/u/d/e"), of("users/u/d//"), of("users/u//d"), of("users/u%2Fd"), of("users/u/d/~~"), of("users/u/d/e/~~/a"),
		of("global"), of("global/d/"), of("global/d/e"), of("global//"), of("global//d"), of("global?x"), of("global/u/d"), of("global/d/~~"), of("global%2Fd"),
		of("user/u/d"), of("userss/u/d"), of("Users/u/d"), of("%75sers/u/d"), of(" users/u/d"), of("users /u/d"), of("globals/d"), of("Global/d"), of("globa%6C/d"), of("/u/d"), of("u/d"), of("d"), of("other/a/b"), of("other/b"), of("~~/b"), of("\xff/u/d"),
		of("users/~~/d"), of("users/u/~~/a"), of("global/~~/a"), of("~~/users/u/d"), of("users/~~/~~/a"), of("global/~~/~~/a"), "/~~/users/u/d",
	} {
		wrong(t, s, api.ErrForm)
		wrong(t, s+"?", api.ErrForm)
		wrong(t, s+"?/~~/a", api.ErrForm)
		// Of whatever usage: what isn't of the form is told ahead of it.
		wrong(t, strings.Replace(s, "pres-rules", "x", 1), api.ErrForm)
	}
}

func TestParseOfUsers(t *testing.T) { // P11.1
	for _, x := range [][2]string{
		{"u", "u"}, {"users", "users"}, {"global", "global"}, {"pres-rules", "pres-rules"}, {"%61%62", "ab"}, {"a%2Fb", "a/b"}, {"a%2fb", "a/b"}, {"%2F", "/"}, {"%3F", "?"}, {"%25", "%"}, {"%2541", "%41"}, {"a%20b", "a b"}, {"a b", "a b"}, {"+", "+"},
		{"~", "~"}, {"~~~", "~~~"}, {"%7E", "~"}, {"%7E~%7E", "~~~"}, {"a~~", "a~~"}, {"~~a", "~~a"}, {"%00", "\x00"}, {"\x00", "\x00"}, {"%2F~~%2F", "/~~/"}, {".", "."}, {"..", ".."}, {"#", "#"}, {"&=;", "&=;"},
		{"%C3%A9", "\u00e9"}, {"\u00e9", "\u00e9"}, {"\xc3%A9", "\u00e9"}, {"%e2%82%AC", "\u20ac"}, {"%F0%9F%98%80", "\U0001f600"},
		{xs(64), xs(64)}, {strings.Repeat("%78", 64), xs(64)}, {strings.Repeat("%C3%A9", 32), strings.Repeat("\u00e9", 32)}, {strings.Repeat("~", 64), strings.Repeat("~", 64)},
	} {
		parses(t, of("users/"+x[0]+"/d"), whole(x[1], "d"))
		parses(t, of("users/u/"+x[0]), whole("u", x[1]))
		parses(t, of("global/"+x[0]), whole("", x[1]))
		parses(t, of("users/"+x[0]+"/"+x[0][:min(200, len(x[0]))]), whole(x[1], x[1]))
		parses(t, of("users/"+x[0]+"/d/~~/a"), api.Where{Usage: "pres-rules", User: x[1], Doc: "d", Node: true, Raw: "a", Steps: []api.Step{el("a")}})
	}
}

func TestParseOfUsersThatMayNotBe(t *testing.T) { // P11.1
	for _, x := range []string{"", "%7e~", "~%7E", "%7E%7e", xs(65), "%78" + xs(64), strings.Repeat("%78", 65), strings.Repeat("%C3%A9", 33), strings.Repeat("\u00e9", 32) + "x", strings.Repeat("\u20ac", 22), xs(400)} {
		wrong(t, of("users/"+x+"/d"), api.ErrForm)
		wrong(t, of("users/u/"+x), api.ErrForm)
		wrong(t, of("global/"+x), api.ErrForm)
		wrong(t, of("users/"+x+"/d/~~/a"), api.ErrForm)
		wrong(t, of("users/u/"+x+"/~~/a"), api.ErrForm)
		wrong(t, of("global/"+x+"/~~/a"), api.ErrForm)
		// Told behind the usage, and behind what can't be decoded.
		wrong(t, "/x/users/"+x+"/d", api.ErrUsage)
		wrong(t, "/x/users/u/"+x, api.ErrUsage)
		wrong(t, "/x/global/"+x, api.ErrUsage)
		wrong(t, of("users/"+x+"/%"), api.ErrPercent)
		wrong(t, of("users/"+x+"/%ff"), api.ErrUTF)
		wrong(t, of("users/%/"+x), api.ErrPercent)
		wrong(t, of("users/%ff/"+x), api.ErrUTF)
		// Told ahead of what is wrong with the query, and with the selector.
		wrong(t, of("users/"+x+"/d/~~/a?x"), api.ErrForm)
		wrong(t, of("users/"+x+"/d/~~/a?%"), api.ErrForm)
		wrong(t, of("users/u/"+x+"/~~/"), api.ErrForm)
		wrong(t, of("global/"+x+"/~~/%"), api.ErrForm)
	}
	// As it stands it is a name at the end alone: elsewhere it parts.
	wrong(t, of("users/u/~~"), api.ErrForm)
	wrong(t, of("global/~~"), api.ErrForm)
	wrong(t, "/x/users/u/~~", api.ErrUsage)
	wrong(t, "/x/global/~~", api.ErrUsage)
	wrong(t, "/x/users/~~/d", api.ErrForm)
	wrong(t, of("users/~~/%"), api.ErrForm)
	wrong(t, of("users/%/~~"), api.ErrPercent)
}

func TestParseOfWrongEscapes(t *testing.T) { // P11.1
	percents := []string{"%", "a%", "%4", "%4g", "%g4", "%%41", "%ff%", "\xff%", "% 41", "%-1"}
	utfs := []string{"%ff", "\xff", "a%C3", "%C3a", "%A9", "%ED%A0%80", "%C0%80", "%F4%90%80%80", "a\x80b", "%E2%82"}
	for _, x := range percents {
		wrong(t, of("users/"+x+"/d"), api.ErrPercent)
		wrong(t, of("users/u/"+x), api.ErrPercent)
		wrong(t, of("global/"+x), api.ErrPercent)
		for _, y := range utfs {
			wrong(t, of("users/"+x+"/"+y), api.ErrPercent)
			wrong(t, of("users/"+y+"/"+x), api.ErrUTF)
		}
	}
	for _, y := range utfs {
		wrong(t, of("users/"+y+"/d"), api.ErrUTF)
		wrong(t, of("users/u/"+y), api.ErrUTF)
		wrong(t, of("global/"+y), api.ErrUTF)
	}
	for _, x := range append(percents, utfs...) {
		wrong(t, "/x/users/"+x+"/d", api.ErrUsage)
		wrong(t, "/x/users/u/"+x, api.ErrUsage)
		wrong(t, "/x/global/"+x, api.ErrUsage)
		wrong(t, of("users/"+x), api.ErrForm)
		wrong(t, of("users/"+x+"/d/e"), api.ErrForm)
		wrong(t, of("users/u/"+x+"/"), api.ErrForm)
		wrong(t, of("users/"+x+"/d?"), api.ErrForm)
		wrong(t, of(x+"/u/d"), api.ErrForm)
	}
	// A user that is too long, in bytes that are no signs: these are told.
	wrong(t, of("users/"+xs(65)+"%ff/d"), api.ErrUTF)
	wrong(t, of("global/"+xs(65)+"%"), api.ErrPercent)
}

func TestParseOfSelectors(t *testing.T) { // P11.1
	wrong(t, ofNode(""), api.ErrStep)
	wrong(t, ofNode("?"), api.ErrStep)
	wrong(t, ofNode("?xmlns(p=urn:x)"), api.ErrStep)
	wrong(t, of("global/d/~~/"), api.ErrStep)
	wrong(t, ofNode("a/"), api.ErrStep)
	wrong(t, ofNode("/a"), api.ErrStep)
	wrong(t, ofNode("a//b"), api.ErrStep)
	wrong(t, ofNode("@a"), api.ErrStep)
	wrong(t, ofNode("namespace::*"), api.ErrStep)
	wrong(t, ofNode("a[0]"), api.ErrStep)
	wrong(t, ofNode("a b"), api.ErrStep)
	wrong(t, ofNode("%"), api.ErrPercent)
	wrong(t, ofNode("a/%4"), api.ErrPercent)
	wrong(t, ofNode("%ff"), api.ErrUTF)
	wrong(t, ofNode("a/b\xff"), api.ErrUTF)
	wrong(t, ofNode("z:c"), api.ErrPrefix)
	wrong(t, ofNode("a[@z:b='']"), api.ErrPrefix)
	wrong(t, ofNode("a/@z:b"), api.ErrPrefix)
	wrong(t, ofNode("a/@1"), api.ErrName)
	wrong(t, ofNode("a[@b='&x;']"), api.ErrRef)
	wrong(t, ofNode("z:a?xmlns(p=urn:x)"), api.ErrPrefix)
	wrong(t, ofNode(strings.Repeat("a/", 16)+"a"), api.ErrLong)
	steps := slices.Repeat([]api.Step{el("a")}, 16)
	parses(t, ofNode(strings.Repeat("a/", 15)+"a"), node(strings.Repeat("a/", 15)+"a", nil, steps...))
	// The first /~~/ begins the selector; what stands behind it is the selector's, the next one too.
	wrong(t, ofNode("~~/a"), api.ErrStep)
	wrong(t, ofNode("/~~/a"), api.ErrStep)
	wrong(t, ofNode("a/~~/b"), api.ErrStep)
	wrong(t, ofNode("a/~~"), api.ErrStep)
	wrong(t, ofNode("~~"), api.ErrStep)
	wrong(t, of("users/u/d//~~/a"), api.ErrForm)
	wrong(t, of("users/u//~~/a"), api.ErrForm)
	wrong(t, of("users/u/d/~~~/a"), api.ErrForm)
	wrong(t, of("users/u/d/~/a"), api.ErrForm)
	wrong(t, of("users/u/d/%7E~/a"), api.ErrForm)
	wrong(t, of("users/u/d/~~a"), api.ErrForm)
	wrong(t, of("users/u/d~~/a"), api.ErrForm)
	parses(t, ofNode("a%5B@b='%2F~~%2F'%5D"), node("a%5B@b='%2F~~%2F'%5D", nil, by(el("a"), "b", "/~~/")))
}

func TestParseKeepsTheSelectorAsItStands(t *testing.T) { // P11.1
	a := el("a")
	a.Pos = 2
	for _, raw := range []string{"a[2][@b=\"c/d\"]", "a[2][@b='c/d']", "%61%5b2%5D%5B%40b%3d%22c%2fd%22%5d", "a[2][@b=\"%63&#x2F;d\"]", "a[2][@b='c%26#47;%64']"} {
		raw = strings.ReplaceAll(raw, "c/d", "c%2Fd")
		parses(t, ofNode(raw), node(raw, nil, by(a, "b", "c/d")))
		parses(t, ofNode(raw+"?"), node(raw, nil, by(a, "b", "c/d")))
		parses(t, ofNode(raw+"?xmlns(p=u)"), node(raw, bind("p", "u"), by(a, "b", "c/d")))
	}
	parses(t, ofNode("a[@b='%3F']"), node("a[@b='%3F']", nil, by(el("a"), "b", "?")))
	parses(t, ofNode("a[@b='&#63;#']?"), node("a[@b='&#63;#']", nil, by(el("a"), "b", "?#")))
}

func TestParseOfQueries(t *testing.T) { // P11.1
	for _, query := range []string{"", "%20", " \t%0D%0A"} {
		parses(t, ofNode("a?"+query), node("a", nil, el("a")))
	}
	// The first ? begins it; others are its own, and so is a /~~/ behind it.
	parses(t, ofNode("p:a?xmlns(p=?)"), node("p:a", bind("p", "?"), in("?", "a")))
	parses(t, ofNode("p:a?xmlns(p=a?b?)"), node("p:a", bind("p", "a?b?"), in("a?b?", "a")))
	parses(t, ofNode("p:a?xmlns(p=/~~/)"), node("p:a", bind("p", "/~~/"), in("/~~/", "a")))
	parses(t, ofNode("p:a?xmlns(p=/pres-rules/users/u/d)"), node("p:a", bind("p", "/pres-rules/users/u/d"), in("/pres-rules/users/u/d", "a")))
	parses(t, ofNode("p:a?xmlns%28p%3D%3F%2F%29"), node("p:a", bind("p", "?/"), in("?/", "a")))
	wrong(t, ofNode("a??"), api.ErrForm)
	wrong(t, ofNode("a?xmlns(p=x)?"), api.ErrForm)
	wrong(t, ofNode("a?b?xmlns(p=x)"), api.ErrForm)
	// None stands where there is no selector.
	for _, s := range []string{"users/u/d?", "users/u/d?x", "users/u/d?xmlns(p=urn:x)", "users/u/d??", "users/u/d?%", "global/d?", "global/d?xmlns(p=urn:x)", "users/u/d?/~~/a", "users/u/d?x/~~/a?xmlns(p=urn:x)", "global/d?/~~/a", "users/u/?", "global/?", "users?/u/d", "users/u?/d", "users/u/d/~~?", "users/u/d/~~?/a", "?users/u/d", "users/%/d?", "users/~~/d?"} {
		wrong(t, of(s), api.ErrForm)
		wrong(t, "/x/"+s, api.ErrForm)
	}
	wrong(t, ofNode("a?x"), api.ErrForm)
	wrong(t, ofNode("a?xmlns(p=x"), api.ErrForm)
	wrong(t, ofNode("a?xmlns(p=x)y"), api.ErrForm)
	wrong(t, ofNode("a?xmlns(1=x)"), api.ErrForm)
	wrong(t, ofNode("a?%"), api.ErrPercent)
	wrong(t, ofNode("a?%ff"), api.ErrUTF)
	wrong(t, ofNode("a?xmlns(xml=x)"), api.ErrPrefix)
	wrong(t, ofNode("a?xmlns(p=)"), api.ErrPrefix)
	full := bind()
	for _, c := range "abcdefghijklmnop" {
		full = append(full, api.Bind{Prefix: string(c), Space: "u"})
	}
	query := ""
	for _, b := range full {
		query += "xmlns(" + b.Prefix + "=u)"
	}
	parses(t, ofNode("a?"+query), node("a", full, el("a")))
	wrong(t, ofNode("a?"+query+"xmlns(q=u)"), api.ErrLong)
}

func TestParseTellsTheQueryAheadOfTheSelector(t *testing.T) { // P11.1
	queries := map[string]api.Errno{"x": api.ErrForm, "xmlns(p=x": api.ErrForm, "?": api.ErrForm, "%": api.ErrPercent, "%ff": api.ErrUTF, "xmlns(p=)": api.ErrPrefix, "xmlns(xmlns=a)": api.ErrPrefix, strings.Repeat("xmlns(p=x)", 17): api.ErrLong}
	selectors := map[string]api.Errno{"": api.ErrStep, "a[0]": api.ErrStep, "%": api.ErrPercent, "%ff": api.ErrUTF, "z:a": api.ErrPrefix, "a/@1": api.ErrName, "a[@b='&']": api.ErrRef, strings.Repeat("a/", 16) + "a": api.ErrLong}
	for selector, e := range selectors {
		wrong(t, ofNode(selector), e)
		wrong(t, ofNode(selector+"?"), e)
		wrong(t, ofNode(selector+"?xmlns(p=x)"), e)
		for query, e := range queries {
			wrong(t, ofNode(selector+"?"+query), e)
			wrong(t, ofNode("a?"+query), e)
		}
	}
}

func TestParseOfLongURIs(t *testing.T) { // P11.1
	room := 512 - len(ofNode("a[@b='']"))
	parses(t, ofNode("a[@b='"+xs(room)+"']"), node("a[@b='"+xs(room)+"']", nil, by(el("a"), "b", xs(room))))
	wrong(t, ofNode("a[@b='"+xs(room+1)+"']"), api.ErrLong)
	room = 512 - len(ofNode("p:a?xmlns(p=)"))
	parses(t, ofNode("p:a?xmlns(p="+xs(room)+")"), node("p:a", bind("p", xs(room)), in(xs(room), "a")))
	wrong(t, ofNode("p:a?xmlns(p="+xs(room+1)+")"), api.ErrLong)
	wrong(t, ofNode("a?"+strings.Repeat(" ", 1000)), api.ErrLong)
	// Bytes are counted as they stand, whatever they come to decoded.
	most := strings.Repeat("%78", 64)
	parses(t, of("users/"+most+"/"+most), whole(xs(64), xs(64)))
	parses(t, of("users/"+most+"/"+most+"/~~/a"+strings.Repeat("/a", 15)), api.Where{Usage: "pres-rules", User: xs(64), Doc: xs(64), Node: true, Raw: "a" + strings.Repeat("/a", 15), Steps: slices.Repeat([]api.Step{el("a")}, 16)})
	wrong(t, of("users/"+most+"/"+most+"/~~/a[@b='"+most+"']"), api.ErrLong)
	// Of 512 bytes it is told what is wrong, of 513 that there are too many.
	for s, e := range map[string]api.Errno{
		"": api.ErrForm, "/": api.ErrForm, "/pres-rules/users/u/d?": api.ErrForm, "/pres-rules/other/": api.ErrForm, "/pres-rules": api.ErrForm,
		"/x/users/u/": api.ErrUsage, "/x/global/": api.ErrUsage, "/x/global/d/~~/": api.ErrUsage,
		"/pres-rules/users/%/": api.ErrPercent, "/pres-rules/global/%ff": api.ErrUTF, "/pres-rules/global/": api.ErrForm,
		"/pres-rules/global/d/~~/a?": api.ErrForm, "/pres-rules/global/d/~~/a?%": api.ErrPercent, "/pres-rules/global/d/~~/[": api.ErrStep, "/pres-rules/global/d/~~/z:": api.ErrStep,
	} {
		wrong(t, s+xs(512-len(s)), e)
		wrong(t, s+xs(513-len(s)), api.ErrLong)
		wrong(t, s+xs(1<<20), api.ErrLong)
	}
}

// A choice: a piece of a URI, and what is wrong with it: how far behind in the promise it is named, and its error.
type choice struct {
	text string
	rank int
	e    api.Errno
}

// meet: of all rows of these choices that begin so, what is named first must be told.
func meet(t *testing.T, told map[api.Errno]int, s string, first choice, rest ...[]choice) {
	t.Helper()
	if len(rest) > 0 {
		for _, c := range rest[0] {
			next := first
			if c.rank < first.rank {
				next = c
			}
			meet(t, told, s+c.text, next, rest[1:]...)
		}
		return
	}
	told[first.e]++
	if first.e != api.OK {
		wrong(t, s, first.e)
	} else if w, e := uri.Parse(s); e != api.OK || w.Doc != "d" || w.Node != strings.Contains(s, "~~") {
		t.Errorf("Parse(%q) = %+v, %v", s, w, e)
	}
}

func TestParseWhereErrorsMeet(t *testing.T) { // P11.1, rule 1
	right := func(text string) choice { return choice{text, 99, api.OK} }
	usages := []choice{right("/pres-rules/"), {"/x/", 2, api.ErrUsage}, {"//", 2, api.ErrUsage}, {"pres-rules/", 1, api.ErrForm}}
	users := []choice{right("users/u/"), right("global/"), {"users/%/", 3, api.ErrPercent}, {"users/%ff/", 3, api.ErrUTF}, {"users//", 5, api.ErrForm}, {"users/" + xs(65) + "/", 5, api.ErrForm}, {"users/%7e~/", 5, api.ErrForm}, {"other/u/", 1, api.ErrForm}, {"", 1, api.ErrForm}, {"users/~~/", 1, api.ErrForm}}
	docs := []choice{right("d"), {"%", 4, api.ErrPercent}, {"%ff", 4, api.ErrUTF}, {"", 5, api.ErrForm}, {xs(65), 5, api.ErrForm}, {"~%7e", 5, api.ErrForm}, {"d/e", 1, api.ErrForm}}
	nodes := []choice{right("/~~/a"), {"/~~/", 7, api.ErrStep}, {"/~~/%", 7, api.ErrPercent}, {"/~~/z:a", 7, api.ErrPrefix}, {"/~~/" + strings.Repeat("/", 16), 7, api.ErrLong}}
	queries := []choice{right(""), right("?xmlns(p=x)"), {"?x", 6, api.ErrForm}, {"?%", 6, api.ErrPercent}, {"?%ff", 6, api.ErrUTF}, {"?xmlns(p=)", 6, api.ErrPrefix}}
	alone := []choice{right(""), {"?", 1, api.ErrForm}, {"?xmlns(p=x)", 1, api.ErrForm}, {"?%", 1, api.ErrForm}}
	fills := []choice{right(""), {xs(513), 0, api.ErrLong}}
	told := map[api.Errno]int{}
	meet(t, told, "", right(""), usages, users, docs, nodes, queries, fills)
	meet(t, told, "", right(""), usages, users, docs, alone, fills)
	for _, e := range []api.Errno{api.OK, api.ErrLong, api.ErrForm, api.ErrUsage, api.ErrPercent, api.ErrUTF, api.ErrStep, api.ErrPrefix} {
		if told[e] < 4 {
			t.Errorf("too few of %v: %v", e, told)
		}
	}
}
