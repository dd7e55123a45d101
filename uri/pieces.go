package uri

import (
	"strings"

	"watchbill/api"
	"watchbill/pct"
	"watchbill/sel"
)

// pieces: of a URI, as they stand.
type pieces struct {
	usage, user, doc string
	owned            bool // it has a user, if an empty one
	node             bool // it has a selector, if an empty one
	selector, query  string
}

// cut: a URI's pieces; false, if it isn't of the form.
func cut(s string) (p pieces, ok bool) {
	var document string
	var asked bool
	s, p.query, asked = strings.Cut(s, toQuery)
	document, p.selector, p.node = strings.Cut(s, toNode)
	ok = p.cutDocument(document) && (p.node || !asked)
	return p, ok
}

// cutDocument: cuts what stands ahead of a selector; false, if it isn't of the form.
func (p *pieces) cutDocument(s string) bool {
	// Where a slash lacks nothing is left to be cut, so the last one tells whether all are there.
	ahead, s, _ := strings.Cut(s, slash)
	usage, s, _ := strings.Cut(s, slash)
	kind, s, ok := strings.Cut(s, slash)
	p.usage, p.owned = usage, kind == users
	if p.owned {
		p.user, s, ok = strings.Cut(s, slash)
	}
	doc, _, more := strings.Cut(s, slash)
	p.doc = doc
	return ok && !more && ahead == "" && (p.owned || kind == global)
}

// document: what is named ahead of a selector.
func (p pieces) document() (api.Where, api.Errno) {
	if !isUsage(p.usage) {
		return api.Where{}, api.ErrUsage
	}
	user, e := pct.Decode(p.user)
	if e != api.OK {
		return api.Where{}, e
	}
	doc, e := pct.Decode(p.doc)
	if e != api.OK {
		return api.Where{}, e
	}
	if p.owned && !isName(user) || !isName(doc) {
		return api.Where{}, api.ErrForm
	}
	// Cloned, as pieces share the memory of what they are cut from.
	return api.Where{Usage: strings.Clone(p.usage), User: user, Doc: doc}, api.OK
}

// within: what a selector names in a document.
func (p pieces) within(w api.Where) (api.Where, api.Errno) {
	binds, e := sel.ParseBinds(p.query)
	if e != api.OK {
		return api.Where{}, e
	}
	steps, e := sel.Parse(p.selector, Space(w.Usage), binds)
	if e != api.OK {
		return api.Where{}, e
	}
	w.Node, w.Steps, w.Raw, w.Binds = true, steps, strings.Clone(p.selector), binds
	return w, api.OK
}
