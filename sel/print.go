package sel

import (
	"slices"
	"strconv"
	"strings"

	"watchbill/api"
	"watchbill/pct"
	"watchbill/print"
	"watchbill/qname"
	"watchbill/utf"
)

// Print: the selector of steps, and its query.
func Print(space string, l ...api.Step) (selector, query string, e api.Errno) {
	if !right(l...) {
		return "", "", api.ErrStep
	}
	p := printer{space: space}
	var texts []string
	for _, x := range l {
		text, e := p.step(x)
		if e != api.OK {
			return "", "", e
		}
		texts = append(texts, pct.Encode(text, ""))
	}
	return strings.Join(texts, string(between)), pct.Encode(p.query(), ""), api.OK
}

// right: are they steps of one selector?
func right(l ...api.Step) bool {
	for i, x := range l {
		if !rightStep(x, i > 0 && i == len(l)-1) {
			return false
		}
	}
	return len(l) > 0 && len(l) <= api.MaxSteps
}

// rightStep: is it a step? The last one may be of more kinds than others.
func rightStep(x api.Step, last bool) bool {
	switch x.Kind {
	case api.StepName:
		named := x.Name != api.Name{}
		byNothing := x.Attr == api.Name{} && x.Value == ""
		return x.Any != named && x.Pos >= 0 && x.Pos <= lastPos && (x.By || byNothing)
	case api.StepAttr:
		return last && x == api.Step{Kind: api.StepAttr, Name: x.Name}
	case api.StepSpace:
		return last && x == api.Step{Kind: api.StepSpace}
	}
	return false
}

// printer: prints steps, and gathers the Spaces for which prefixes stand in them.
type printer struct {
	space  string   // of elements whose names are told plainly
	spaces []string // the first one's prefix is n1, and so on
}

// query: the bindings of all prefixes.
func (p *printer) query() string {
	var b strings.Builder
	for i, space := range p.spaces {
		b.WriteString("xmlns(" + numbered(i) + "=")
		b.WriteString(space)
		b.WriteString(")")
	}
	return b.String()
}

// step: a step's text.
func (p *printer) step(x api.Step) (string, api.Errno) {
	switch x.Kind {
	case api.StepAttr:
		return p.attr(x.Name)
	case api.StepSpace:
		return allSpaces, api.OK
	}
	text, e := p.element(x)
	if e != api.OK {
		return "", e
	}
	if x.Pos > 0 {
		text += "[" + strconv.Itoa(x.Pos) + "]"
	}
	if !x.By {
		return text, api.OK
	}
	attr, e := p.attr(x.Attr)
	if e != api.OK {
		return "", e
	}
	if !signs(x.Value) {
		return "", api.ErrChar
	}
	return text + "[" + attr + "=\"" + print.Escape(x.Value, true) + "\"]", api.OK
}

// element: what tells the name of a step's elements.
func (p *printer) element(x api.Step) (string, api.Errno) {
	if x.Any {
		return every, api.OK
	}
	return p.name(x.Name, p.space)
}

// attr: what tells an attribute.
func (p *printer) attr(n api.Name) (string, api.Errno) {
	name, e := p.name(n, "")
	if e != api.OK {
		return "", e
	}
	return attrSign + name, api.OK
}

// name: a qualified name; of one Space it is told plainly.
func (p *printer) name(n api.Name, plain string) (string, api.Errno) {
	if !utf.Name(n.Local) {
		return "", api.ErrName
	}
	switch n.Space {
	case plain:
		return n.Local, api.OK
	case qname.XML:
		return "xml:" + n.Local, api.OK
	}
	prefix, e := p.prefix(n.Space)
	if e != api.OK {
		return "", e
	}
	return prefix + ":" + n.Local, api.OK
}

// prefix: that of a Space, the next one, if it has none yet.
func (p *printer) prefix(space string) (string, api.Errno) {
	if at := slices.Index(p.spaces, space); at >= 0 {
		return numbered(at), api.OK
	}
	if !bindable(space) {
		return "", api.ErrPrefix
	}
	if len(p.spaces) == api.MaxBinds {
		return "", api.ErrLong
	}
	p.spaces = append(p.spaces, space)
	return numbered(len(p.spaces) - 1), api.OK
}

// bindable: may a prefix be bound to it, and stand so in a query?
func bindable(space string) bool {
	return space != "" && space != qname.XMLNS && !strings.Contains(space, ")") && signs(space)
}

// numbered: the prefix of the Space at a place.
func numbered(at int) string { return "n" + strconv.Itoa(at+1) }

// signs: is it XML's signs throughout?
func signs(s string) bool {
	return utf.Check(s) < 0 && !strings.ContainsFunc(s, func(r rune) bool { return !utf.Char(r) })
}
