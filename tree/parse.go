package tree

import (
	"watchbill/api"
	"watchbill/lex"
	"watchbill/qname"
	"watchbill/utf"
)

// Parse: the tree of a document; or where it is wrong, and how.
func Parse(s string) (n api.Node, at int, e api.Errno) {
	l, at, e := lex.Tokens(s)
	if e != api.OK {
		return api.Node{}, at, e
	}
	var b builder
	for _, t := range l {
		if e := b.take(t); e != api.OK {
			return api.Node{}, t.At, e
		}
	}
	switch {
	case len(b.open) > 0:
		return api.Node{}, len(s), api.ErrShort
	case !b.ended():
		return api.Node{}, len(s), api.ErrRoot
	}
	return b.root, 0, api.OK
}

// element: one that is open, the word that opened it, and the scope in it.
type element struct {
	word  string
	scope []api.Bind
	node  api.Node
}

// builder: what the tokens so far came to.
type builder struct {
	open  []element
	root  api.Node // once it has ended
	nodes int
}

// ended: has a root element?
func (b *builder) ended() bool { return b.root.Kind == api.Element }

// inner: the last element that is open, or nil.
func (b *builder) inner() *element {
	if len(b.open) == 0 {
		return nil
	}
	return &b.open[len(b.open)-1]
}

// take: goes on with a token.
func (b *builder) take(t api.Token) api.Errno {
	switch t.Kind {
	case api.TokText:
		return b.text(t.Text)
	case api.TokEnd:
		return b.end(t.Name)
	}
	if e := b.start(t); e != api.OK {
		return e
	}
	if t.Kind == api.TokEmpty {
		b.close()
	}
	return api.OK
}

// start: opens an element.
func (b *builder) start(t api.Token) api.Errno {
	switch {
	case b.ended():
		return api.ErrRoot
	case len(b.open) == api.MaxDepth:
		return api.ErrDeep
	case b.nodes == api.MaxNodes:
		return api.ErrLong
	}
	var scope []api.Bind
	if in := b.inner(); in != nil {
		scope = in.scope
	}
	x, e := begun(scope, t)
	if e != api.OK {
		return e
	}
	b.nodes++
	b.open = append(b.open, x)
	return api.OK
}

// begun: the element that a tag opens in a scope.
func begun(scope []api.Bind, t api.Token) (element, api.Errno) {
	scope, others, e := qname.Declare(scope, t.Attrs...)
	if e != api.OK {
		return element{}, e
	}
	if len(others) > api.MaxAttrs {
		return element{}, api.ErrLong
	}
	name, e := qname.Resolve(scope, t.Name, false)
	if e != api.OK {
		return element{}, e
	}
	attrs, e := qname.Attrs(scope, others...)
	if e != api.OK {
		return element{}, e
	}
	return element{t.Name, scope, api.Node{Kind: api.Element, Name: name, Attrs: attrs}}, api.OK
}

// end: closes the last element that is open, if that word opened it.
func (b *builder) end(word string) api.Errno {
	in := b.inner()
	if in == nil || in.word != word {
		return api.ErrEnd
	}
	b.close()
	return api.OK
}

// close: the last element that is open has ended: it is a kid of the one ahead of it, or the root.
func (b *builder) close() {
	n := b.inner().node
	b.open = b.open[:len(b.open)-1]
	if in := b.inner(); in != nil {
		in.node.Kids = append(in.node.Kids, n)
		return
	}
	b.root = n
}

// text: goes on with one, which makes one node with its neighbour.
func (b *builder) text(s string) api.Errno {
	in := b.inner()
	switch {
	case in == nil && utf.Trim(s) != "":
		return api.ErrRoot
	case in == nil || s == "":
		return api.OK
	}
	kids := in.node.Kids
	if last := len(kids) - 1; last >= 0 && kids[last].Kind == api.Text {
		kids[last].Text += s
		return api.OK
	}
	if b.nodes == api.MaxNodes {
		return api.ErrLong
	}
	b.nodes++
	in.node.Kids = append(kids, api.Node{Kind: api.Text, Text: s})
	return api.OK
}
