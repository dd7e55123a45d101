package field

import (
	"slices"
	"strings"

	"watchbill/api"
)

// noToken: the bytes from 33 to 126 that no token has.
const noToken = "()<>@,;:\\\"/[]?="

// PrintType: a type with parameters.
func PrintType(typ string, l ...api.Param) (string, api.Errno) {
	if _, rest, ok := cutType(typ); !ok || rest != "" {
		return "", api.ErrType
	}
	if slices.ContainsFunc(l, func(p api.Param) bool { return !Token(p.Name) }) {
		return "", api.ErrName
	}
	if slices.ContainsFunc(l, func(p api.Param) bool { return !all(p.Value, ofText) }) {
		return "", api.ErrForm
	}
	var b strings.Builder
	b.WriteString(typ)
	for _, p := range l {
		b.WriteString("; " + p.Name + "=" + quoted(p.Value))
	}
	return b.String(), api.OK
}

// ParseType: and back.
func ParseType(s string) (typ string, l []api.Param, e api.Errno) {
	typ, rest, ok := cutType(skip(s))
	if !ok {
		return "", nil, api.ErrType
	}
	l, ok = params(rest)
	if !ok {
		return "", nil, api.ErrForm
	}
	return small(typ), l, api.OK
}

// Param: the value of a parameter.
func Param(l []api.Param, name string) (string, bool) {
	name = small(name)
	at := slices.IndexFunc(l, func(p api.Param) bool { return small(p.Name) == name })
	if at < 0 {
		return "", false
	}
	return l[at].Value, true
}

// Token: is it one?
func Token(s string) bool { return s != "" && all(s, visible(noToken)) }

// cutToken: the token with which a text begins, and what stands behind it; false, if it begins with none.
func cutToken(s string) (token, rest string, ok bool) {
	token, rest = span(s, visible(noToken))
	return token, rest, token != ""
}

// cutType: likewise the type.
func cutType(s string) (typ, rest string, ok bool) {
	main, rest, first := cutToken(s)
	rest, slash := strings.CutPrefix(rest, "/")
	sub, rest, second := cutToken(rest)
	return main + "/" + sub, rest, first && slash && second
}

// quoted: a parameter's value as it is printed.
func quoted(s string) string {
	if Token(s) {
		return s
	}
	s = strings.ReplaceAll(s, `\`, `\\`)
	return `"` + strings.ReplaceAll(s, `"`, `\"`) + `"`
}

// params: a text's parameters, their names with small letters; false, if it is none, or two have one name.
func params(s string) ([]api.Param, bool) {
	var l []api.Param
	came := map[string]struct{}{}
	for s = skip(s); s != ""; s = skip(s) {
		p, rest, ok := cutParam(s)
		if _, twice := came[p.Name]; twice || !ok {
			return nil, false
		}
		came[p.Name] = struct{}{}
		l, s = append(l, p), rest
	}
	return l, true
}

// cutParam: the parameter with which a text begins, its name with small letters, and what stands behind it; false, if it begins with none.
func cutParam(s string) (p api.Param, rest string, ok bool) {
	s, ahead := strings.CutPrefix(s, ";")
	name, s, named := cutToken(skip(s))
	s, equals := strings.CutPrefix(skip(s), "=")
	value, rest, valued := cutValue(skip(s))
	return api.Param{Name: small(name), Value: value}, rest, ahead && named && equals && valued
}

// cutValue: likewise the value, as it stands for.
func cutValue(s string) (value, rest string, ok bool) {
	if inside, is := strings.CutPrefix(s, `"`); is {
		return unquoted(inside)
	}
	return cutToken(s)
}

// unquoted: what the inside of a text in " stands for, up to its end, and what stands behind that; false, if it has none, or may not be.
func unquoted(s string) (value, rest string, ok bool) {
	var b strings.Builder
	for {
		plain, behind := span(s, func(c byte) bool { return c != '"' && c != '\\' && ofText(c) })
		b.WriteString(plain)
		if rest, ok = strings.CutPrefix(behind, `"`); ok {
			return b.String(), rest, true
		}
		if !strings.HasPrefix(behind, `\\`) && !strings.HasPrefix(behind, `\"`) {
			return "", "", false
		}
		b.WriteByte(behind[1])
		s = behind[2:]
	}
}
