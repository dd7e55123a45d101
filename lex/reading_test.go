package lex_test

import (
	"math/big"
	"regexp"
	"strconv"
	"strings"
	"testing"
	"unicode/utf8"

	"watchbill/api"
	"watchbill/lex"
	"watchbill/utf"
)

// This file holds the package against a second reading of the chapter, which is made of patterns: a tag is wrong
// where the longest beginning of one ends.

// The pieces of the patterns: blanks, a word, a value in its quotes, an attribute with the blanks ahead.
const (
	pB = `[\t\n\r ]`
	pW = `[^\t\n\r />=<"'&]+`
	pV = `(?:"[^"]*"|'[^']*')`
	pA = `(?:` + pB + `+` + pW + pB + `*=` + pB + `*` + pV + `)`
)

// pattern: one that matches at the beginning alone, and as much as can be.
func pattern(s string) *regexp.Regexp {
	p := regexp.MustCompile(`^(?:` + s + `)`)
	p.Longest()
	return p
}

var (
	pDeclared = pattern(`<\?xml` + pB)
	pDeclare  = pattern(`<\?xml` + pB + `+version` + pB + `*=` + pB + `*(?:"1\.0"|'1\.0')` +
		`(?:` + pB + `+encoding` + pB + `*=` + pB + `*(?:"(?i:utf-8)"|'(?i:utf-8)'))?` +
		`(?:` + pB + `+standalone` + pB + `*=` + pB + `*(?:"yes"|"no"|'yes'|'no'))?` + pB + `*\?>`)
	pTag      = pattern(`<` + pW + pA + `*` + pB + `*/?>`)
	pTagBegin = pattern(`<(?:` + pW + pA + `*(?:` + pB + `*/?>?|` + pB + `+` + pW + pB + `*(?:=` + pB + `*(?:"[^"]*|'[^']*)?)?))?`)
	pAttrs    = pattern(`<` + pW + pA + `*`)
	pEnd      = pattern(`</` + pW + pB + `*>`)
	pEndBegin = pattern(`</(?:` + pW + pB + `*>?)?`)
	pWord     = regexp.MustCompile(pW)
	pAttr     = regexp.MustCompile(pB + `+(` + pW + `)` + pB + `*=` + pB + `*(` + pV + `)`)
	pRef      = pattern(`&(?:lt|gt|amp|quot|apos|#[0-9]+|#x[0-9a-fA-F]+);`)
	pPiece    = regexp.MustCompile(`&[^;]*;|\r\n?|\n|\t`)
)

// answer: what Tokens answers.
type answer struct {
	l  []api.Token
	at int
	e  api.Errno
}

// sign: what a reference stands for; false, if it is none.
func sign(s string) (string, bool) {
	inside := strings.Trim(pRef.FindString(s), "&;")
	if named := map[string]string{"lt": "<", "gt": ">", "amp": "&", "quot": "\"", "apos": "'"}[inside]; named != "" {
		return named, true
	}
	n, ok := new(big.Int).SetString("0"+strings.TrimPrefix(inside, "#"), 0)
	if !strings.HasPrefix(inside, "#x") {
		n, ok = new(big.Int).SetString(strings.TrimPrefix(inside, "#"), 10)
	}
	if !ok || !n.IsInt64() || n.Int64() > 0x10FFFF || !utf.Char(rune(n.Int64())) {
		return "", false
	}
	return string(rune(n.Int64())), true
}

// readText: a text as it is meant, or the place of a & that begins no reference.
func readText(s string, attr bool) (string, int) {
	for i := range len(s) {
		if s[i] == '&' {
			if _, ok := sign(s[i:]); !ok {
				return "", i
			}
		}
	}
	return pPiece.ReplaceAllStringFunc(s, func(x string) string {
		switch {
		case x[0] == '&':
			x, _ = sign(x)
		case attr:
			x = " "
		case x[0] == '\r':
			x = "\n"
		}
		return x
	}), -1
}

// readTag: the tag with which s begins, and how long it is, or what is wrong.
func readTag(s string) (t api.Token, size, at int, e api.Errno) {
	whole, begin := pTag, pTagBegin
	behind := 1
	if strings.HasPrefix(s, "</") {
		whole, begin, behind = pEnd, pEndBegin, 2
	}
	for _, x := range pAttr.FindAllStringSubmatchIndex(pAttrs.FindString(s), -1) {
		value := s[x[4]+1 : x[5]-1]
		if i := strings.Index(value, "<"); i >= 0 {
			return api.Token{}, 0, x[4] + 1 + i, api.ErrChar
		}
		text, bad := readText(value, true)
		if bad >= 0 {
			return api.Token{}, 0, x[4] + 1 + bad, api.ErrRef
		}
		t.Attrs = append(t.Attrs, api.Raw{Name: s[x[2]:x[3]], Value: text})
	}
	tag := whole.FindString(s)
	if tag == "" {
		n := len(begin.FindString(s))
		switch n {
		case len(s):
			return api.Token{}, 0, 0, api.ErrShort
		case behind:
			return api.Token{}, 0, n, api.ErrName
		}
		return api.Token{}, 0, n, api.ErrForm
	}
	t.Name = pWord.FindString(s[behind:])
	switch {
	case behind == 2:
		t.Kind = api.TokEnd
	case strings.HasSuffix(tag, "/>"):
		t.Kind = api.TokEmpty
	default:
		t.Kind = api.TokStart
	}
	return t, len(tag), 0, api.OK
}

// readInstruction: how long the one is with which s begins, or what is wrong.
func readInstruction(s string) (int, api.Errno) {
	to := 2
	for _, r := range s[2:] {
		if !utf.Part(r) {
			break
		}
		to += utf8.RuneLen(r)
	}
	if name := s[2:to]; !utf.Name(name) || strings.ToLower(name) == "xml" {
		return 0, api.ErrName
	}
	if to < len(s) && !strings.HasPrefix(s[to:], "?>") && strings.Trim(s[to:to+1], " \t\r\n") != "" {
		return 0, api.ErrForm
	}
	n := strings.Index(s[to:], "?>")
	if n < 0 {
		return 0, api.ErrShort
	}
	return to + n + 2, api.OK
}

// readOther: of what begins with <! or <?: how long it is, and its text, if it is one; or what is wrong.
func readOther(s string) (text string, is bool, size int, e api.Errno) {
	switch {
	case s[1] == '?':
		size, e = readInstruction(s)
		return "", false, size, e
	case strings.HasPrefix(s, "<!--"):
		n := strings.Index(s[4:], "--")
		if n < 0 {
			return "", false, 0, api.ErrShort
		}
		if !strings.HasPrefix(s[4+n:], "-->") {
			return "", false, 0, api.ErrForm
		}
		return "", false, n + 7, api.OK
	case strings.HasPrefix(s, "<![CDATA["):
		n := strings.Index(s, "]]>")
		if n < 0 {
			return "", false, 0, api.ErrShort
		}
		return regexp.MustCompile("\r\n?").ReplaceAllString(s[9:n], "\n"), true, n + 3, api.OK
	case strings.HasPrefix(s, "<!D"):
		return "", false, 0, api.ErrDTD
	}
	return "", false, 0, api.ErrForm
}

// read: what the chapter says of a document of XML's signs with short words and few attributes.
func read(s string) answer {
	var l []api.Token
	at := 0
	if pDeclared.MatchString(s) {
		if at = len(pDeclare.FindString(s)); at == 0 {
			return answer{nil, 0, api.ErrForm}
		}
	}
	for at < len(s) {
		rest := s[at:]
		to := strings.IndexByte(rest, '<')
		switch {
		case to != 0:
			if to < 0 {
				to = len(rest)
			}
			x, bad := readText(rest[:to], false)
			end := strings.Index(rest[:to], "]]>")
			if end >= 0 && (bad < 0 || end < bad) {
				return answer{nil, at + end, api.ErrChar}
			}
			if bad >= 0 {
				return answer{nil, at + bad, api.ErrRef}
			}
			l = append(l, api.Token{Kind: api.TokText, At: at, Text: x})
			at += to
		case len(rest) > 1 && (rest[1] == '?' || rest[1] == '!'):
			x, is, size, e := readOther(rest)
			if e != api.OK {
				return answer{nil, at, e}
			}
			if is {
				l = append(l, api.Token{Kind: api.TokText, At: at, Text: x})
			}
			at += size
		default:
			t, size, bad, e := readTag(rest)
			if e != api.OK {
				return answer{nil, at + bad, e}
			}
			t.At = at
			l = append(l, t)
			at += size
		}
	}
	return answer{l, 0, api.OK}
}

// every: calls with all texts of up to so many of the pieces, behind a beginning.
func every(n int, begin string, call func(string), pieces ...string) {
	call(begin)
	if n == 0 {
		return
	}
	for _, p := range pieces {
		every(n-1, begin+p, call, pieces...)
	}
}

// inOrder: what P3.3 says of an answer to a document.
func inOrder(t *testing.T, s string, l []api.Token) {
	t.Helper()
	last := -1
	for _, x := range l {
		if x.At <= last || x.At >= len(s) {
			t.Errorf("Tokens(%q): a token at %d behind one at %d", s, x.At, last)
		}
		last = x.At
		if x.Kind != api.TokText && s[x.At] != '<' {
			t.Errorf("Tokens(%q): a tag at %d", s, x.At)
		}
		if strings.Contains(x.Text, "\r") && !strings.Contains(s, "&#") {
			t.Errorf("Tokens(%q): the text %q", s, x.Text)
		}
	}
}

// asRead: must be answered as it is read here.
func asRead(t *testing.T, s string) {
	t.Helper()
	want := read(s)
	l, at, e := lex.Tokens(s)
	if !same(l, want.l) || at != want.at || e != want.e {
		t.Errorf("Tokens(%q) = %v, %d, %v, not %v", s, l, at, e, want)
	}
	inOrder(t, s, l)
}

func TestTokensOfAllShortTexts(t *testing.T) { // P3.2, P3.3
	check := func(s string) { asRead(t, s) }
	for _, begin := range []string{"", "<a", "<a ", "<a b='", "<a b='1'", "</", "x<a b=\"1\" "} {
		every(4, begin, check, "a", " ", "=", "'", "\"", "/", ">", "<", "&lt;", "&")
	}
	for _, begin := range []string{"", "<!", "<!--", "<![CDATA[", "<?", "<?a", "x<?"} {
		every(4, begin, check, "a", " ", "!", "-", "--", "[CDATA[", "]]", ">", "<", "?", "D")
	}
	every(5, "", check, "<", ">", "/", "a", "!--", "-->", "?", "&#13;", "\r", "\n", "]]>")
	every(5, "<a>", check, "&", "#", "x", "1", "d", ";", "lt", "\r", "]]>")
}

func TestUnescapeOfAllShortTexts(t *testing.T) { // P3.1
	every(6, "", func(s string) {
		for _, attr := range []bool{false, true} {
			want, bad := readText(s, attr)
			e := api.ErrRef
			if bad < 0 {
				bad, e = 0, api.OK
			}
			if got, at, gotE := lex.Unescape(s, attr); got != want || at != bad || gotE != e {
				t.Errorf("Unescape(%q, %v) = %q, %d, %v, not %q, %d, %v", s, attr, got, at, gotE, want, bad, e)
			}
		}
	}, "&", "#", "x", "41", ";", "\r", "\n", "\t")
}

func TestTokensOfDeclarationsNearly(t *testing.T) { // P3.2, 1
	pieces := []string{"<?xml", " ", "version", "", "=", "\t", "'1.0'", " \n", "encoding", "", "=", "", "\"UTF-8\"", "\r", "standalone", "", "=", "", "'no'", "", "?>", "\r\n", "<a/>"}
	with := []string{"", " ", "=", "'", "\"", "?>", "<?xml", "version", "encoding", "standalone", "'1.0'", "'utf-8'", "'yes'", "\"no\"", "x"}
	check := func(l []string) { asRead(t, strings.Join(l, "")) }
	check(pieces)
	for i := range pieces {
		for _, a := range with {
			one := append(append(append([]string{}, pieces[:i]...), a), pieces[i+1:]...)
			check(one)
			for j := range one {
				for _, b := range with {
					check(append(append(append([]string{}, one[:j]...), b), one[j+1:]...))
				}
			}
		}
	}
}

func FuzzTokens(f *testing.F) { // P3.2, P3.3: any bytes are answered
	for _, s := range []string{"<?xml version='1.0'?><a b='1'>x&lt;</a>", "<!-- --><![CDATA[]]><?p?>", "\xff", "\x00", "<a" + attributes(66), "<" + long(130)} {
		f.Add(s)
	}
	f.Fuzz(func(t *testing.T, s string) {
		l, at, e := lex.Tokens(s)
		inOrder(t, s, l)
		if e != api.OK && len(l) != 0 || e == api.OK && at != 0 || at < 0 || at > len(s) {
			t.Errorf("Tokens(%q) = %v, %d, %v", s, l, at, e)
		}
		for i := range 2 {
			x, bad, e := lex.Unescape(s, i == 1)
			if e != api.OK && (x != "" || s[bad] != '&' || e != api.ErrRef) || e == api.OK && bad != 0 {
				t.Errorf("Unescape(%s) = %q, %d, %v", strconv.Quote(s), x, bad, e)
			}
		}
		if plain(s) {
			asRead(t, s)
		}
	})
}

// plain: does read say what the chapter says of it?
func plain(s string) bool {
	if len(s) > api.MaxBytes || !utf8.ValidString(s) || strings.Count(s, "=") >= 65 {
		return false
	}
	for _, w := range pWord.FindAllString(s, -1) {
		if len(w) > 129 {
			return false
		}
	}
	for _, r := range s {
		if !utf.Char(r) {
			return false
		}
	}
	return true
}
