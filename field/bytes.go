package field

import "strings"

// visible: the closure that tells the bytes from 33 to 126, but some, from others.
func visible(but string) func(c byte) bool {
	return func(c byte) bool { return c > ' ' && c <= '~' && strings.IndexByte(but, c) < 0 }
}

// blank: is it one?
func blank(c byte) bool { return c == ' ' || c == '\t' }

// ofText: may it stand in a value?
func ofText(c byte) bool { return c >= ' ' && c <= '~' || c == '\t' }

// span: the bytes at the beginning that a closure tells, up to the first other one, and the rest.
func span(s string, is func(c byte) bool) (head, rest string) {
	at := 0
	for at < len(s) && is(s[at]) {
		at++
	}
	return s[:at], s[at:]
}

// all: does a closure tell all bytes?
func all(s string, is func(c byte) bool) bool {
	_, rest := span(s, is)
	return rest == ""
}

// skip: without the blanks at the beginning.
func skip(s string) string {
	_, rest := span(s, blank)
	return rest
}

// small: with small letters. (The library's ToLower and EqualFold read signs, and would hold bytes for alike that are none.)
func small(s string) string {
	b := []byte(s)
	for i, c := range b {
		if c >= 'A' && c <= 'Z' {
			b[i] = c + 'a' - 'A'
		}
	}
	return string(b)
}
