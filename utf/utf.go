// Package utf is layer 1: see shared/doc/01-utf.md.
package utf

import "watchbill/api"

// span: the numbers from one to another, both within.
type span struct {
	from, to rune
}

// within: does a number stand in one of the spans?
func within(r rune, l ...span) bool {
	for _, x := range l {
		if x.from <= r && r <= x.to {
			return true
		}
	}
	return false
}

// length: how many bytes a sign has; 0, if the number is none.
func length(r rune) int {
	switch {
	case !within(r, span{0, 0xD7FF}, span{0xE000, 0x10FFFF}):
		return 0
	case r < 128:
		return 1
	case r < 2048:
		return 2
	case r < 65536:
		return 3
	}
	return 4
}

// first: of a sign's first byte, how many bytes the sign has, and its highest bits; 0 and 0, if no sign begins so.
func first(c byte) (size int, bits rune) {
	switch {
	case c < 128:
		return 1, rune(c)
	case c>>5 == 192>>5:
		return 2, rune(c & 31)
	case c>>4 == 224>>4:
		return 3, rune(c & 15)
	case c>>3 == 240>>3:
		return 4, rune(c & 7)
	}
	return 0, 0
}

// Rune: the sign that stands at a place.
func Rune(s string, at int) (r rune, size int) {
	if at < 0 || at >= len(s) {
		return 0, 0
	}
	size, r = first(s[at])
	if size == 0 || size > len(s)-at {
		return 0, 0
	}
	for i := 1; i < size; i++ {
		c := s[at+i]
		if c>>6 != 128>>6 {
			return 0, 0
		}
		r = r<<6 | rune(c&63)
	}
	// A form that is longer than the sign's own would give one sign two forms.
	if length(r) != size {
		return 0, 0
	}
	return r, size
}

// text: bytes as a text.
func text(l ...byte) string { return string(l) }

// further: the byte that tells the six bits of a sign above so many lower ones.
func further(r rune, below int) byte { return 128 | byte(r>>below&63) }

// Put: the bytes of a sign.
func Put(r rune) string {
	switch length(r) {
	case 1:
		return text(byte(r))
	case 2:
		return text(192|byte(r>>6), further(r, 0))
	case 3:
		return text(224|byte(r>>12), further(r, 6), further(r, 0))
	case 4:
		return text(240|byte(r>>18), further(r, 12), further(r, 6), further(r, 0))
	}
	return ""
}

// Check: the first place at which no sign stands.
func Check(s string) int {
	for at := 0; at < len(s); {
		_, size := Rune(s, at)
		if size == 0 {
			return at
		}
		at += size
	}
	return -1
}

// Char: is it one of XML's signs?
func Char(r rune) bool {
	return within(r, span{9, 10}, span{13, 13}, span{32, 55295}, span{57344, 65533}, span{65536, 1114111})
}

// Start: may a name begin with it?
func Start(r rune) bool {
	return within(r,
		span{'A', 'Z'}, span{'a', 'z'}, span{'_', '_'},
		span{0xC0, 0xD6}, span{0xD8, 0xF6}, span{0xF8, 0x2FF}, span{0x370, 0x37D},
		span{0x37F, 0x1FFF}, span{0x200C, 0x200D}, span{0x2070, 0x218F}, span{0x2C00, 0x2FEF},
		span{0x3001, 0xD7FF}, span{0xF900, 0xFDCF}, span{0xFDF0, 0xFFFD}, span{0x10000, 0xEFFFF})
}

// Part: may a name go on with it?
func Part(r rune) bool {
	return Start(r) || within(r,
		span{'-', '.'}, span{'0', '9'}, span{0xB7, 0xB7}, span{0x300, 0x36F}, span{0x203F, 0x2040})
}

// Name: is it a name?
func Name(s string) bool {
	if len(s) > api.MaxName {
		return false
	}
	r, size := Rune(s, 0)
	if size == 0 || !Start(r) {
		return false
	}
	for at := size; at < len(s); at += size {
		r, size = Rune(s, at)
		if size == 0 || !Part(r) {
			return false
		}
	}
	return true
}

// Blank: is it one?
func Blank(c byte) bool { return c == 9 || c == 10 || c == 13 || c == 32 }

// Trim: without the blanks at the ends.
func Trim(s string) string {
	from, to := 0, len(s)
	for from < to && Blank(s[from]) {
		from++
	}
	for from < to && Blank(s[to-1]) {
		to--
	}
	return s[from:to]
}
