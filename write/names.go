package write

import "rinse/texts"

const hexDigits = "0123456789abcdef"

// Name writes a name, with escapes for what could not stand in one, or not at its place.
func Name(name string) string {
	return bytewise(name, func(at int) bool { return plainInName(name, at) })
}

// Text writes a text between quotes.
func Text(text string) string {
	return texts.Join(`"`, bytewise(text, func(at int) bool { return plainInText(text[at]) }), `"`)
}

func link(address string) string {
	return texts.Join("url(", bytewise(address, func(at int) bool { return plainInLink(address[at]) }), ")")
}

// unit writes the name behind a number. An `e` at its beginning could be taken for more of the number.
func unit(name string) string {
	return bytewise(name, func(at int) bool {
		return plainInName(name, at) && (at > 0 || name[at] != 'e' && name[at] != 'E')
	})
}

// bytewise writes the bytes of a text: those at plain places as they are, the others as escapes.
func bytewise(text string, plain func(at int) bool) string {
	var parts []string
	for at := range len(text) {
		if plain(at) {
			parts = append(parts, text[at:at+1])
		} else {
			parts = append(parts, escape(text[at]))
		}
	}
	return texts.Join(parts...)
}

func escape(c byte) string {
	high, low := c/16, c%16
	return texts.Join(`\`, hexDigits[high:high+1], hexDigits[low:low+1], " ")
}

func plainInName(name string, at int) bool {
	switch c := name[at]; {
	case isLetter(c), c == '_':
		return true
	case c == '-':
		return len(name) > 1
	case isDigit(c):
		return at > 1 || at == 1 && name[0] != '-'
	}
	return false
}

func plainInText(c byte) bool {
	switch c {
	case '"', '\\', '<', '>':
		return false
	}
	return 32 <= c && c <= 126
}

func plainInLink(c byte) bool {
	switch c {
	case '.', '/', ':', '-':
		return true
	}
	return isLetter(c) || isDigit(c)
}

func isLetter(c byte) bool {
	return 'a' <= c && c <= 'z' || 'A' <= c && c <= 'Z'
}

func isDigit(c byte) bool {
	return '0' <= c && c <= '9'
}
