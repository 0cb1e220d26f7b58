package scan

// clean makes one kind of line end of all, and takes out the byte 0.
func clean(sheet string) string {
	out := make([]byte, 0, len(sheet))
	for i := range len(sheet) {
		switch c := sheet[i]; {
		case c == '\r' && i+1 < len(sheet) && sheet[i+1] == '\n':
			// The line feed behind it stands for both.
		case c == '\r' || c == '\f':
			out = append(out, '\n')
		case c == 0:
			out = append(out, '?')
		default:
			out = append(out, c)
		}
	}
	return string(out)
}

// These take a byte, or none (see peek), which is of no kind.

func isBlank(c int) bool {
	return c == '\n' || c == '\t' || c == ' '
}

func isDigit(c int) bool {
	return '0' <= c && c <= '9'
}

func isLetter(c int) bool {
	return 'a' <= c && c <= 'z' || 'A' <= c && c <= 'Z' || c == '_' || c > 127
}

func isNameByte(c int) bool {
	return isLetter(c) || isDigit(c) || c == '-'
}

func isSign(c int) bool {
	return c == '+' || c == '-'
}

func isQuote(c int) bool {
	return c == '"' || c == '\''
}

// spoilsLink tells whether a byte, read as itself, makes a link a bad one. Blanks and escapes are seen to ahead of it.
func spoilsLink(c int) bool {
	return isQuote(c) || c == '(' || c == '\\' || c < 32 || c == 127
}

// hexValue gives what a hex digit is worth, -1 of anything else.
func hexValue(c int) int {
	switch {
	case isDigit(c):
		return c - '0'
	case 'a' <= c && c <= 'f':
		return c - 'a' + 10
	case 'A' <= c && c <= 'F':
		return c - 'A' + 10
	}
	return -1
}
