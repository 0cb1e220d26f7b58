// Package texts puts texts together and tells them in small letters, byte by byte.
package texts

// Join puts any number of texts together. What it answers is new memory, even of one text alone.
func Join(parts ...string) string {
	size := 0
	for _, part := range parts {
		size += len(part)
	}
	whole := make([]byte, 0, size)
	for _, part := range parts {
		whole = append(whole, part...)
	}
	return string(whole)
}

// JoinBy puts any number of texts together, with one between each two.
func JoinBy(between string, parts ...string) string {
	var all []string
	for i, part := range parts {
		if i > 0 {
			all = append(all, between)
		}
		all = append(all, part)
	}
	return Join(all...)
}

// Small gives a text with `A` to `Z` in small letters. The library's own call reads runes,
// and would change bytes above 127 that are none.
func Small(text string) string {
	small := []byte(text)
	for i, c := range small {
		if 'A' <= c && c <= 'Z' {
			small[i] = c - 'A' + 'a'
		}
	}
	return string(small)
}
