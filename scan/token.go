package scan

import (
	"rinse/api"
	"rinse/texts"
)

// token reads what begins at a place that is not the end. The order of the cases is the document's.
func (s *scanner) token() api.Token {
	c := s.peek(0)
	switch {
	case isBlank(c):
		s.passBlanks()
		return api.Token{Kind: api.Blank}
	case isQuote(c):
		return s.text()
	case c == '#' && s.nameGoesOn(1):
		s.at++
		return api.Token{Kind: api.Hash, Word: s.name()}
	case s.numberBegins():
		return s.numeric()
	case s.stands("<!--"):
		s.at += len("<!--")
		return api.Token{Kind: api.Open}
	case s.stands("-->"):
		s.at += len("-->")
		return api.Token{Kind: api.Close}
	case c == '@' && s.nameBegins(1):
		s.at++
		return api.Token{Kind: api.At, Word: s.name()}
	case s.nameBegins(0):
		return s.named()
	}
	return api.Token{Kind: api.Sign, Word: s.take()}
}

// text reads from a quote to the same one. The line feed that spoils it is left to the next token.
func (s *scanner) text() api.Token {
	var parts []string
	quote := s.peek(0)
	s.at++
	for {
		switch c := s.peek(0); {
		case c == none:
			goto end
		case c == quote:
			s.at++
			goto end
		case c == '\n':
			goto bad
		case c == '\\':
			parts = append(parts, s.textEscape())
		default:
			parts = append(parts, s.take())
		}
	}
bad:
	return api.Token{Kind: api.BadText}
end:
	return api.Token{Kind: api.Text, Word: texts.Join(parts...)}
}

// textEscape reads a `\` in a text, where it may stand for nothing, as it never does elsewhere.
func (s *scanner) textEscape() string {
	switch s.peek(1) {
	case none:
		s.at++
		return ""
	case '\n':
		s.at += 2
		return ""
	}
	return s.escape()
}

func (s *scanner) numeric() api.Token {
	word := s.number()
	switch {
	case s.peek(0) == '%':
		s.at++
		return api.Token{Kind: api.Percent, Word: word}
	case s.nameBegins(0):
		return api.Token{Kind: api.Dimension, Word: word, Unit: s.name()}
	}
	return api.Token{Kind: api.Number, Word: word}
}

// named reads what begins with a name: an Ident, a Function or a link.
func (s *scanner) named() api.Token {
	word := s.name()
	if s.peek(0) != '(' {
		return api.Token{Kind: api.Ident, Word: word}
	}
	s.at++
	if texts.Small(word) == "url" && !s.quoteFollows() {
		return s.link()
	}
	return api.Token{Kind: api.Function, Word: word}
}

// quoteFollows looks behind blanks without passing them: if a quote follows, they are a token of their own.
func (s *scanner) quoteFollows() bool {
	look := *s
	look.passBlanks()
	return isQuote(look.peek(0))
}

// link reads what stands behind `url(`.
func (s *scanner) link() api.Token {
	var parts []string
	s.passBlanks()
	for {
		switch c := s.peek(0); {
		case c == none:
			goto end
		case c == ')':
			s.at++
			goto end
		case isBlank(c):
			s.passBlanks()
			if s.peek(0) != ')' && s.peek(0) != none {
				goto bad
			}
		case s.escapeBegins(0):
			parts = append(parts, s.escape())
		case spoilsLink(c):
			goto bad
		default:
			parts = append(parts, s.take())
		}
	}
bad:
	s.passBadLink()
	return api.Token{Kind: api.BadLink}
end:
	return api.Token{Kind: api.Link, Word: texts.Join(parts...)}
}

func (s *scanner) passBadLink() {
	for {
		switch c := s.peek(0); {
		case c == none:
			goto passed
		case c == ')':
			s.at++
			goto passed
		case s.escapeBegins(0):
			s.escape()
		default:
			s.at++
		}
	}
passed:
}
