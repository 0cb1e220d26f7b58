package selectors

import (
	"strconv"

	"rinse/texts"
	"rinse/write"
)

// Written writes a complex selector.
func (c Complex) Written() string {
	var parts []string
	for _, step := range c {
		parts = append(parts, step.Combinator.written())
		for _, part := range step.Compound {
			parts = append(parts, part.written())
		}
	}
	return texts.Join(parts...)
}

// written writes a list as it stands in a not or an is.
func (l List) written() string {
	var parts []string
	for _, one := range l {
		parts = append(parts, one.Written())
	}
	return texts.JoinBy(",", parts...)
}

func (c Combinator) written() string {
	switch c {
	case Below:
		return " "
	case Child:
		return " > "
	case Next:
		return " + "
	case Further:
		return " ~ "
	}
	return ""
}

func (star) written() string { return "*" }

func (t tag) written() string { return write.Name(t.name) }

func (i id) written() string { return texts.Join("#", write.Name(i.name)) }

func (c class) written() string { return texts.Join(".", write.Name(c.name)) }

func (a attr) written() string {
	if a.relation == "" {
		return texts.Join("[", write.Name(a.name), "]")
	}
	return texts.Join("[", write.Name(a.name), a.relation, write.Text(a.value), "]")
}

func (s state) written() string { return texts.Join(":", s.name) }

func (p place) written() string {
	name := p.name
	if name == "" {
		name = strconv.Itoa(p.number)
	}
	return texts.Join(":nth-child(", name, ")")
}

func (n not) written() string { return texts.Join(":not(", n.list.written(), ")") }

func (i is) written() string { return texts.Join(":is(", i.list.written(), ")") }
