package tree

import "rinse/api"

// maxOfElem is how many classes, and how many attributes, an element has at most.
const maxOfElem = 4

// isPage tells whether elements are a page.
func isPage(elems []api.Elem) bool {
	if len(elems) < 1 || len(elems) > api.MaxElems {
		return false
	}
	for number, elem := range elems {
		if !isParent(elem.Parent, number) || !isElem(elem) {
			return false
		}
	}
	return true
}

// isParent tells whether a number may be the parent of the element of that number: of the first none, of others one ahead.
func isParent(parent, number int) bool {
	if number == 0 {
		return parent == -1
	}
	return 0 <= parent && parent < number
}

func isElem(elem api.Elem) bool {
	if !isName(elem.Tag) || elem.Id != "" && !isName(elem.Id) {
		return false
	}
	if len(elem.Classes) > maxOfElem || len(elem.Attrs) > maxOfElem {
		return false
	}
	for _, class := range elem.Classes {
		if !isName(class) {
			return false
		}
	}
	for _, attr := range elem.Attrs {
		if !isName(attr.Name) || !isAttrValue(attr.Value) {
			return false
		}
	}
	return true
}

func isName(name string) bool {
	if name == "" || len(name) > api.MaxNames {
		return false
	}
	for i := range len(name) {
		if !isPageByte(name[i]) {
			return false
		}
	}
	return true
}

func isAttrValue(value string) bool {
	if len(value) > 2*api.MaxNames {
		return false
	}
	for i := range len(value) {
		if value[i] != ' ' && !isPageByte(value[i]) {
			return false
		}
	}
	return true
}

func isPageByte(c byte) bool {
	return 'a' <= c && c <= 'z' || '0' <= c && c <= '9' || c == '-'
}
