package selectors

import (
	"slices"

	"rinse/tree"
)

// Weight is how many ids there are; classes, attributes and such; tags.
type Weight [3]int

// Compare is below, at or above nought, as a weight is less than another one, the same or greater.
func (w Weight) Compare(other Weight) int {
	return slices.Compare(w[:], other[:])
}

func (w Weight) plus(other Weight) Weight {
	for i := range w {
		w[i] += other[i]
	}
	return w
}

// Claim is what a complex selector lays on a page: the elements that it matches, with its weight.
type Claim struct {
	Elems  tree.Set
	Weight Weight
}

// Claims gives the claim of each selector of a list.
func (l List) Claims(page tree.Page) []Claim {
	var claims []Claim
	for _, one := range l {
		claims = append(claims, Claim{one.On(page), one.weight()})
	}
	return claims
}

// weight is the greatest in a list, whichever of its selectors match.
func (l List) weight() Weight {
	var greatest Weight
	for _, one := range l {
		if weight := one.weight(); weight.Compare(greatest) > 0 {
			greatest = weight
		}
	}
	return greatest
}

func (c Complex) weight() Weight {
	var whole Weight
	for _, step := range c {
		for _, part := range step.Compound {
			whole = whole.plus(part.weight())
		}
	}
	return whole
}

func (star) weight() Weight { return Weight{} }

func (tag) weight() Weight { return Weight{0, 0, 1} }

func (id) weight() Weight { return Weight{1, 0, 0} }

func (class) weight() Weight { return Weight{0, 1, 0} }

func (attr) weight() Weight { return Weight{0, 1, 0} }

func (state) weight() Weight { return Weight{0, 1, 0} }

func (place) weight() Weight { return Weight{0, 1, 0} }

func (n not) weight() Weight { return n.list.weight() }

func (i is) weight() Weight { return i.list.weight() }
