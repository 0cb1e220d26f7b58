package rinse

import (
	"math/rand"
	"strings"
)

// What sheets of strangers are drawn from: selectors and values that may be, and odd pieces.
var (
	drawnSelectors = strings.Split(`p|P|*|.x|.r|html|#a|#1|b[k]|[k=v]|[K='<>]]>']|[ k ^= v ]|:ROOT|:not(p , .x>b)|:is(*)|p:nth-child( EVEN )|:nth-child(02)|\31 |\-|--|-a|é|.\2d |html|.x:first-child`, "|")

	drawnCombinators = strings.Split(" |  |>|+| ~|,| , |/**/ |\n>\n", "|")

	drawnValues = strings.Split("a|red|1|1px|1em|%|.|,|:|+|-|*|/|=|--|#1|#a| | |/**/|(a)|[ ]|{b:c}|calc(1px + 2px)|var(--x)|\\-(|--(1)|url('a')|'x'|\"]]>\\\n</\"|\\31 |\\-|\xff|CALC()|1e5|.5|e3|inherit", "|")

	drawnPieces = strings.Split("p|{|}|color|:|red|;|--x|var(|)|(|[|]|'a<|'|\"|\\|\n|\r\n|/*|*/|<!--|-->|@media|@LAYER|@\\2d |@x|url(|1|e3|px|%|.x|#1|>|+|~|,|!|!important|\x00|\xe9|</|]]>|-|--|\\31 |calc(|:not(|:nth-child(2)|[k=v]|*|p{color:|}b{width:|{color:red}|@media x{|;width:1px", "|")
)

func one(r *rand.Rand, from []string) string {
	return from[r.Intn(len(from))]
}

// drawn puts fewer than most pieces together.
func drawn(r *rand.Rand, from []string, most int) string {
	whole := ""
	for range r.Intn(most) {
		whole += one(r, from)
	}
	return whole
}

// odd is seldom something.
func odd(r *rand.Rand) string {
	if r.Intn(12) > 0 {
		return ""
	}
	return one(r, drawnPieces)
}

func drawnHead(r *rand.Rand) string {
	whole := one(r, drawnSelectors)
	for range r.Intn(3) {
		whole += one(r, drawnCombinators) + one(r, drawnSelectors)
	}
	return whole + odd(r)
}

func drawnRule(r *rand.Rand) string {
	return drawnHead(r) + "{color:" + drawn(r, drawnValues, 5) + odd(r) + ";--" + drawn(r, drawnValues, 2) + ":" + drawn(r, drawnValues, 4) + odd(r) + "}"
}

func drawnSheet(r *rand.Rand) string {
	switch r.Intn(8) {
	case 0:
		return drawn(r, drawnPieces, 16)
	case 1:
		return "@media " + drawn(r, drawnValues, 4) + odd(r) + "{" + drawnRule(r) + odd(r) + drawnRule(r) + "}" + drawnRule(r)
	case 2:
		return "p{color:" + drawn(r, drawnValues, 10) + "}" + drawn(r, drawnPieces, 6)
	}
	whole := odd(r)
	for range 1 + r.Intn(3) {
		whole += drawnRule(r) + odd(r)
	}
	return whole
}
