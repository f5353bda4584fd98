package sample

import (
	"slices"

	"analemma/api"
)

// Same tells whether two trees have the same fields; no list and an empty one are one.
func Same(a, b api.Source) bool {
	return slices.Equal(a.Rules, b.Rules) && slices.Equal(a.Links, b.Links) &&
		slices.EqualFunc(a.Zones, b.Zones, func(x, y api.Zone) bool { return x.Name == y.Name && slices.Equal(x.Eras, y.Eras) })
}
