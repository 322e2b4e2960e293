package least

import "primer/api"

// none: the nodes of a tree that there isn't; so great that a sum with it is so, too, and that no sum of two overflows.
const none = 1 << 60

// told: a sum, no greater than need be: what is above MaxCount isn't told apart.
func told(nodes int) int {
	if nodes >= none {
		return none
	}
	return min(nodes, api.MaxCount)
}
