// Package grounds: whether a net may be, and whether what is said of it is seen to be right: see DOC.md.
package grounds

import "freight/api"

// Check tells whether a net may be, and the number of the first node or arc that may not (P3).
func Check(n api.Net) (api.Errno, int) {
	if len(n.Supply) < 1 || len(n.Supply) > api.MaxNodes || len(n.Arcs) > api.MaxArcs {
		return api.ErrSize, 0
	}
	for node, supply := range n.Supply {
		if supply < -api.MaxSupply || supply > api.MaxSupply {
			return api.ErrSupply, node
		}
	}
	for number, arc := range n.Arcs {
		if !arcMayBe(arc, len(n.Supply)) {
			return api.ErrArc, number
		}
	}
	return api.OK, 0
}

func arcMayBe(arc api.Arc, nodes int) bool {
	if arc.From < 0 || arc.From >= nodes {
		return false
	}
	if arc.To < 0 || arc.To >= nodes {
		return false
	}
	if arc.Low < 0 || arc.Low > api.MaxCap {
		return false
	}
	if !Unlimited(arc) && (arc.Cap < arc.Low || arc.Cap > api.MaxCap) {
		return false
	}
	return arc.Cost >= -api.MaxCost && arc.Cost <= api.MaxCost
}

// Unlimited tells whether the arc takes any amount.
func Unlimited(arc api.Arc) bool { return arc.Cap == api.NoLimit }
