package route

import (
	"freight/api"
	"freight/grounds"
)

// beyond is more than all arcs of a net take together, where none is unlimited.
const beyond = api.MaxArcs*api.MaxCap + 1

// Most gives as much as can go from one node to another, a flow that brings it,
// and a cut that lets no more out (P11). More is offered than can go: so settle
// comes to where the node that it is for can't be reached, and the arcs out of
// those that can are full, while nothing comes in.
func Most(n api.Net, from int, to int) (int, []int, []int, api.Errno) {
	errno := mostError(n, from, to)
	if errno != api.OK {
		return 0, nil, nil, errno
	}
	l := atLows(offered(n, from, to))
	cut := l.settle()
	return beyond - l.left[from], l.flow, cut, api.OK
}

func mostError(n api.Net, from int, to int) api.Errno {
	errno, _ := grounds.Check(n)
	if errno != api.OK {
		return errno
	}
	nodes := len(n.Supply)
	if from < 0 || from >= nodes || to < 0 || to >= nodes || from == to {
		return api.ErrArg
	}
	if !plain(n) {
		return api.ErrShape
	}
	return api.OK
}

// plain tells whether a net has Caps and nothing else to ask for.
func plain(n api.Net) bool {
	for _, supply := range n.Supply {
		if supply != 0 {
			return false
		}
	}
	for _, arc := range n.Arcs {
		if arc.Low != 0 || arc.Cost != 0 || grounds.Unlimited(arc) {
			return false
		}
	}
	return true
}

// offered has a net in which one node has more goods than can go, for the other.
func offered(n api.Net, from int, to int) api.Net {
	supply := make([]int, len(n.Supply))
	supply[from] = beyond
	supply[to] = -beyond
	return api.Net{Supply: supply, Arcs: n.Arcs}
}
