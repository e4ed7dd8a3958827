package grounds

import "freight/api"

// Cost tells what a flow costs that fits (P4).
func Cost(n api.Net, flow []int) (int, api.Errno) {
	errno, _ := Check(n)
	if errno != api.OK {
		return 0, errno
	}
	errno = flowError(n, flow)
	if errno != api.OK {
		return 0, errno
	}
	return costOf(n, flow), api.OK
}

// flowError is OK if the flow fits. The bounds come ahead of the balance, as
// P4 has it: so the sums that follow are of small numbers, and can't overflow.
func flowError(n api.Net, flow []int) api.Errno {
	if len(flow) != len(n.Arcs) {
		return api.ErrFlow
	}
	for number, arc := range n.Arcs {
		if !withinBounds(arc, flow[number]) {
			return api.ErrBound
		}
	}
	for node, supply := range n.Supply {
		if surplus(n, flow, node) != supply {
			return api.ErrBalance
		}
	}
	return api.OK
}

func withinBounds(arc api.Arc, amount int) bool {
	if amount < arc.Low || amount > api.MaxAmount {
		return false
	}
	return Unlimited(arc) || amount <= arc.Cap
}

// surplus is what goes from the node less what goes to it, of a flow with a
// number for each arc. Both tests are made of each arc, since an arc from a
// node to itself counts on both sides.
func surplus(n api.Net, flow []int, node int) int {
	sum := 0
	for number, arc := range n.Arcs {
		if arc.From == node {
			sum += flow[number]
		}
		if arc.To == node {
			sum -= flow[number]
		}
	}
	return sum
}

func costOf(n api.Net, flow []int) int {
	sum := 0
	for number, arc := range n.Arcs {
		sum += flow[number] * arc.Cost
	}
	return sum
}
