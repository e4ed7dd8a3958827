package grounds

import "freight/api"

// crossing is what the arcs that go one way over the edge of a cut take
// together; caps has no meaning where one of them is unlimited.
type crossing struct {
	lows, caps int
	unlimited  bool
}

// isCut tells whether the list names nodes, rising; so none stands in it twice.
func isCut(nodes int, cut []int) bool {
	above := -1
	for _, node := range cut {
		if node <= above || node >= nodes {
			return false
		}
		above = node
	}
	return true
}

// violated takes a list that is a cut.
func violated(n api.Net, cut []int) bool {
	inside := membersOf(len(n.Supply), cut)
	need := needOf(n, cut)
	out := crossingOf(n, inside, true)
	in := crossingOf(n, inside, false)
	if !out.unlimited && need > out.caps-in.lows {
		return true
	}
	return !in.unlimited && need < out.lows-in.caps
}

func membersOf(nodes int, cut []int) []bool {
	inside := make([]bool, nodes)
	for _, node := range cut {
		inside[node] = true
	}
	return inside
}

func needOf(n api.Net, cut []int) int {
	need := 0
	for _, node := range cut {
		need += n.Supply[node]
	}
	return need
}

// crossingOf is of the arcs that go out of the cut, or else of those that go in.
func crossingOf(n api.Net, inside []bool, outward bool) crossing {
	sum := crossing{}
	for _, arc := range n.Arcs {
		if inside[arc.From] == outward && inside[arc.To] != outward {
			sum = widened(sum, arc)
		}
	}
	return sum
}

func widened(sum crossing, arc api.Arc) crossing {
	sum.lows += arc.Low
	if Unlimited(arc) {
		sum.unlimited = true
		return sum
	}
	sum.caps += arc.Cap
	return sum
}
