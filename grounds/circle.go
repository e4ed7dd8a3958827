package grounds

import "freight/api"

func isCircle(n api.Net, circle []int) bool {
	if len(circle) == 0 || !namesArcsOnce(len(n.Arcs), circle) {
		return false
	}
	last := n.Arcs[circle[len(circle)-1]]
	at := last.To
	for _, number := range circle {
		arc := n.Arcs[number]
		if arc.From != at {
			return false
		}
		at = arc.To
	}
	return true
}

func namesArcsOnce(arcs int, list []int) bool {
	named := make([]bool, arcs)
	for _, number := range list {
		if number < 0 || number >= arcs || named[number] {
			return false
		}
		named[number] = true
	}
	return true
}

// good takes a list that is a circle.
func good(n api.Net, circle []int) bool {
	sum := 0
	for _, number := range circle {
		arc := n.Arcs[number]
		if !Unlimited(arc) {
			return false
		}
		sum += arc.Cost
	}
	return sum < 0
}
