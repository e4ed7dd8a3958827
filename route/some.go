// Package route: goods sent through a net, each time the cheapest way, until all have gone or no more can go: see DOC.md.
package route

import (
	"freight/api"
	"freight/grounds"
)

// Some gives a flow that fits, or a cut that is violated (P9).
func Some(n api.Net) ([]int, []int, api.Errno) {
	errno, _ := grounds.Check(n)
	if errno != api.OK {
		return nil, nil, errno
	}
	// No arc goes out of all nodes together, nor in: so they need 0.
	if sum(n.Supply) != 0 {
		return nil, everyNode(len(n.Supply)), api.OK
	}
	l := atLows(costless(n))
	cut := l.settle()
	if len(cut) != 0 {
		return nil, cut, api.OK
	}
	return l.flow, nil, api.OK
}

func sum(numbers []int) int {
	all := 0
	for _, number := range numbers {
		all += number
	}
	return all
}

func everyNode(nodes int) []int {
	all := []int{}
	for node := 0; node < nodes; node++ {
		all = append(all, node)
	}
	return all
}

// costless has a net in which any way is as cheap as another.
func costless(n api.Net) api.Net {
	arcs := []api.Arc{}
	for _, arc := range n.Arcs {
		arc.Cost = 0
		arcs = append(arcs, arc)
	}
	return api.Net{Supply: n.Supply, Arcs: arcs}
}
