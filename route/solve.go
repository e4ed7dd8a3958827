package route

import (
	"freight/api"
	"freight/grounds"
)

// Solve gives an answer that is accepted (P10).
func Solve(n api.Net) (api.Answer, api.Errno) {
	flow, cut, errno := Some(n)
	if errno != api.OK {
		return api.Answer{}, errno
	}
	if len(cut) != 0 {
		return api.Answer{Kind: api.None, Cut: cut}, api.OK
	}
	l := atLows(stiff(n))
	w := l.fromEverywhere()
	circle := l.circle(w)
	if len(circle) != 0 {
		return api.Answer{Kind: api.Endless, Flow: flow, Circle: circle}, api.OK
	}
	return best(n, w.cost), api.OK
}

// stiff has a net in which, with all arcs at their Low, there is room along the
// unlimited arcs alone.
func stiff(n api.Net) api.Net {
	arcs := []api.Arc{}
	for _, arc := range n.Arcs {
		if !grounds.Unlimited(arc) {
			arc.Cap = arc.Low
		}
		arcs = append(arcs, arc)
	}
	return api.Net{Supply: n.Supply, Arcs: arcs}
}

// best takes a net of which a flow fits, and potentials that give no unlimited
// arc a drift below 0.
func best(n api.Net, potentials []int) api.Answer {
	l := atLows(n)
	l.fill(potentials)
	l.settle()
	holding := l.potentials()
	cost, _ := grounds.Cost(n, l.flow)
	return api.Answer{Kind: api.Best, Cost: cost, Flow: l.flow, Potentials: holding}
}
