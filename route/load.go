package route

import (
	"freight/api"
	"freight/grounds"
)

// load is a flow in the making. It keeps the bounds all along; left is what
// goes short at each node of its supply (below 0: what goes beyond it).
type load struct {
	net  api.Net
	flow []int
	left []int
}

// step is along an arc, where more is sent, or back along it, where less is.
type step struct {
	arc  int
	back bool
}

func atLows(n api.Net) *load {
	flow := make([]int, len(n.Arcs))
	for number, arc := range n.Arcs {
		flow[number] = arc.Low
	}
	left := make([]int, len(n.Supply))
	for node, supply := range n.Supply {
		sent := grounds.Surplus(n, flow, node)
		left[node] = supply - sent
	}
	return &load{net: n, flow: flow, left: left}
}

// settle sends what is left, and answers no cut; or it comes to where no more
// can go, and answers the nodes that can still be reached from one with goods
// left. All arcs out of these are full then, and all arcs into them at their
// Low, and still there is something left in them: so that cut is violated.
// It takes a net whose supplies add up to 0.
func (l *load) settle() []int {
	toGo := l.unsent()
	for toGo > 0 {
		r := l.reached()
		end, found := l.wanting(r)
		if !found {
			return r.nodes()
		}
		sent := l.send(r, end)
		toGo -= sent
	}
	return nil
}

func (l *load) unsent() int {
	all := 0
	for _, left := range l.left {
		if left > 0 {
			all += left
		}
	}
	return all
}

func (l *load) wanting(r *reach) (int, bool) {
	for _, node := range r.order {
		if l.left[node] < 0 {
			return node, true
		}
	}
	return 0, false
}

// send answers how much it has sent to the end, which is 1 at least: each step
// of the way has room, the way begins where goods are left, and the end wants some.
func (l *load) send(r *reach, end int) int {
	start, way := l.wayTo(r, end)
	amount := l.left[start]
	if -l.left[end] < amount {
		amount = -l.left[end]
	}
	for _, s := range way {
		room := l.room(s)
		if room < amount {
			amount = room
		}
	}
	for _, s := range way {
		l.take(s, amount)
	}
	l.left[start] -= amount
	l.left[end] += amount
	return amount
}

// room of an unlimited arc never comes near 0: no more is sent in all than all
// supplies and Lows together, which is far below MaxAmount.
func (l *load) room(s step) int {
	arc, amount := l.net.Arcs[s.arc], l.flow[s.arc]
	if s.back {
		return amount - arc.Low
	}
	if grounds.Unlimited(arc) {
		return api.MaxAmount - amount
	}
	return arc.Cap - amount
}

func (l *load) take(s step, amount int) {
	if s.back {
		l.flow[s.arc] -= amount
		return
	}
	l.flow[s.arc] += amount
}

func (l *load) ends(s step) (int, int) {
	arc := l.net.Arcs[s.arc]
	if s.back {
		return arc.To, arc.From
	}
	return arc.From, arc.To
}
