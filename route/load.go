package route

import (
	"freight/api"
	"freight/grounds"
)

// load is a flow in the making. It keeps the bounds all along; left is what
// goes short at each node of its supply (below 0: what goes beyond it).
type load struct {
	net  api.Net
	flow []int
	left []int
}

// step is along an arc, where more is sent, or back along it, where less is.
type step struct {
	arc  int
	back bool
}

func atLows(n api.Net) *load {
	l := &load{net: n, flow: make([]int, len(n.Arcs)), left: make([]int, len(n.Supply))}
	for node, supply := range n.Supply {
		l.left[node] = supply
	}
	for number, arc := range n.Arcs {
		l.take(step{arc: number, back: false}, arc.Low)
	}
	return l
}

// fill sends as much as may be along each arc with a drift below 0, of which
// none may be unlimited. Where all arcs were at their Low, the potentials hold
// the flow then: so no circle of steps with room costs less than 0.
func (l *load) fill(potentials []int) {
	for number, arc := range l.net.Arcs {
		drift := grounds.Drift(arc, potentials)
		if drift < 0 {
			s := step{arc: number, back: false}
			room := l.room(s)
			l.take(s, room)
		}
	}
}

// settle sends what is left, and answers no cut; or it comes to where no more
// can go, and answers the nodes that can still be reached from one with goods
// left. All arcs out of these are full then, and all arcs into them at their
// Low, and still there is something left in them: so that cut is violated.
// It takes a net whose supplies add up to 0, and a load in which no circle of
// steps costs less than 0; since it goes the cheapest ways, none ever does.
func (l *load) settle() []int {
	toGo := l.unsent()
	for toGo > 0 {
		ready := l.ready()
		w := l.cheapest(ready)
		end, found := l.wanting(w)
		if !found {
			return w.nodes()
		}
		sent := l.send(w, end)
		toGo -= sent
	}
	return nil
}

func (l *load) unsent() int {
	all := 0
	for _, left := range l.left {
		if left > 0 {
			all += left
		}
	}
	return all
}

// ready tells of each node whether goods are left at it.
func (l *load) ready() []bool {
	nodes := make([]bool, len(l.left))
	for node, left := range l.left {
		nodes[node] = left > 0
	}
	return nodes
}

func (l *load) wanting(w *ways) (int, bool) {
	for node, left := range l.left {
		if left < 0 && w.seen[node] {
			return node, true
		}
	}
	return 0, false
}

// send answers how much it has sent to the end, which is 1 at least: each step
// of the way has room, the way begins where goods are left, and the end wants some.
func (l *load) send(w *ways, end int) int {
	start, way := l.wayTo(w, end)
	amount := l.left[start]
	if -l.left[end] < amount {
		amount = -l.left[end]
	}
	for _, s := range way {
		room := l.room(s)
		if room < amount {
			amount = room
		}
	}
	for _, s := range way {
		l.take(s, amount)
	}
	return amount
}

// room of an unlimited arc never comes near 0: no more is sent in all than all
// supplies, Lows and Caps together, which is far below MaxAmount.
func (l *load) room(s step) int {
	arc, amount := l.net.Arcs[s.arc], l.flow[s.arc]
	if s.back {
		return amount - arc.Low
	}
	if grounds.Unlimited(arc) {
		return api.MaxAmount - amount
	}
	return arc.Cap - amount
}

// price is of a unit: what is sent back need not be paid.
func (l *load) price(s step) int {
	cost := l.net.Arcs[s.arc].Cost
	if s.back {
		return -cost
	}
	return cost
}

func (l *load) take(s step, amount int) {
	from, to := l.ends(s)
	l.left[from] -= amount
	l.left[to] += amount
	if s.back {
		l.flow[s.arc] -= amount
		return
	}
	l.flow[s.arc] += amount
}

func (l *load) ends(s step) (int, int) {
	arc := l.net.Arcs[s.arc]
	if s.back {
		return arc.To, arc.From
	}
	return arc.From, arc.To
}
