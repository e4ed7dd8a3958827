package route

// ways are the cheapest ones to the nodes, from those at which a way may start.
type ways struct {
	seen  []bool
	cost  []int  // of the way to each node seen
	last  []step // of each way that is not empty
	newer int    // a node to which the last round has found a cheaper way, or nowhere
}

const nowhere = -1

// cheapest goes as many rounds as there are nodes. A way without a circle is
// found one round sooner: so if the last round finds a cheaper one still, some
// circle of steps costs less than 0; and if there is no such circle, no way has one.
func (l *load) cheapest(starts []bool) *ways {
	nodes := len(starts)
	w := &ways{
		seen:  make([]bool, nodes),
		cost:  make([]int, nodes),
		last:  make([]step, nodes),
		newer: nowhere,
	}
	for node, starting := range starts {
		w.seen[node] = starting
	}
	for round := 0; round < nodes; round++ {
		l.goRound(w)
	}
	return w
}

func (l *load) fromEverywhere() *ways {
	starts := make([]bool, len(l.left))
	for node := range starts {
		starts[node] = true
	}
	return l.cheapest(starts)
}

// potentials takes a load in which no circle of steps costs less than 0. What
// the cheapest way to each node costs are potentials that hold its flow: a step
// with room would make a way cheaper if its drift were below 0.
func (l *load) potentials() []int {
	w := l.fromEverywhere()
	return w.cost
}

func (l *load) goRound(w *ways) {
	w.newer = nowhere
	for number := range l.net.Arcs {
		l.goOn(w, step{arc: number, back: false})
		l.goOn(w, step{arc: number, back: true})
	}
}

// goOn takes the step at the end of the way to where it begins, if that is
// cheaper than the way known to where it ends.
func (l *load) goOn(w *ways, s step) {
	from, to := l.ends(s)
	if !w.seen[from] || l.room(s) == 0 {
		return
	}
	cost := w.cost[from] + l.price(s)
	if w.seen[to] && w.cost[to] <= cost {
		return
	}
	w.seen[to] = true
	w.cost[to] = cost
	w.last[to] = s
	w.newer = to
}

// wayTo takes ways that may start where goods are left, and a node that is seen.
// It answers the last node with goods left on the way to it, and the steps from
// there on, which are a cheapest way, too. No circle of steps may cost less than
// 0: then each node is on the way once at most.
func (l *load) wayTo(w *ways, end int) (int, []step) {
	way := []step{}
	at := end
	for l.left[at] <= 0 && len(way) < len(w.last) {
		way = append(way, w.last[at])
		at = l.before(w, at)
	}
	return at, way
}

// before takes a node with a way that is not empty.
func (l *load) before(w *ways, node int) int {
	from, _ := l.ends(w.last[node])
	return from
}

// circle takes ways that may start at every node, of a load that has no room
// back along an arc, and gives the arcs of a circle that costs less than 0, if
// there is one. A node with a newer way in some round has its last step from
// one with a newer way in the round ahead of it, or later: so back from the
// newest there are as many steps as rounds, more than can go without a circle.
func (l *load) circle(w *ways) []int {
	if w.newer == nowhere {
		return nil
	}
	first := w.newer
	for range w.last {
		first = l.before(w, first)
	}
	backward := []int{w.last[first].arc}
	at := l.before(w, first)
	for at != first && len(backward) < len(w.last) {
		backward = append(backward, w.last[at].arc)
		at = l.before(w, at)
	}
	return turned(backward)
}

func turned(list []int) []int {
	forward := []int{}
	for i := len(list) - 1; i >= 0; i-- {
		forward = append(forward, list[i])
	}
	return forward
}

// nodes gives them rising, as a cut has them.
func (w *ways) nodes() []int {
	list := []int{}
	for node, seen := range w.seen {
		if seen {
			list = append(list, node)
		}
	}
	return list
}
