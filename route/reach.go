package route

// reach is the nodes to which goods that are left can still go.
type reach struct {
	seen  []bool
	order []int  // the nodes seen, the nearest ones first
	start []bool // the way to this node is empty
	last  []step // of the way to each other node seen
}

// reached goes over each node once, since none joins the order twice.
func (l *load) reached() *reach {
	nodes := len(l.left)
	r := &reach{
		seen:  make([]bool, nodes),
		start: make([]bool, nodes),
		last:  make([]step, nodes),
	}
	for node, left := range l.left {
		if left > 0 {
			r.start[node] = true
			r.see(node)
		}
	}
	for next := 0; next < len(r.order); next++ {
		node := r.order[next]
		l.spread(r, node)
	}
	return r
}

func (r *reach) see(node int) {
	r.seen[node] = true
	r.order = append(r.order, node)
}

func (l *load) spread(r *reach, node int) {
	for number := range l.net.Arcs {
		l.explore(r, node, step{arc: number, back: false})
		l.explore(r, node, step{arc: number, back: true})
	}
}

func (l *load) explore(r *reach, node int, s step) {
	from, to := l.ends(s)
	if from != node || r.seen[to] || l.room(s) == 0 {
		return
	}
	r.last[to] = s
	r.see(to)
}

// wayTo takes a node that is seen, and answers where the way to it starts, and
// its steps. It goes from node to node that was seen ahead of it, and so ends.
func (l *load) wayTo(r *reach, end int) (int, []step) {
	way := []step{}
	at := end
	for !r.start[at] {
		s := r.last[at]
		way = append(way, s)
		at, _ = l.ends(s)
	}
	return at, way
}

// nodes gives them rising, as a cut has them.
func (r *reach) nodes() []int {
	list := []int{}
	for node, seen := range r.seen {
		if seen {
			list = append(list, node)
		}
	}
	return list
}
