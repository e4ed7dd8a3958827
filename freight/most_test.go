package freight_test

import (
	"reflect"
	"testing"

	"freight/api"
	"freight/freight"
)

// carriable is a net, and how much can go in it from one node to another.
type carriable struct {
	name     string
	net      api.Net
	from, to int
	much     int
}

// carried is what Most answers, and what Some does, without how much.
type carried struct {
	much      int
	flow, cut []int
	errno     api.Errno
}

func pipe(from, to, limit int) api.Arc { return arc(from, to, 0, limit, 0) }

// pipes is a net with as many nodes, none of which has a supply.
func pipes(nodes int, arcs ...api.Arc) api.Net { return net(make([]int, nodes), arcs...) }

func carriedOf(c carriable) carried {
	much, flow, cut, errno := freight.Most(c.net, c.from, c.to)
	return carried{much, flow, cut, errno}
}

// kept has lists of its own.
func kept(got carried) carried {
	return carried{got.much, append([]int{}, got.flow...), append([]int{}, got.cut...), got.errno}
}

func inside(cut []int, node int) bool {
	for _, k := range cut {
		if k == node {
			return true
		}
	}
	return false
}

// flowFault tells in which way a flow does not bring that much, if it does not.
func flowFault(c carriable, got carried) string {
	if len(got.flow) != len(c.net.Arcs) {
		return "not a number for each arc"
	}
	out := make([]int, len(c.net.Supply))
	for i, a := range c.net.Arcs {
		if got.flow[i] < 0 || got.flow[i] > a.Cap {
			return "a flow beyond the bounds"
		}
		out[a.From] += got.flow[i]
		out[a.To] -= got.flow[i]
	}
	for node, amount := range out {
		if node != c.from && node != c.to && amount != 0 {
			return "a flow that is not balanced"
		}
	}
	if out[c.from] != got.much {
		return "another amount goes out"
	}
	return ""
}

// cutFault tells in which way a cut does not let just that much out, if it does not.
func cutFault(c carriable, got carried) string {
	above := -1
	for _, node := range got.cut {
		if node <= above || node >= len(c.net.Supply) {
			return "no cut"
		}
		above = node
	}
	if !inside(got.cut, c.from) || inside(got.cut, c.to) {
		return "a cut that is not between the two"
	}
	caps := 0
	for _, a := range c.net.Arcs {
		if inside(got.cut, a.From) && !inside(got.cut, a.To) {
			caps += a.Cap
		}
	}
	if caps != got.much {
		return "a cut that lets another amount out"
	}
	return ""
}

// shown fails unless the answer is seen to be right.
func shown(t *testing.T, c carriable) carried {
	t.Helper()
	got := carriedOf(c)
	if got.errno != api.OK {
		t.Errorf("P11: %s: Most(%+v, %d, %d): error %d", c.name, c.net, c.from, c.to, got.errno)
		return got
	}
	for _, fault := range []string{flowFault(c, got), cutFault(c, got)} {
		if fault != "" {
			t.Errorf("P11: %s: Most(%+v, %d, %d) = %+v: %s", c.name, c.net, c.from, c.to, got, fault)
		}
	}
	return got
}

func carry(t *testing.T, cases []carriable) {
	t.Helper()
	for _, c := range cases {
		if got := shown(t, c); got.much != c.much {
			t.Errorf("P11: %s: Most(%+v, %d, %d) = %+v, want %d", c.name, c.net, c.from, c.to, got, c.much)
		}
	}
}

func carriables() []carriable {
	three := pipes(3, pipe(0, 1, 3), pipe(1, 2, 2), pipe(0, 2, 1))
	return []carriable{
		{"the example", three, 0, 2, 3},
		{"the example, the other way", three, 2, 0, 0},
		{"to the node between", three, 0, 1, 3},
		{"from the node between", three, 1, 2, 2},
		{"from the node between, back", three, 1, 0, 0},
		{"no arc", pipes(2), 0, 1, 0},
		{"no arc, the other way", pipes(2), 1, 0, 0},
		{"an arc that takes nothing", pipes(2, pipe(0, 1, 0)), 0, 1, 0},
		{"several arcs alike", pipes(2, pipe(0, 1, 60), pipe(0, 1, 60), pipe(0, 1, 0)), 0, 1, 120},
		{"arcs from nodes to themselves", pipes(2, pipe(0, 0, 9), pipe(1, 1, 9), pipe(0, 1, 2), pipe(1, 0, 9)), 0, 1, 2},
		{"nothing but those", pipes(2, pipe(0, 0, 9), pipe(1, 1, 9)), 0, 1, 0},
		{"arcs into the one and out of the other", pipes(3, pipe(0, 1, 5), pipe(1, 0, 5), pipe(1, 2, 4), pipe(2, 1, 7), pipe(2, 0, 9)), 0, 2, 4},
		{"a node apart", pipes(4, pipe(0, 2, 5), pipe(2, 1, 6), pipe(3, 1, 9), pipe(2, 3, 0)), 0, 1, 5},
		{"an end that goes nowhere", pipes(4, pipe(0, 2, 5), pipe(2, 3, 9), pipe(0, 1, 1)), 0, 1, 1},
		{"narrow at the start", pipes(3, pipe(2, 0, 1), pipe(0, 1, 9)), 2, 1, 1},
		{"narrow at the end", pipes(3, pipe(2, 0, 9), pipe(0, 1, 1)), 2, 1, 1},
		{"narrow in the middle", pipes(4, pipe(0, 1, 9), pipe(1, 2, 4), pipe(2, 3, 9), pipe(0, 2, 2), pipe(1, 3, 3)), 0, 3, 9},
	}
}

func TestP11AsMuchAsCanGo(t *testing.T) { carry(t, carriables()) }

// The way through the middle is of no use, whichever arc comes first.
func TestP11WhatWasSentIsTakenBack(t *testing.T) {
	arcs := []api.Arc{pipe(0, 1, 7), pipe(1, 2, 7), pipe(2, 3, 7), pipe(0, 2, 7), pipe(1, 3, 7)}
	for first := range arcs {
		turned := append(append([]api.Arc{}, arcs[first:]...), arcs[:first]...)
		carry(t, []carriable{
			{"the middle arc", pipes(4, turned...), 0, 3, 14},
			{"turned round", back(pipes(4, turned...)), 3, 0, 14},
			{"against the arcs", pipes(4, turned...), 3, 0, 0},
		})
	}
}

// twice is a row through all nodes, with two arcs a place.
func twice(limit int) api.Net {
	n := pipes(api.MaxNodes)
	for node := 0; node < api.MaxNodes-1; node++ {
		n.Arcs = append(n.Arcs, pipe(node, node+1, limit), pipe(node, node+1, limit))
	}
	return n
}

func TestP11AsMuchAsMayBe(t *testing.T) {
	all, eachWay := pipes(2), pipes(2, twelveEachWay(0, 60)...)
	for i := 0; i < api.MaxArcs; i++ {
		all.Arcs = append(all.Arcs, pipe(1, 0, 60))
	}
	narrow := twice(60)
	narrow.Arcs[10].Cap = 59
	fan := pipes(api.MaxNodes)
	for node := 1; node < api.MaxNodes-1; node++ {
		fan.Arcs = append(fan.Arcs, pipe(0, node, 60), pipe(node, api.MaxNodes-1, node))
	}
	carry(t, []carriable{
		{"all arcs from one to the other", all, 1, 0, 24 * 60},
		{"all arcs against", all, 0, 1, 0},
		{"half of them against", eachWay, 0, 1, 12 * 60},
		{"the longest way", twice(60), 0, 9, 120},
		{"the longest way, one arc narrower", narrow, 0, 9, 119},
		{"behind that arc", narrow, 6, 9, 120},
		{"ahead of it", narrow, 0, 5, 120},
		{"through all nodes at once", fan, 0, 9, 1 + 2 + 3 + 4 + 5 + 6 + 7 + 8},
		{"the nodes without arcs", pipes(api.MaxNodes), 9, 8, 0},
	})
}

func TestP11HasTheErrorOfCheck(t *testing.T) {
	for _, c := range append(faultyNets(), severalErrors()...) {
		for _, ends := range [][]int{{0, 1}, {0, 0}, {-1, most}} {
			refused(t, carriable{c.name, c.net, ends[0], ends[1], 0}, c.errno)
		}
	}
}

func refused(t *testing.T, c carriable, errno api.Errno) {
	t.Helper()
	got := carriedOf(c)
	if got.much != 0 || len(got.flow) != 0 || len(got.cut) != 0 || got.errno != errno {
		t.Errorf("P11: %s: Most(%+v, %d, %d) = %+v, want nothing, %d", c.name, c.net, c.from, c.to, got, errno)
	}
}

func TestP11RefusesNodesThatAreNone(t *testing.T) {
	three := pipes(3, pipe(0, 1, 3), pipe(1, 2, 2))
	for _, x := range append(edges(), 4) {
		refused(t, carriable{"the same twice", three, x, x, 0}, api.ErrArg)
		if x < 0 || x > 2 {
			refused(t, carriable{"from no node", three, x, 1, 0}, api.ErrArg)
			refused(t, carriable{"to no node", three, 1, x, 0}, api.ErrArg)
			refused(t, carriable{"to no node, from none", three, 3, x, 0}, api.ErrArg)
		}
	}
	refused(t, carriable{"one node", pipes(1), 0, 0, 0}, api.ErrArg)
	refused(t, carriable{"one node, to no node", pipes(1), 0, 1, 0}, api.ErrArg)
}

// shapes are nets that may be, with more than Most takes.
func shapes() []api.Net {
	return []api.Net{
		net(list(1, 0), pipe(0, 1, 1)), net(list(0, -1), pipe(0, 1, 1)), net(list(1, -1)),
		net(list(0, 0, 0, 100), pipe(0, 1, 1)), pipes(2, arc(0, 1, 1, 1, 0)), pipes(2, arc(0, 1, 60, 60, 0)),
		pipes(2, arc(0, 1, 0, 1, 1)), pipes(2, arc(0, 1, 0, 1, -1)), pipes(2, arc(0, 1, 0, 0, 50)),
		pipes(2, arc(0, 1, 0, free, 0)), pipes(2, pipe(0, 1, 5), pipe(1, 0, free)),
		pipes(2, pipe(0, 1, 5), pipe(0, 1, 5), arc(1, 1, 1, 2, 0)), pipes(3, pipe(0, 1, 5), arc(2, 2, 0, 2, -50)),
	}
}

func TestP11RefusesWhatIsNotAskedFor(t *testing.T) {
	for _, n := range shapes() {
		refused(t, carriable{"more than is asked for", n, 0, 1, 0}, api.ErrShape)
		refused(t, carriable{"more than is asked for, back", n, 1, 0, 0}, api.ErrShape)
	}
}

func TestP1MostNamesTheFirstError(t *testing.T) {
	for _, n := range shapes() {
		for _, x := range list(least, -1, 4, most) {
			refused(t, carriable{"from no node, and the shape", n, x, 1, 0}, api.ErrArg)
			refused(t, carriable{"to no node, and the shape", n, 0, x, 0}, api.ErrArg)
		}
		refused(t, carriable{"the same twice, and the shape", n, 1, 1, 0}, api.ErrArg)
	}
}

// The answer is its own proof; so there is no need to know how much is to come.
func TestP11DrawnNets(t *testing.T) {
	d := &dice{state: 11}
	some := 0
	for i := 0; i < 5000 && !t.Failed(); i++ {
		n := pipes(d.roll(2, api.MaxNodes))
		last := len(n.Supply) - 1
		highest := list(1, 9, 60)[d.roll(0, 2)]
		for k := d.roll(0, api.MaxArcs); k > 0; k-- {
			n.Arcs = append(n.Arcs, pipe(d.roll(0, last), d.roll(0, last), d.roll(0, highest)))
		}
		from := d.roll(0, last)
		to := (from + d.roll(1, last)) % len(n.Supply)
		got := shown(t, carriable{"a drawn net", n, from, to, 0})
		if got.much > 0 {
			some++
		}
	}
	if some < 1000 {
		t.Errorf("in just %d nets goods can go", some)
	}
}

func carriedLists(got carried) [][]int { return [][]int{got.flow, got.cut} }

func TestP2WhatMostAnswersIsTheCallers(t *testing.T) {
	for _, c := range carriables() {
		c.net = roomyNet(c.net)
		before := wholeOf(c.net, api.Answer{})
		callersOwn(t, c.name, func() carried { return carriedOf(c) }, kept, carriedLists)
		if after := wholeOf(c.net, api.Answer{}); !reflect.DeepEqual(before, after) {
			t.Errorf("P2: %s: what was handed in has become %+v, and was %+v", c.name, after, before)
		}
	}
}

func TestP2MostDependsOnItsArgumentsAlone(t *testing.T) {
	cases := carriables()
	steady(t, len(cases), func(i int) carried { return carriedOf(cases[i]) }, kept)
}

// What is written into a net after a call counts for the next call: nothing handed in is kept.
func TestP2MostKeepsNothingHandedIn(t *testing.T) {
	n := pipes(2, pipe(0, 1, 5))
	carry(t, []carriable{{"at first", n, 0, 1, 5}})
	n.Arcs[0].Cap = 6
	carry(t, []carriable{{"with another Cap", n, 0, 1, 6}})
	n.Supply[0] = 1
	refused(t, carriable{"with a supply", n, 0, 1, 0}, api.ErrShape)
}
