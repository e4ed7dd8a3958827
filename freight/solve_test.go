package freight_test

import (
	"reflect"
	"testing"

	"freight/api"
	"freight/freight"
)

// solvable is a net, and of which kind its answer is, and at which cost.
type solvable struct {
	name string
	net  api.Net
	kind int
	cost int
}

// solve fails unless each answer is accepted, and is of that kind and cost.
func solve(t *testing.T, cases []solvable) {
	t.Helper()
	for _, c := range cases {
		answer, errno := freight.Solve(c.net)
		if errno != api.OK || answer.Kind != c.kind || answer.Cost != c.cost {
			t.Errorf("P10: %s: Solve(%+v) = %+v, %d, want the kind %d, the cost %d", c.name, c.net, answer, errno, c.kind, c.cost)
		} else if !accepted(t, c.net, answer) {
			t.Errorf("P10: %s: Solve(%+v) = %+v, which is not accepted", c.name, c.net, answer)
		}
	}
}

// examples are those of the document.
func examples() []solvable {
	return []solvable{
		{"the short way", row(5, 2), api.Best, 6},
		{"both ways, just enough", row(1, 2), api.Best, 10},
		{"both ways, not enough", row(1, 1), api.None, 0},
		{"supplies above 0", net(list(1, 0)), api.None, 0},
		{"supplies below 0", net(list(-1, 0)), api.None, 0},
		{"a Low that can't come back", net(list(0, 0), arc(0, 1, 2, 5, 0), arc(1, 0, 0, 1, 0)), api.None, 0},
		{"a good circle", net(list(0, 0), arc(0, 1, 0, free, -3), arc(1, 0, 0, free, 2)), api.Endless, 0},
		{"a circle at no cost", net(list(0, 0), arc(0, 1, 0, free, -3), arc(1, 0, 0, free, 3)), api.Best, 0},
		{"a circle with a limit", net(list(0, 0), arc(0, 1, 0, free, -3), arc(1, 0, 0, 7, 2)), api.Best, -7},
		{"an arc to itself", net(list(0), arc(0, 0, 1, 4, -2)), api.Best, -8},
		{"an unlimited arc to itself", net(list(0), arc(0, 0, 1, free, -2)), api.Endless, 0},
		{"no arc", net(list(0)), api.Best, 0},
	}
}

func TestP10Examples(t *testing.T) { solve(t, examples()) }

func TestP10TheCheapestWay(t *testing.T) {
	solve(t, []solvable{
		{"the cheaper arc first", net(list(5, -5), arc(0, 1, 0, 3, 4), arc(0, 1, 0, 3, 1)), api.Best, 3*1 + 2*4},
		{"an arc that pays", net(list(5, -5), arc(0, 1, 0, 3, -4), arc(0, 1, 0, 3, -9)), api.Best, -3*9 - 2*4},
		{"there and back", net(list(5, -5), arc(0, 1, 0, 9, -4), arc(1, 0, 0, 3, 1)), api.Best, -8*4 + 3},
		{"there and back at a loss", net(list(5, -5), arc(0, 1, 0, 9, -4), arc(1, 0, 0, 3, 5)), api.Best, -5 * 4},
		{"round about", net(list(2, 0, -2), arc(0, 2, 0, 9, 9), arc(0, 1, 0, 9, 4), arc(1, 2, 0, 9, 4)), api.Best, 2 * 8},
		{"straight", net(list(2, 0, -2), arc(0, 2, 0, 9, 7), arc(0, 1, 0, 9, 4), arc(1, 2, 0, 9, 4)), api.Best, 2 * 7},
		{"the near ones first", net(list(3, 3, -3, -3), arc(0, 2, 0, 9, 1), arc(0, 3, 0, 9, 2), arc(1, 2, 0, 9, 2), arc(1, 3, 0, 9, 9)), api.Best, 3*2 + 3*2},
		{"from one with goods to another, and on", net(list(1, 1, -2), arc(0, 1, 0, 9, -3), arc(1, 2, 0, 9, 1), arc(0, 2, 0, 9, 1)), api.Best, -3 + 1 + 1},
		{"past one that wants some", net(list(2, -1, -1), arc(0, 1, 0, 9, 1), arc(1, 2, 0, 9, 1), arc(0, 2, 0, 9, 3)), api.Best, 3},
	})
}

// What goes the cheapest way first must make room again for what comes later.
func TestP10WhatWasSentIsTakenBack(t *testing.T) {
	bridge := []api.Arc{arc(0, 1, 0, 1, 1), arc(0, 2, 0, 1, 5), arc(1, 2, 0, 1, 1), arc(1, 3, 0, 1, 5), arc(2, 3, 0, 1, 1)}
	must := append([]api.Arc{}, bridge...)
	must[2].Low = 1
	solve(t, []solvable{
		{"one over the bridge", net(list(1, 0, 0, -1), bridge...), api.Best, 3},
		{"two beside it", net(list(2, 0, 0, -2), bridge...), api.Best, 12},
		{"three", net(list(3, 0, 0, -3), bridge...), api.None, 0},
		{"one, and the bridge must be gone over", net(list(1, 0, 0, -1), must...), api.Best, 3},
		{"two, and the bridge must be gone over", net(list(2, 0, 0, -2), must...), api.None, 0},
	})
}

func TestP10Lows(t *testing.T) {
	solve(t, []solvable{
		{"a dear Low", net(list(5, -5), arc(0, 1, 2, 9, 9), arc(0, 1, 0, 9, 1)), api.Best, 2*9 + 3*1},
		{"a dear Low of an unlimited arc", net(list(5, -5), arc(0, 1, 2, free, 9), arc(0, 1, 0, free, 1)), api.Best, 2*9 + 3*1},
		{"a Low that must come back", net(list(0, 0), arc(0, 1, 3, 9, 2), arc(1, 0, 0, free, 1), arc(1, 0, 0, 2, -1)), api.Best, 3*2 - 2 + 1},
		{"a Low that is the Cap", net(list(4, -4), arc(0, 1, 4, 4, 50), arc(0, 1, 0, 9, 0)), api.Best, 200},
		{"more than wanted", net(list(3, -3), arc(0, 1, 4, 4, 50), arc(0, 1, 0, 9, 0)), api.None, 0},
		{"an unlimited arc to itself, not at its own cost", net(list(0), arc(0, 0, 3, free, 2)), api.Best, 6},
		{"one at no cost", net(list(0), arc(0, 0, 3, free, 0)), api.Best, 0},
	})
}

// Circles that cost less than 0, but are not good.
func TestP10CirclesWithALimit(t *testing.T) {
	solve(t, []solvable{
		{"one arc is limited", net(list(0, 0, 0), arc(0, 1, 0, free, -9), arc(1, 2, 0, 4, -9), arc(2, 0, 0, free, 1)), api.Best, -4 * 17},
		{"one arc takes nothing", net(list(0, 0, 0), arc(0, 1, 0, free, -9), arc(1, 2, 0, 0, -9), arc(2, 0, 0, free, 1)), api.Best, 0},
		{"two unlimited arcs side by side", net(list(7, -7), arc(0, 1, 0, free, 5), arc(0, 1, 0, free, 2)), api.Best, 14},
		{"and the other way round", net(list(7, -7), arc(0, 1, 0, free, 2), arc(0, 1, 0, free, 5)), api.Best, 14},
		{"two that share an arc", net(list(0, 0), arc(0, 1, 0, 5, -9), arc(1, 0, 0, 3, 1), arc(1, 0, 0, free, 2)), api.Best, -3*8 - 2*7},
		{"far from the goods", net(list(1, -1, 0, 0), arc(0, 1, 0, 1, 5), arc(2, 3, 0, free, -1), arc(3, 2, 0, 6, 0)), api.Best, 5 - 6},
		{"a circle at no cost beside it", net(list(0, 0), arc(0, 1, 0, free, -2), arc(1, 0, 0, free, 2), arc(1, 0, 0, 6, 1)), api.Best, -6},
	})
}

func TestP10WhatIsEndlessIsNothingElse(t *testing.T) {
	far := list(1, -1, 0, 0)
	solve(t, []solvable{
		{"far from the goods", net(far, arc(0, 1, 0, 1, 5), arc(2, 3, 0, free, -1), arc(3, 2, 0, free, 0)), api.Endless, 0},
		{"but no flow fits", net(far, arc(0, 1, 0, 0, 5), arc(2, 3, 0, free, -1), arc(3, 2, 0, free, 0)), api.None, 0},
		{"supplies that do not cancel", net(list(1, 0), arc(0, 0, 0, free, -2)), api.None, 0},
		{"a Low too high beside it", net(list(0, 0), arc(0, 0, 0, free, -2), arc(0, 1, 1, 1, 0)), api.None, 0},
		{"on the way of the goods", net(list(1, 0, -1), arc(0, 1, 0, 9, 9), arc(1, 2, 0, free, -5), arc(2, 1, 0, free, 4)), api.Endless, 0},
		{"the dearer arc is no matter", net(list(0, 0), arc(0, 1, 0, free, 50), arc(0, 1, 0, free, -3), arc(1, 0, 0, free, 50), arc(1, 0, 0, free, 2)), api.Endless, 0},
		{"beside a circle at no cost", net(list(0, 0, 0), arc(0, 1, 0, free, 1), arc(1, 0, 0, free, -1), arc(1, 2, 0, free, 1), arc(2, 1, 0, free, -2)), api.Endless, 0},
		{"two circles that share a node", net(list(0, 0, 0), arc(1, 0, 0, free, 9), arc(0, 1, 0, free, -8), arc(1, 2, 0, free, -9), arc(2, 1, 0, free, 8)), api.Endless, 0},
		{"with a tail", net(list(0, 0, 0, 0), arc(1, 0, 0, free, -50), arc(2, 1, 0, free, -50), arc(2, 3, 0, free, 1), arc(3, 2, 0, free, -2)), api.Endless, 0},
		{"at its Lows", net(list(0, 0), arc(0, 1, 60, free, -50), arc(1, 0, 60, free, 49)), api.Endless, 0},
	})
}

// around goes once through all nodes, each arc unlimited and with one of two costs.
func around(first, others int) api.Net {
	n := net(make([]int, api.MaxNodes))
	for node := range n.Supply {
		n.Arcs = append(n.Arcs, arc(node, (node+1)%api.MaxNodes, 0, free, others))
	}
	n.Arcs[0].Cost = first
	return n
}

// back has the arcs of the net turned round, and their numbers, too.
func back(n api.Net) api.Net {
	turned := api.Net{Supply: n.Supply}
	for i := len(n.Arcs) - 1; i >= 0; i-- {
		a := n.Arcs[i]
		turned.Arcs = append(turned.Arcs, arc(a.To, a.From, a.Low, a.Cap, a.Cost))
	}
	return turned
}

// A circle through all nodes, in whichever order its arcs are numbered.
func TestP10TheLongestCircle(t *testing.T) {
	for _, c := range []solvable{
		{"just good", around(-46, 5), api.Endless, 0},
		{"just not", around(-45, 5), api.Best, 0},
		{"as good as may be", around(-50, -50), api.Endless, 0},
		{"as dear as may be", around(50, 50), api.Best, 0},
		{"the other sign, just good", around(44, -5), api.Endless, 0},
		{"the other sign, just not", around(45, -5), api.Best, 0},
	} {
		turned := c
		turned.name, turned.net = c.name+", turned round", back(c.net)
		solve(t, []solvable{c, turned})
	}
}

func TestP10AsMuchAsMayBe(t *testing.T) {
	high := list(100, 100, 100, 100, 100, -100, -100, -100, -100, -100)
	long := net(list(100, 0, 0, 0, 0, 0, 0, 0, 0, -100))
	for node := 0; node < api.MaxNodes-1; node++ {
		long.Arcs = append(long.Arcs, arc(node, node+1, 0, free, 50))
	}
	paying := net(list(100, 0, 0, 0, 0, 0, 0, 0, 0, -100), append([]api.Arc{}, long.Arcs...)...)
	for i := range paying.Arcs {
		paying.Arcs[i].Cost = -50
	}
	// All goods go through the place from 4 to 5; 60 more go around at each Low.
	through := 100 * (1 + 2 + 3 + 4 + 5 + 4 + 3 + 2 + 1)
	solve(t, []solvable{
		{"the longest way", long, api.Best, 9 * 100 * 50},
		{"the longest way, which pays", paying, api.Best, -9 * 100 * 50},
		{"all goods through one place", ring(high, 0, free), api.Best, through * 50},
		{"the place too narrow", ring(high, 0, 60), api.None, 0},
		{"no goods", ring(make([]int, 10), 0, 60), api.Best, 0},
		{"the highest Lows", ring(make([]int, 10), 60, free), api.Best, 10 * 180 * 50},
		{"all arcs to one node", ring(list(0), 60, 60), api.Best, 24 * 60 * 50},
		{"all nodes have goods", net(list(100, 100, 100, 100, 100, 100, 100, 100, 100, 100)), api.None, 0},
		{"all arcs pay", net(list(0, 0), twelveEachWay(-50, 60)...), api.Best, -24 * 60 * 50},
		{"and are unlimited", net(list(0, 0), twelveEachWay(-50, free)...), api.Endless, 0},
	})
}

func twelveEachWay(cost, limit int) []api.Arc {
	var arcs []api.Arc
	for i := 0; i < api.MaxArcs; i++ {
		arcs = append(arcs, arc(i%2, 1-i%2, 0, limit, cost))
	}
	return arcs
}

func TestP10HasTheErrorOfCheck(t *testing.T) {
	for _, c := range append(faultyNets(), severalErrors()...) {
		answer, errno := freight.Solve(c.net)
		if errno != c.errno || !reflect.DeepEqual(answer, api.Answer{}) {
			t.Errorf("P10: %s: Solve = %+v, %d, want nothing, %d", c.name, answer, errno, c.errno)
		}
	}
}

// goodCircle goes over all lists of different arcs of a small net.
func goodCircle(n api.Net, circles [][]int) bool {
	for _, circle := range circles {
		cost, closed := 0, true
		for i, number := range circle {
			a, next := n.Arcs[number], n.Arcs[circle[(i+1)%len(circle)]]
			closed = closed && a.Cap == free && a.To == next.From
			cost += a.Cost
		}
		if closed && cost < 0 {
			return true
		}
	}
	return false
}

// smallCircles are lists of arcs, none twice.
func smallCircles() [][]int {
	var circles [][]int
	for length := 1; length <= smallArcs; length++ {
		for _, l := range tuples(length, 0, smallArcs-1) {
			var times [smallArcs]int
			for _, number := range l {
				times[number]++
			}
			if max(times[0], times[1], times[2]) == 1 {
				circles = append(circles, l)
			}
		}
	}
	return circles
}

// What is to come is reckoned here from the words of the document alone.
func TestP10AgainstAllSmallFlows(t *testing.T) {
	d := &dice{state: 10}
	flows, circles := tuples(smallArcs, 0, tallest), smallCircles()
	var seen [4]int
	for i := 0; i < 8000 && !t.Failed(); i++ {
		c := solvable{"a small net", smallNet(d), api.None, 0}
		fit := fitting(c.net, flows)
		if len(fit) > 0 {
			c.kind, c.cost = api.Best, leastPrice(c.net, fit)
		}
		if len(fit) > 0 && goodCircle(c.net, circles) {
			c.kind, c.cost = api.Endless, 0
		}
		seen[c.kind]++
		solve(t, []solvable{c})
	}
	if seen[api.None] < 300 || seen[api.Best] < 300 || seen[api.Endless] < 300 {
		t.Errorf("too few nets of a kind: %v", seen)
	}
}

// steeper nets have costs that seldom make a circle good, and some that never do.
func steeper(n api.Net, d *dice) api.Net {
	heights := make([]int, len(n.Supply))
	for node := range heights {
		heights[node] = d.roll(0, 40)
	}
	for i := range n.Arcs {
		a := &n.Arcs[i]
		a.Cost = d.roll(0, 10) + heights[a.To] - heights[a.From]
		if a.Cap != free {
			a.Cost = d.roll(-50, 50)
		}
	}
	return n
}

// Any answer that is accepted is its own proof; so there is no need to know which kind is to come.
func TestP10DrawnNets(t *testing.T) {
	d := &dice{state: 100}
	var seen [4]int
	for i := 0; i < 5000 && !t.Failed(); i++ {
		n, shifted := drawnNet(d)
		if d.roll(0, 1) == 0 {
			n = steeper(n, d)
		}
		answer, errno := freight.Solve(n)
		if errno != api.OK || !accepted(t, n, answer) {
			t.Errorf("P10: Solve(%+v) = %+v, %d, which is not accepted", n, answer, errno)
			return
		}
		if !shifted && answer.Kind == api.None {
			t.Errorf("P10: Solve(%+v) = %+v, and a flow fits", n, answer)
		}
		seen[answer.Kind]++
	}
	if seen[api.None] < 500 || seen[api.Best] < 500 || seen[api.Endless] < 500 {
		t.Errorf("too few nets of a kind: %v", seen)
	}
}

// copied has lists of its own, and a list without entries is nil.
func copied(a api.Answer) api.Answer {
	return api.Answer{
		Kind:       a.Kind,
		Cost:       a.Cost,
		Flow:       append([]int(nil), a.Flow...),
		Potentials: append([]int(nil), a.Potentials...),
		Cut:        append([]int(nil), a.Cut...),
		Circle:     append([]int(nil), a.Circle...),
	}
}

func solvedOf(t *testing.T, n api.Net) api.Answer {
	t.Helper()
	answer, errno := freight.Solve(n)
	if errno != api.OK {
		t.Errorf("P2: Solve(%+v): error %d", n, errno)
	}
	return answer
}

func answerLists(a api.Answer) [][]int { return [][]int{a.Flow, a.Potentials, a.Cut, a.Circle} }

func TestP2WhatSolveAnswersIsTheCallers(t *testing.T) {
	for _, c := range examples() {
		n := roomyNet(c.net)
		before := wholeOf(n, api.Answer{})
		callersOwn(t, c.name, func() api.Answer { return solvedOf(t, n) }, copied, answerLists)
		if after := wholeOf(n, api.Answer{}); !reflect.DeepEqual(before, after) {
			t.Errorf("P2: %s: what was handed in has become %+v, and was %+v", c.name, after, before)
		}
	}
}

func TestP2SolveDependsOnTheNetAlone(t *testing.T) {
	cases := examples()
	steady(t, len(cases), func(i int) api.Answer { return solvedOf(t, cases[i].net) }, copied)
}

// What is written into a net after a call counts for the next call: nothing handed in is kept.
func TestP2SolveKeepsNothingHandedIn(t *testing.T) {
	n := row(5, 2)
	answer := solvedOf(t, n)
	n.Supply[0], n.Arcs[0] = 0, arc(0, 0, 0, 0, 50)
	if !accepted(t, row(5, 2), answer) {
		t.Errorf("P2: the answer has become %+v", answer)
	}
	n.Supply[0], n.Arcs[0] = 3, arc(0, 1, 0, 1, 1)
	solve(t, []solvable{{"P2: with another Cap", n, api.Best, 10}})
}
