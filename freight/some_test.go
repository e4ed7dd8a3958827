package freight_test

import (
	"reflect"
	"testing"

	"freight/api"
	"freight/freight"
)

// fittable is a net, and whether a flow fits.
type fittable struct {
	name string
	net  api.Net
	fits bool
}

// grounded tells whether Some has answered with a flow that fits, and fails if it
// has given no grounds, or two.
func grounded(t *testing.T, name string, n api.Net) bool {
	t.Helper()
	flow, cut, errno := freight.Some(n)
	if errno != api.OK {
		t.Errorf("%s: Some(%+v): error %d", name, n, errno)
		return false
	}
	if len(cut) == 0 {
		_, costErrno := freight.Cost(n, flow)
		if costErrno != api.OK {
			t.Errorf("%s: Some(%+v): the flow %v has the error %d", name, n, flow, costErrno)
		}
		return true
	}
	if len(flow) != 0 {
		t.Errorf("%s: Some(%+v): both a flow %v and a cut %v", name, n, flow, cut)
	}
	if !accepted(t, n, none(cut...)) {
		t.Errorf("%s: Some(%+v): the cut %v is not violated", name, n, cut)
	}
	return false
}

func ground(t *testing.T, cases []fittable) {
	t.Helper()
	for _, c := range cases {
		if fits := grounded(t, c.name, c.net); fits != c.fits {
			t.Errorf("P9: %s: that a flow fits %+v is %v, want %v", c.name, c.net, fits, c.fits)
		}
	}
}

func fittables() []fittable {
	return []fittable{
		{"the short way", row(5, 2), true},
		{"both ways, just enough", row(1, 2), true},
		{"both ways, not enough", row(1, 1), false},
		{"the middle arc too narrow", net(list(3, 0, -3), arc(0, 1, 0, 5, 1), arc(1, 2, 0, 2, 1)), false},
		{"against the arc", net(list(-1, 1), arc(0, 1, 0, 5, 0)), false},
		{"a supply and no arc", net(list(1)), false},
		{"a want and no arc", net(list(-1)), false},
		{"supplies that add up to more than 0", net(list(1, 0), arc(0, 1, 0, free, 0), arc(1, 0, 0, free, 0)), false},
		{"supplies that add up to less than 0", net(list(-1, 0), arc(0, 1, 0, free, 0), arc(1, 0, 0, free, 0)), false},
		{"supplies that cancel, and no arc", net(list(1, -1)), false},
		{"a part that no arc leaves", net(list(1, -1, 1, -1), arc(0, 1, 0, 5, 0)), false},
		{"two parts, each for itself", net(list(1, -1, 1, -1), arc(0, 1, 0, 5, 0), arc(2, 3, 0, 5, 0)), true},
		{"several arcs alike", net(list(7, -7), arc(0, 1, 0, 3, 0), arc(0, 1, 0, 3, 0), arc(0, 1, 0, 1, 0)), true},
		{"several arcs alike, one short", net(list(8, -8), arc(0, 1, 0, 3, 0), arc(0, 1, 0, 3, 0), arc(0, 1, 0, 1, 0)), false},
		{"several that want", net(list(6, -1, -2, -3), arc(0, 1, 0, 6, 0), arc(1, 2, 0, 5, 0), arc(2, 3, 0, 3, 0)), true},
		{"the last one too far", net(list(6, -1, -2, -3), arc(0, 1, 0, 6, 0), arc(1, 2, 0, 5, 0), arc(2, 3, 0, 2, 0)), false},
	}
}

func TestP9AFlowOrACut(t *testing.T) { ground(t, fittables()) }

func TestP9Lows(t *testing.T) {
	ground(t, []fittable{
		{"a Low above what may go", net(list(1, -1), arc(0, 1, 2, 5, 0)), false},
		{"a Low that comes back", net(list(1, -1), arc(0, 1, 2, 5, 0), arc(1, 0, 0, 1, 0)), true},
		{"more comes back than can", net(list(0, 0), arc(0, 1, 2, 5, 0), arc(1, 0, 0, 1, 0)), false},
		{"two Lows that cancel", net(list(0, 0), arc(0, 1, 3, 3, 0), arc(1, 0, 3, 3, 0)), true},
		{"two Lows that do not", net(list(0, 0), arc(0, 1, 3, 3, 0), arc(1, 0, 4, 4, 0)), false},
		{"an unlimited arc with too much", net(list(1, -1), arc(0, 1, 0, 5, 0), arc(1, 0, 5, free, 0)), false},
		{"an unlimited arc with just enough", net(list(1, -1), arc(0, 1, 0, 6, 0), arc(1, 0, 5, free, 0)), true},
		{"a Low in a part of its own", net(list(1, -1, 0, 0), arc(0, 1, 0, 1, 0), arc(2, 3, 1, 1, 0)), false},
		{"a Low by way of a third", net(list(0, 0, 0), arc(0, 1, 4, 4, 0), arc(1, 2, 0, 4, 0), arc(2, 0, 0, 4, 0)), true},
		{"what a Low brings is less than is wanted", net(list(5, -5), arc(0, 1, 2, 5, 0)), true},
	})
}

func TestP9ArcsToThemselves(t *testing.T) {
	ground(t, []fittable{
		{"at its Low", net(list(0), arc(0, 0, 1, 4, -2)), true},
		{"unlimited", net(list(0), arc(0, 0, 60, free, 0)), true},
		{"no supply comes of it", net(list(3), arc(0, 0, 0, 5, 0)), false},
		{"nor a want", net(list(-3), arc(0, 0, 0, free, 0)), false},
		{"on the way", net(list(2, 0, -2), arc(1, 1, 2, 2, 0), arc(0, 1, 0, 2, 0), arc(1, 2, 0, 2, 0)), true},
		{"no way round", net(list(2, 0, -2), arc(1, 1, 2, 2, 0), arc(0, 1, 0, 2, 0), arc(1, 1, 0, free, 0)), false},
	})
}

// What was sent one way at first must be taken back in one order of the arcs or the other.
func TestP9WhatWasSentIsTakenBack(t *testing.T) {
	to := [][]api.Arc{
		{arc(0, 2, 0, 1, 0), arc(0, 3, 0, 1, 0), arc(1, 2, 0, 1, 0)},
		{arc(0, 3, 0, 1, 0), arc(0, 2, 0, 1, 0), arc(1, 3, 0, 1, 0)},
		{arc(1, 2, 0, 1, 0), arc(1, 3, 0, 1, 0), arc(0, 2, 0, 1, 0)},
		{arc(1, 3, 0, 1, 0), arc(1, 2, 0, 1, 0), arc(0, 3, 0, 1, 0)},
	}
	for _, arcs := range to {
		ground(t, []fittable{
			{"each has one", net(list(1, 1, -1, -1), arcs...), true},
			{"both to the first", net(list(1, 1, -2, 0), arcs...), fromBoth(arcs, 2)},
			{"both to the second", net(list(1, 1, 0, -2), arcs...), fromBoth(arcs, 3)},
		})
	}
}

// fromBoth tells whether an arc goes to the node from 0, and one from 1.
func fromBoth(arcs []api.Arc, node int) bool {
	var from [2]bool
	for _, a := range arcs {
		if a.To == node {
			from[a.From] = true
		}
	}
	return from[0] && from[1]
}

// ring goes through all nodes, with as many arcs as may be.
func ring(supply []int, low, limit int) api.Net {
	n := net(supply)
	for i := 0; i < api.MaxArcs; i++ {
		from := i % len(supply)
		n.Arcs = append(n.Arcs, arc(from, (from+1)%len(supply), low, limit, 50))
	}
	return n
}

func TestP9AsMuchAsMayBe(t *testing.T) {
	high := list(100, 100, 100, 100, 100, -100, -100, -100, -100, -100)
	// Two arcs a place, and a third one at the first four.
	ground(t, []fittable{
		{"no goods", ring(make([]int, 10), 0, 0), true},
		{"the highest Lows, unlimited", ring(make([]int, 10), 60, free), true},
		{"the highest Lows, and no more", ring(make([]int, 10), 60, 60), false},
		{"all goods through one place", ring(high, 0, free), true},
		{"and the highest Lows", ring(high, 60, free), true},
		{"the place too narrow", ring(high, 0, 60), false},
		{"no nodes but one, all arcs to itself", ring(list(0), 60, 60), true},
		{"and a supply", ring(list(100), 0, free), false},
		{"one sends, one wants", net(list(100, 0, 0, -100), arc(0, 1, 0, free, 0), arc(1, 2, 0, free, 0), arc(2, 3, 0, free, 0)), true},
		{"60 is too little", net(list(100, 0, 0, -100), arc(0, 1, 0, free, 0), arc(1, 2, 0, 60, 0), arc(2, 3, 0, free, 0)), false},
		{"60 and 39, too", net(list(100, -100), arc(0, 1, 0, 60, 0), arc(0, 1, 0, 39, 0)), false},
		{"60 and 40 is enough", net(list(100, -100), arc(0, 1, 0, 60, 0), arc(0, 1, 0, 40, 0)), true},
		{"all nodes have goods", net(list(100, 100, 100, 100, 100, 100, 100, 100, 100, 100)), false},
		{"all nodes want some", net(list(-100, -100, -100, -100, -100, -100, -100, -100, -100, -100)), false},
	})
}

func TestP9NoArcAndNoSupply(t *testing.T) {
	for _, nodes := range list(1, 2, api.MaxNodes) {
		flow, cut, errno := freight.Some(net(make([]int, nodes)))
		if len(flow) != 0 || len(cut) != 0 || errno != api.OK {
			t.Errorf("P9: %d nodes, no arc: Some = %v, %v, %d, want neither flow nor cut", nodes, flow, cut, errno)
		}
	}
}

func TestP9HasTheErrorOfCheck(t *testing.T) {
	for _, c := range append(faultyNets(), severalErrors()...) {
		flow, cut, errno := freight.Some(c.net)
		if len(flow) != 0 || len(cut) != 0 || errno != c.errno {
			t.Errorf("P9: %s: Some = %v, %v, %d, want no flow, no cut, %d", c.name, flow, cut, errno, c.errno)
		}
	}
}

func TestP9AgainstAllSmallFlows(t *testing.T) {
	d := &dice{state: 9}
	flows := tuples(smallArcs, 0, tallest)
	var seen [2]int
	for i := 0; i < 3000; i++ {
		n := smallNet(d)
		fits := len(fitting(n, flows)) > 0
		ground(t, []fittable{{"a small net", n, fits}})
		if fits {
			seen[1]++
		} else {
			seen[0]++
		}
	}
	if seen[0] < 500 || seen[1] < 500 {
		t.Errorf("too few nets of a kind: %v", seen)
	}
}

// drawnNet has a flow that fits, unless its supplies are then shifted.
func drawnNet(d *dice) (api.Net, bool) {
	n := api.Net{Supply: make([]int, d.roll(2, api.MaxNodes))}
	last := len(n.Supply) - 1
	shifted := d.roll(0, 1) == 0
	for i := d.roll(0, api.MaxArcs); i > 0; i-- {
		a := arc(d.roll(0, last), d.roll(0, last), d.roll(0, 5), free, d.roll(-50, 50))
		amount := a.Low + d.roll(0, 4)
		if d.roll(0, 4) > 0 {
			a.Cap = amount + d.roll(0, 2)
		}
		n.Supply[a.From] += amount
		n.Supply[a.To] -= amount
		n.Arcs = append(n.Arcs, a)
	}
	if shifted {
		n.Supply[d.roll(0, last)]++
		n.Supply[d.roll(0, last)]--
	}
	return n, shifted
}

// Either answer is its own proof; so there is no need to know which one is to come.
func TestP9DrawnNets(t *testing.T) {
	d := &dice{state: 90}
	cuts := 0
	for i := 0; i < 5000; i++ {
		n, shifted := drawnNet(d)
		fits := grounded(t, "P9: a drawn net", n)
		if !shifted && !fits {
			t.Errorf("P9: Some(%+v) tells a cut, and a flow fits", n)
		}
		if !fits {
			cuts++
		}
		if t.Failed() {
			return
		}
	}
	if cuts < 500 {
		t.Errorf("just %d cuts", cuts)
	}
}

func someOf(n api.Net) carried {
	flow, cut, errno := freight.Some(n)
	return carried{flow: flow, cut: cut, errno: errno}
}

func TestP2WhatSomeAnswersIsTheCallers(t *testing.T) {
	for _, c := range fittables() {
		n := roomyNet(c.net)
		before := wholeOf(n, api.Answer{})
		callersOwn(t, c.name, func() carried { return someOf(n) }, kept, carriedLists)
		if after := wholeOf(n, api.Answer{}); !reflect.DeepEqual(before, after) {
			t.Errorf("P2: %s: what was handed in has become %+v, and was %+v", c.name, after, before)
		}
	}
}

func TestP2SomeDependsOnTheNetAlone(t *testing.T) {
	cases := fittables()
	steady(t, len(cases), func(i int) carried { return someOf(cases[i].net) }, kept)
}
