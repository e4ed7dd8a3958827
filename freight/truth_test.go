package freight_test

import (
	"testing"

	"freight/api"
	"freight/freight"
)

// The tests here try all cuts and circles of many small nets, and all flows and
// potentials up to tallest and steepest, which is enough for nets so small.
// For each net just one kind of answer is accepted, and it is the true one.

const (
	smallNodes = 3
	smallArcs  = 3
	tallest    = 8 // no corner of what fits in a small net has more on an arc
	steepest   = 4 // nor do the potentials of one lie further apart
)

// dice gives the same numbers at each run.
type dice struct{ state uint32 }

func (d *dice) roll(from, to int) int {
	d.state = d.state*1664525 + 1013904223
	return from + int(d.state>>8)%(to-from+1)
}

func smallNet(d *dice) api.Net {
	n := api.Net{Supply: make([]int, smallNodes)}
	rest := 0
	for i := 0; i < smallNodes-1; i++ {
		n.Supply[i] = d.roll(-1, 1)
		rest += n.Supply[i]
	}
	n.Supply[smallNodes-1] = -rest
	if d.roll(0, 9) == 0 {
		n.Supply[0]++
	}
	for i := 0; i < smallArcs; i++ {
		a := arc(d.roll(0, smallNodes-1), d.roll(0, smallNodes-1), d.roll(0, 1), free, d.roll(-1, 1))
		if d.roll(0, 1) == 0 {
			a.Cap = d.roll(a.Low, 2)
		}
		n.Arcs = append(n.Arcs, a)
	}
	return n
}

// tuples are all lists of that length with numbers from least to most.
func tuples(length, least, most int) [][]int {
	if length == 0 {
		return [][]int{{}}
	}
	var all [][]int
	for _, shorter := range tuples(length-1, least, most) {
		for x := least; x <= most; x++ {
			all = append(all, append(append([]int{}, shorter...), x))
		}
	}
	return all
}

// fitting has all flows that fit, as far as numbers up to tallest go, by a reckoning of its own.
func fitting(n api.Net, flows [][]int) [][]int {
	var fit [][]int
	for _, flow := range flows {
		left := append([]int{}, n.Supply...)
		within := true
		for i, a := range n.Arcs {
			left[a.From] -= flow[i]
			left[a.To] += flow[i]
			within = within && flow[i] >= a.Low && (a.Cap == free || flow[i] <= a.Cap)
		}
		if within && left[0] == 0 && left[1] == 0 && left[2] == 0 {
			fit = append(fit, flow)
		}
	}
	return fit
}

func priceOf(n api.Net, flow []int) int {
	sum := 0
	for i, a := range n.Arcs {
		sum += flow[i] * a.Cost
	}
	return sum
}

func accepted(t *testing.T, n api.Net, a api.Answer) bool {
	yes, errno := freight.Accept(n, a)
	if errno != api.OK {
		t.Fatalf("Accept(%+v, %+v): error %d", n, a, errno)
	}
	return yes
}

func someCutAccepted(t *testing.T, n api.Net) bool {
	found := false
	for set := 0; set < 1<<smallNodes; set++ {
		var cut []int
		for node := 0; node < smallNodes; node++ {
			if set&(1<<node) != 0 {
				cut = append(cut, node)
			}
		}
		found = found || accepted(t, n, none(cut...))
	}
	return found
}

func someCircleAccepted(t *testing.T, n api.Net, fit [][]int) bool {
	found := false
	for length := 1; length <= smallArcs; length++ {
		for _, circle := range tuples(length, 0, smallArcs-1) {
			for _, flow := range fit {
				found = found || accepted(t, n, endless(flow, circle...))
			}
		}
	}
	return found
}

// bestAccepted has the flows for which some potentials are accepted.
func bestAccepted(t *testing.T, n api.Net, fit [][]int, rises [][]int) [][]int {
	var held [][]int
	for _, flow := range fit {
		for _, rise := range rises {
			if accepted(t, n, best(priceOf(n, flow), flow, 0, rise[0], rise[1])) {
				held = append(held, flow)
				break
			}
		}
	}
	return held
}

func leastPrice(n api.Net, fit [][]int) int {
	low := priceOf(n, fit[0])
	for _, flow := range fit {
		low = min(low, priceOf(n, flow))
	}
	return low
}

func TestP4AgainstAllSmallFlows(t *testing.T) {
	d := &dice{state: 4}
	flows := tuples(smallArcs, -1, 4)
	for i := 0; i < 300; i++ {
		n := smallNet(d)
		fits := 0
		for _, flow := range flows {
			cost, errno := freight.Cost(n, flow)
			if errno == api.OK {
				fits++
			}
			if errno == api.OK && cost != priceOf(n, flow) {
				t.Fatalf("P4: Cost(%+v, %v) = %d, want %d", n, flow, cost, priceOf(n, flow))
			}
		}
		if want := len(fitting(n, flows)); fits != want {
			t.Fatalf("P4: of %+v %d flows fit, want %d", n, fits, want)
		}
	}
}

func TestP6P7P8JustOneKindIsAccepted(t *testing.T) {
	d := &dice{state: 1}
	flows, rises := tuples(smallArcs, 0, tallest), tuples(smallNodes-1, -steepest, steepest)
	var seen [4]int
	for i := 0; i < 1500; i++ {
		n := smallNet(d)
		fit := fitting(n, flows)
		cut := someCutAccepted(t, n)
		circle := someCircleAccepted(t, n, fit)
		held := bestAccepted(t, n, fit, rises)
		switch {
		case cut != (len(fit) == 0):
			t.Fatalf("P7: of %+v %d flows fit, and that a cut is accepted is %v", n, len(fit), cut)
		case cut:
			seen[api.None]++
		case circle == (len(held) > 0):
			t.Fatalf("P6, P8: of %+v a circle is accepted: %v; flows with potentials: %v", n, circle, held)
		case circle:
			seen[api.Endless]++
		default:
			seen[api.Best]++
			justTheCheapest(t, n, fit, held)
		}
	}
	if seen[api.None] < 50 || seen[api.Best] < 50 || seen[api.Endless] < 50 {
		t.Errorf("too few nets of a kind: %v", seen)
	}
}

func justTheCheapest(t *testing.T, n api.Net, fit, held [][]int) {
	low, cheap := leastPrice(n, fit), 0
	for _, flow := range fit {
		if priceOf(n, flow) == low {
			cheap++
		}
	}
	for _, flow := range held {
		if priceOf(n, flow) != low {
			t.Fatalf("P6: of %+v the flow %v is accepted, and %d is the least cost", n, flow, low)
		}
	}
	if len(held) != cheap {
		t.Fatalf("P6: of %+v %d flows have the least cost, and %d are accepted", n, cheap, len(held))
	}
}
