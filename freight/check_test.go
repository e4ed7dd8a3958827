package freight_test

import (
	"testing"

	"freight/api"
	"freight/freight"
)

func faultyNets() []faulty {
	two := list(0, 0)
	fine := arc(0, 1, 0, 0, 0)
	return []faulty{
		{"no nodes", net(nil), api.ErrSize, 0},
		{"no nodes, an empty list", net(list()), api.ErrSize, 0},
		{"no nodes, but an arc", net(nil, fine), api.ErrSize, 0},
		{"a node too many", net(make([]int, api.MaxNodes+1)), api.ErrSize, 0},
		{"an arc too many", net(list(0), make([]api.Arc, api.MaxArcs+1)...), api.ErrSize, 0},
		{"far too many of both", net(make([]int, 5000), make([]api.Arc, 5000)...), api.ErrSize, 0},

		{"a supply above", net(list(101)), api.ErrSupply, 0},
		{"a supply below", net(list(0, -101)), api.ErrSupply, 1},
		{"the last supply", net(list(0, 0, 0, 0, 0, 0, 0, 0, 0, 101)), api.ErrSupply, 9},
		{"two supplies: the first one", net(list(0, 101, -101)), api.ErrSupply, 1},
		{"the least supply", net(list(0, least)), api.ErrSupply, 1},
		{"the greatest supply", net(list(0, 0, most)), api.ErrSupply, 2},

		{"from no node, above", net(two, arc(2, 0, 0, 0, 0)), api.ErrArc, 0},
		{"from no node, below", net(two, arc(-1, 0, 0, 0, 0)), api.ErrArc, 0},
		{"from far off", net(two, fine, arc(least, 0, 0, 0, 0)), api.ErrArc, 1},
		{"to no node, above", net(two, arc(0, 2, 0, 0, 0)), api.ErrArc, 0},
		{"to no node, below", net(two, arc(0, -1, 0, 0, 0)), api.ErrArc, 0},
		{"to far off", net(two, fine, fine, arc(0, most, 0, 0, 0)), api.ErrArc, 2},
		{"a Low below 0", net(two, arc(0, 1, -1, 3, 0)), api.ErrArc, 0},
		{"a Low below 0, unlimited", net(two, arc(0, 1, -1, free, 0)), api.ErrArc, 0},
		{"a Low above MaxCap, unlimited", net(two, arc(0, 1, 61, free, 0)), api.ErrArc, 0},
		{"a Low and a Cap above MaxCap", net(two, arc(0, 1, 61, 61, 0)), api.ErrArc, 0},
		{"a Cap below the Low", net(two, arc(0, 1, 2, 1, 0)), api.ErrArc, 0},
		{"a Cap above MaxCap", net(two, arc(0, 1, 0, 61, 0)), api.ErrArc, 0},
		{"a Cap below NoLimit", net(two, arc(0, 1, 0, -2, 0)), api.ErrArc, 0},
		{"a Low and a Cap of -2", net(two, arc(0, 1, -2, -2, 0)), api.ErrArc, 0},
		{"a Cost above", net(two, arc(0, 1, 0, 0, 51)), api.ErrArc, 0},
		{"a Cost below", net(two, arc(0, 1, 0, 0, -51)), api.ErrArc, 0},
		{"the least Cost", net(two, arc(0, 1, 0, 0, least)), api.ErrArc, 0},
		{"two arcs: the first one", net(two, fine, arc(0, 1, 0, 0, 51), arc(9, 1, 0, 0, 0)), api.ErrArc, 1},
		{"the last arc", net(list(0), append(make([]api.Arc, api.MaxArcs-1), fine)...), api.ErrArc, 23},
	}
}

// severalErrors are nets to which several errors apply.
func severalErrors() []faulty {
	wrong := make([]api.Arc, api.MaxArcs+1)
	for i := range wrong {
		wrong[i] = arc(-1, -1, -1, -2, 99)
	}
	return []faulty{
		{"size ahead of supply", net(list(101), make([]api.Arc, api.MaxArcs+1)...), api.ErrSize, 0},
		{"size ahead of arc", net(list(0), wrong...), api.ErrSize, 0},
		{"too many nodes ahead of supply", net(list(0, 0, 0, 0, 0, 0, 0, 0, 0, 0, 101)), api.ErrSize, 0},
		{"supply ahead of arc", net(list(0, 0, 101), arc(9, 0, 0, 0, 0)), api.ErrSupply, 2},
	}
}

func TestP3RefusesWhatMayNotBe(t *testing.T) {
	for _, c := range faultyNets() {
		errno, place := freight.Check(c.net)
		if errno != c.errno || place != c.place {
			t.Errorf("P3: %s: Check = %d, %d, want %d, %d", c.name, errno, place, c.errno, c.place)
		}
	}
}

func TestP1CheckNamesTheFirstError(t *testing.T) {
	for _, c := range severalErrors() {
		errno, place := freight.Check(c.net)
		if errno != c.errno || place != c.place {
			t.Errorf("P1: %s: Check = %d, %d, want %d, %d", c.name, errno, place, c.errno, c.place)
		}
	}
}

func TestP3TakesWhatMayBe(t *testing.T) {
	two := list(0, 0)
	for _, c := range []faulty{
		{name: "one node", net: net(list(0))},
		{name: "as many nodes as may be", net: net(make([]int, api.MaxNodes))},
		{name: "as many arcs as may be", net: net(list(0), make([]api.Arc, api.MaxArcs)...)},
		{name: "an ordinary net", net: row(5, 2)},
		{name: "the greatest and the least supply", net: net(list(100, -100))},
		{name: "supplies that do not add up to 0", net: net(list(100, 100))},
		{name: "from the last node to the first", net: net(two, arc(1, 0, 0, 1, 0))},
		{name: "from a node to itself", net: net(two, arc(1, 1, 0, 1, 0))},
		{name: "several arcs alike", net: net(two, arc(0, 1, 0, 1, 0), arc(0, 1, 0, 1, 0))},
		{name: "a Cap of 0", net: net(two, arc(0, 1, 0, 0, 0))},
		{name: "Low and Cap as high as may be", net: net(two, arc(0, 1, 60, 60, 0))},
		{name: "unlimited from 0", net: net(two, arc(0, 1, 0, free, 0))},
		{name: "unlimited from MaxCap", net: net(two, arc(0, 1, 60, free, 0))},
		{name: "the greatest and the least Cost", net: net(two, arc(0, 1, 0, 1, 50), arc(0, 1, 0, 1, -50))},
	} {
		errno, place := freight.Check(c.net)
		if errno != api.OK || place != 0 {
			t.Errorf("P3: %s: Check = %d, %d, want 0, 0", c.name, errno, place)
		}
	}
}
