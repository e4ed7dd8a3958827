package freight_test

import (
	"testing"

	"freight/api"
	"freight/freight"
)

type priced struct {
	name  string
	net   api.Net
	flow  []int
	cost  int
	errno api.Errno
}

func price(t *testing.T, promise string, cases []priced) {
	t.Helper()
	for _, c := range cases {
		cost, errno := freight.Cost(c.net, c.flow)
		if cost != c.cost || errno != c.errno {
			t.Errorf("%s: %s: Cost(%+v, %v) = %d, %d, want %d, %d", promise, c.name, c.net, c.flow, cost, errno, c.cost, c.errno)
		}
	}
}

func TestP4WhatAFlowCosts(t *testing.T) {
	loop := net(list(0), arc(0, 0, 1, free, -2))
	price(t, "P4", []priced{
		{"the short way", row(5, 2), list(3, 3, 0), 6, api.OK},
		{"both ways", row(5, 2), list(1, 1, 2), 10, api.OK},
		{"no node but one, no arc, nil", net(list(0)), nil, 0, api.OK},
		{"no node but one, no arc, an empty list", net(list(0)), list(), 0, api.OK},
		{"an arc to itself at its Low", loop, list(1), -2, api.OK},
		{"an arc to itself at MaxAmount", loop, list(1000000), -2000000, api.OK},
		{"at the Low and at the Cap", net(list(0, 0), arc(0, 1, 2, 5, 7), arc(1, 0, 0, 2, -3)), list(2, 2), 8, api.OK},
		{"several arcs alike", net(list(5, -5), arc(0, 1, 0, 5, 1), arc(0, 1, 0, 5, 10)), list(2, 3), 32, api.OK},
		{"an unlimited arc above MaxCap", net(list(0, 0), arc(0, 1, 0, free, 1), arc(1, 0, 0, free, 1)), list(61, 61), 122, api.OK},
		{"the greatest supplies", net(list(100, -100), arc(0, 1, 0, free, 50)), list(100), 5000, api.OK},
	})
}

func TestP4TheGreatestCost(t *testing.T) {
	arcs := make([]api.Arc, api.MaxArcs)
	flow := make([]int, api.MaxArcs)
	for i := range arcs {
		arcs[i] = arc(0, 0, 0, free, 50)
		flow[i] = api.MaxAmount
	}
	price(t, "P4", []priced{{"every arc at MaxAmount", net(list(0), arcs...), flow, 24 * 50 * 1000000, api.OK}})
}

func TestP4FlowsOfAnotherLength(t *testing.T) {
	price(t, "P4", []priced{
		{"one short", row(5, 2), list(3, 3), 0, api.ErrFlow},
		{"one more", row(5, 2), list(3, 3, 0, 0), 0, api.ErrFlow},
		{"nil", row(5, 2), nil, 0, api.ErrFlow},
		{"a number for no arc", net(list(0)), list(0), 0, api.ErrFlow},
		{"very long", row(5, 2), make([]int, 100000), 0, api.ErrFlow},
	})
}

func TestP4FlowsOutOfBounds(t *testing.T) {
	loop := net(list(0), arc(0, 0, 1, free, -2))
	limited := net(list(0), arc(0, 0, 1, 4, -2))
	price(t, "P4", []priced{
		{"above and below", row(5, 2), list(6, 6, -3), 0, api.ErrBound},
		{"above the last Cap", row(5, 2), list(0, 0, 3), 0, api.ErrBound},
		{"below 0 on the last arc", row(5, 5), list(4, 4, -1), 0, api.ErrBound},
		{"below the Low", limited, list(0), 0, api.ErrBound},
		{"above the Cap", limited, list(5), 0, api.ErrBound},
		{"below the Low, unlimited", loop, list(0), 0, api.ErrBound},
		{"NoLimit for a number", loop, list(free), 0, api.ErrBound},
		{"above MaxAmount", loop, list(1000001), 0, api.ErrBound},
		{"the greatest number", loop, list(most), 0, api.ErrBound},
		{"the least number", loop, list(least), 0, api.ErrBound},
		{"numbers that add up to nothing", row(5, 2), list(most, most, least), 0, api.ErrBound},
	})
}

func TestP4FlowsOutOfBalance(t *testing.T) {
	price(t, "P4", []priced{
		{"the middle node", row(5, 2), list(3, 2, 0), 0, api.ErrBalance},
		{"nothing goes", row(5, 2), list(0, 0, 0), 0, api.ErrBalance},
		{"the first node alone", net(list(2, -1), arc(0, 1, 0, 2, 1)), list(1), 0, api.ErrBalance},
		{"the last node alone", net(list(2, -1), arc(0, 1, 0, 2, 1)), list(2), 0, api.ErrBalance},
		{"the wrong way", net(list(-2, 2), arc(0, 1, 0, 2, 1)), list(2), 0, api.ErrBalance},
		{"a supply and no arc", net(list(1)), nil, 0, api.ErrBalance},
		{"an arc to itself gives no supply", net(list(3), arc(0, 0, 0, 5, 1)), list(3), 0, api.ErrBalance},
		{"nor takes any", net(list(-3), arc(0, 0, 0, 5, 1)), list(3), 0, api.ErrBalance},
	})
}

func TestP4HasTheErrorOfCheck(t *testing.T) {
	cases := append(faultyNets(), severalErrors()...)
	for _, c := range cases {
		price(t, "P4", []priced{
			{c.name, c.net, make([]int, len(c.net.Arcs)), 0, c.errno},
			{c.name, c.net, list(most), 0, c.errno},
		})
	}
}

func TestP1CostNamesTheFirstError(t *testing.T) {
	price(t, "P1", []priced{
		{"the length ahead of the bounds", row(5, 2), list(-1, -1), 0, api.ErrFlow},
		{"the length ahead of the balance", row(5, 2), list(0, 0, 0, 0), 0, api.ErrFlow},
		{"the bounds ahead of the balance", row(5, 2), list(3, 0, 3), 0, api.ErrBound},
		{"the last arc's bounds ahead of the first node's balance", row(5, 2), list(0, 0, -1), 0, api.ErrBound},
	})
}
