package freight_test

import (
	"testing"

	"freight/api"
	"freight/freight"
)

func TestP5HasTheErrorOfCheck(t *testing.T) {
	cases := append(faultyNets(), severalErrors()...)
	for _, c := range cases {
		for _, a := range []api.Answer{{}, best(0, nil, 0), none(0), endless(list(0), 0)} {
			accepted, errno := freight.Accept(c.net, a)
			if accepted || errno != c.errno {
				t.Errorf("P5: %s: Accept = %v, %d, want false, %d", c.name, accepted, errno, c.errno)
			}
		}
	}
}

func TestP5AcceptsNoOtherKind(t *testing.T) {
	loop := net(list(0), arc(0, 0, 0, free, -1))
	for _, kind := range []int{0, 4, -1, -2, -3, least, most} {
		b, n, e := best(0, nil, 0), none(0), endless(list(0), 0)
		b.Kind, n.Kind, e.Kind = kind, kind, kind
		judge(t, []judged{
			{"P5: as if Best", net(list(0)), b, false},
			{"P5: as if None", net(list(1)), n, false},
			{"P5: as if Endless", loop, e, false},
		})
	}
}

// The kind decides which grounds are looked at, and no others will do.
func TestP5GroundsOfAnotherKind(t *testing.T) {
	b, n, e := best(0, nil, 0), none(0), endless(list(0), 0)
	b.Kind, n.Kind, e.Kind = api.None, api.Endless, api.Best
	judge(t, []judged{
		{"P5: Best's grounds for None", net(list(0)), b, false},
		{"P5: None's grounds for Endless", net(list(1)), n, false},
		{"P5: Endless's grounds for Best", net(list(0), arc(0, 0, 0, free, -1)), e, false},
	})
}

func TestP6Flow(t *testing.T) {
	way := net(list(5, -5), arc(0, 1, 2, 9, 1))
	judge(t, []judged{
		{"P6: example", row(5, 2), best(6, list(3, 3, 0), 0, 1, 2), true},
		{"P6: example with a narrow arc", row(1, 2), best(10, list(1, 1, 2), 0, 3, 4), true},
		{"P6: a dearer flow", row(5, 2), best(10, list(1, 1, 2), 0, 1, 2), false},
		{"P6: out of balance", row(5, 2), best(5, list(3, 2, 0), 0, 1, 2), false},
		{"P6: out of bounds", row(5, 2), best(0, list(6, 6, -3), 0, 1, 2), false},
		{"P6: a number short", row(5, 2), best(6, list(3, 3), 0, 1, 2), false},
		{"P6: a number more", row(5, 2), best(6, list(3, 3, 0, 0), 0, 1, 2), false},
		{"P6: no flow", row(5, 2), best(0, nil, 0, 1, 2), false},
		{"P6: no arc", net(list(0)), best(0, nil, 0), true},
		{"P6: no arc, an empty flow", net(list(0)), best(0, list(), 0), true},
		{"P6: no arc, but a number", net(list(0)), best(0, list(0), 0), false},
		{"P6: no arc, but a supply", net(list(1)), best(0, nil, 0), false},
		{"P6: between the bounds at the drift 0", way, best(5, list(5), 0, 1), true},
		{"P6: not at the Low, at a drift above 0", way, best(5, list(5), 1, 1), false},
		{"P6: not at the Cap, at a drift below 0", way, best(5, list(5), -1, 1), false},
	})
}

func TestP6Cost(t *testing.T) {
	judge(t, []judged{
		{"P6: too low", row(5, 2), best(5, list(3, 3, 0), 0, 1, 2), false},
		{"P6: too high", row(5, 2), best(7, list(3, 3, 0), 0, 1, 2), false},
		{"P6: none", row(5, 2), best(0, list(3, 3, 0), 0, 1, 2), false},
		{"P6: the least number", row(5, 2), best(least, list(3, 3, 0), 0, 1, 2), false},
		{"P6: below 0", net(list(0), arc(0, 0, 1, 4, -2)), best(-8, list(4), 0), true},
		{"P6: the wrong sign", net(list(0), arc(0, 0, 1, 4, -2)), best(8, list(4), 0), false},
	})
}

func TestP6Potentials(t *testing.T) {
	n, flow := row(5, 2), list(3, 3, 0)
	judge(t, []judged{
		{"P6: all of them shifted", n, best(6, flow, 7, 8, 9), true},
		{"P6: up to MaxPotential", n, best(6, flow, 999998, 999999, 1000000), true},
		{"P6: above MaxPotential", n, best(6, flow, 999999, 1000000, 1000001), false},
		{"P6: down to -MaxPotential", n, best(6, flow, -1000000, -999999, -999998), true},
		{"P6: below -MaxPotential", n, best(6, flow, -1000001, -1000000, -999999), false},
		{"P6: the edges far apart", net(list(0, 0), arc(0, 1, 1, 1, 0), arc(1, 0, 1, 1, 0)), best(0, list(1, 1), 1000000, -1000000), true},
		{"P6: one below, without an arc", net(list(0)), best(0, nil, -1000001), false},
		{"P6: one above, without an arc", net(list(0)), best(0, nil, 1000001), false},
		{"P6: numbers that wrap around", n, best(6, flow, most, least, most), false},
		{"P6: all 0", n, best(6, flow, 0, 0, 0), false},
		{"P6: one short", n, best(6, flow, 0, 1), false},
		{"P6: one more", n, best(6, flow, 0, 1, 2, 3), false},
		{"P6: none", n, best(6, flow), false},
		{"P6: none, without an arc", net(list(0)), best(0, nil), false},
		{"P6: the signs turned round", n, best(6, flow, 0, -1, -2), false},
	})
}

func TestP6Drifts(t *testing.T) {
	seven := net(list(0, 0), arc(0, 1, 0, free, -3), arc(1, 0, 0, 7, 2))
	even := net(list(0, 0), arc(0, 1, 0, free, -3), arc(1, 0, 0, free, 3))
	judge(t, []judged{
		{"P6: at the Cap where the drift is below 0", seven, best(-7, list(7, 7), 0, -3), true},
		{"P6: not at the Cap where the drift is below 0", seven, best(0, list(0, 0), 0, -3), false},
		{"P6: one below the Cap", seven, best(-6, list(6, 6), 0, -3), false},
		{"P6: at the Low where the drift is above 0", row(5, 2), best(6, list(3, 3, 0), 0, 1, 2), true},
		{"P6: the last arc's drift below 0", row(5, 2), best(6, list(3, 3, 0), 0, 1, 5), false},
		{"P6: the last arc's drift 0, another's not", row(5, 2), best(6, list(3, 3, 0), 0, 1, 4), false},
		{"P6: a drift of -1 on an unlimited arc", even, best(0, list(0, 0), 1, -1), false},
		{"P6: a drift of -1 on an unlimited arc at its Low", net(list(0, 0), arc(0, 1, 0, free, -1)), best(0, list(0), 0, 0), false},
		{"P6: drifts of 0 on unlimited arcs", even, best(0, list(0, 0), 0, -3), true},
		{"P6: the same, with more going round", even, best(0, list(9, 9), 0, -3), true},
		{"P6: an arc to itself, its drift is its Cost", net(list(0), arc(0, 0, 1, 4, 2)), best(2, list(1), 5), true},
		{"P6: not at its Low", net(list(0), arc(0, 0, 1, 4, 2)), best(4, list(2), 5), false},
		{"P6: below 0 and unlimited", net(list(0), arc(0, 0, 1, free, -2)), best(-2, list(1), 0), false},
		{"P6: below 0 and unlimited at MaxAmount", net(list(0), arc(0, 0, 1, free, -2)), best(-2000000, list(1000000), 0), false},
	})
}

func TestP6OtherGrounds(t *testing.T) {
	cut, circle := best(0, nil, 0), best(0, nil, 0)
	cut.Cut = list(0)
	circle.Circle = list(0)
	empty := best(0, nil, 0)
	empty.Cut = list()
	empty.Circle = list()
	judge(t, []judged{
		{"P6: with a cut", net(list(0)), cut, false},
		{"P6: with a circle", net(list(0)), circle, false},
		{"P6: with lists without entries", net(list(0)), empty, true},
	})
}

func TestP7Cut(t *testing.T) {
	n := row(1, 1)
	judge(t, []judged{
		{"P7: example", n, none(0), true},
		{"P7: its other side", n, none(1, 2), true},
		{"P7: not violated, with the middle", n, none(0, 1), false},
		{"P7: not violated, the end", n, none(2), false},
		{"P7: not violated, all nodes", n, none(0, 1, 2), false},
		{"P7: just enough", row(1, 2), none(0), false},
		{"P7: no node", n, none(), false},
		{"P7: no node, an empty list", n, api.Answer{Kind: api.None, Cut: list()}, false},
		{"P7: a node twice", n, none(0, 0), false},
		{"P7: falling", n, none(2, 1), false},
		{"P7: a node that there is not", n, none(3), false},
		{"P7: and one behind a good one", n, none(0, 3), false},
		{"P7: below 0", n, none(-1), false},
		{"P7: below 0 ahead of a good one", n, none(-1, 0), false},
		{"P7: the least number", n, none(least, 0), false},
		{"P7: the greatest number", n, none(0, most), false},
		{"P7: very long", n, none(make([]int, 100000)...), false},
	})
}

func TestP7Violated(t *testing.T) {
	two := net(list(0, 0), arc(0, 1, 2, 5, 0), arc(1, 0, 0, 1, 0))
	apart := net(list(-5, 5), arc(0, 1, 0, free, 0))
	judge(t, []judged{
		{"P7: too much in all", net(list(1, 0)), none(0, 1), true},
		{"P7: too little in all", net(list(-1, 0)), none(0, 1), true},
		{"P7: a node without an arc", net(list(1, 0)), none(0), true},
		{"P7: a node that needs nothing", net(list(1, 0)), none(1), false},
		{"P7: the Low out is above the Cap in", two, none(0), true},
		{"P7: the Low in is above the Cap out", two, none(1), true},
		{"P7: all nodes", two, none(0, 1), false},
		{"P7: need above Caps out less Lows in", net(list(3, -3), arc(0, 1, 0, 5, 0), arc(1, 0, 3, 9, 0)), none(0), true},
		{"P7: need at Caps out less Lows in", net(list(2, -2), arc(0, 1, 0, 5, 0), arc(1, 0, 3, 9, 0)), none(0), false},
		{"P7: need below Lows out less Caps in", net(list(0, 0), arc(0, 1, 5, 9, 0), arc(1, 0, 0, 4, 0)), none(0), true},
		{"P7: need at Lows out less Caps in", net(list(1, -1), arc(0, 1, 5, 9, 0), arc(1, 0, 0, 4, 0)), none(0), false},
		{"P7: need below 0, met by what goes in", net(list(-4, 4), arc(1, 0, 0, 4, 0)), none(0), false},
		{"P7: need below 0, more than goes in", net(list(-5, 5), arc(1, 0, 0, 4, 0)), none(0), true},
		{"P7: an arc from a node to itself counts not", net(list(1, -1), arc(0, 0, 0, 9, 0)), none(0), true},
		{"P7: nor does one between nodes of the cut", net(list(1, 0, -1), arc(0, 1, 0, 9, 0)), none(0, 1), true},
		{"P7: nor does one between the others", net(list(1, 0, -1), arc(1, 2, 0, 9, 0)), none(0), true},
		{"P7: several arcs alike are added up", net(list(9, -9), arc(0, 1, 0, 5, 0), arc(0, 1, 0, 4, 0)), none(0), false},
		{"P7: the wrong way, unlimited", apart, none(0), true},
		{"P7: the same from the other side", apart, none(1), true},
	})
}

func TestP7Unlimited(t *testing.T) {
	out := net(list(5, -5), arc(0, 1, 0, free, 0), arc(1, 0, 3, 4, 0))
	limited := net(list(5, -5), arc(0, 1, 0, free, 0), arc(0, 1, 0, 2, 0))
	forced := net(list(0, 0), arc(0, 1, 3, free, 0), arc(1, 0, 0, 2, 0))
	judge(t, []judged{
		{"P7: out, need above", out, none(0), false},
		{"P7: in, need below", out, none(1), false},
		{"P7: out, beside a limited one", limited, none(0), false},
		{"P7: in, beside a limited one", limited, none(1), false},
		{"P7: out, need below its Low less the Cap in", forced, none(0), true},
		{"P7: in, need above the Cap out less its Low", forced, none(1), true},
		{"P7: both ways", net(list(9, -9), arc(0, 1, 3, free, 0), arc(1, 0, 60, free, 0)), none(0), false},
		{"P7: in, and too little out", net(list(9, -9), arc(0, 1, 0, 5, 0), arc(1, 0, 0, free, 0)), none(0), true},
		{"P7: within the cut", net(list(1, 0, -1), arc(0, 1, 0, free, 0)), none(0, 1), true},
	})
}

func TestP7OtherGrounds(t *testing.T) {
	n := net(list(1))
	empty := api.Answer{Kind: api.None, Flow: list(), Potentials: list(), Cut: list(0), Circle: list()}
	judge(t, []judged{
		{"P7: nothing else", n, none(0), true},
		{"P7: lists without entries", n, empty, true},
		{"P7: a cost", n, api.Answer{Kind: api.None, Cut: list(0), Cost: 1}, false},
		{"P7: a cost below 0", n, api.Answer{Kind: api.None, Cut: list(0), Cost: -1}, false},
		{"P7: a flow", n, api.Answer{Kind: api.None, Cut: list(0), Flow: list(0)}, false},
		{"P7: potentials", n, api.Answer{Kind: api.None, Cut: list(0), Potentials: list(0)}, false},
		{"P7: a circle", n, api.Answer{Kind: api.None, Cut: list(0), Circle: list(0)}, false},
	})
}

func TestP8Flow(t *testing.T) {
	back := net(list(0, 0), arc(0, 1, 0, free, -3), arc(1, 0, 0, free, 2))
	loop := net(list(0), arc(0, 0, 1, free, -2))
	judge(t, []judged{
		{"P8: example", back, endless(list(0, 0), 0, 1), true},
		{"P8: with more going round", back, endless(list(4, 4), 0, 1), true},
		{"P8: at MaxAmount", back, endless(list(1000000, 1000000), 0, 1), true},
		{"P8: above MaxAmount", back, endless(list(1000001, 1000001), 0, 1), false},
		{"P8: out of balance", back, endless(list(1, 0), 0, 1), false},
		{"P8: below 0", back, endless(list(-1, -1), 0, 1), false},
		{"P8: a number short", back, endless(list(0), 0, 1), false},
		{"P8: a number more", back, endless(list(0, 0, 0), 0, 1), false},
		{"P8: no flow", back, endless(nil, 0, 1), false},
		{"P8: an arc to itself", loop, endless(list(1), 0), true},
		{"P8: below its Low", loop, endless(list(0), 0), false},
		{"P8: no flow fits", net(list(1), arc(0, 0, 0, free, -2)), endless(list(0), 0), false},
	})
}

func TestP8Circle(t *testing.T) {
	back := net(list(0, 0), arc(0, 1, 0, free, -3), arc(1, 0, 0, free, 2))
	eight := net(list(0, 0, 0, 0), arc(0, 1, 0, free, 1), arc(1, 0, 0, free, 1), arc(1, 2, 0, free, -1), arc(2, 1, 0, free, -2), arc(3, 3, 0, free, -1))
	still := make([]int, 5)
	judge(t, []judged{
		{"P8: begun at the other arc", back, endless(list(0, 0), 1, 0), true},
		{"P8: no arc", back, endless(list(0, 0)), false},
		{"P8: does not come back", back, endless(list(0, 0), 0), false},
		{"P8: an arc twice", back, endless(list(0, 0), 0, 1, 0, 1), false},
		{"P8: an arc to itself twice", net(list(0), arc(0, 0, 0, free, -1)), endless(list(0), 0, 0), false},
		{"P8: two arcs to themselves", net(list(0), arc(0, 0, 0, free, -1), arc(0, 0, 0, free, 0)), endless(list(0, 0), 0, 1), true},
		{"P8: an arc that there is not", back, endless(list(0, 0), 0, 2), false},
		{"P8: below 0", back, endless(list(0, 0), -1, 1), false},
		{"P8: the greatest number", back, endless(list(0, 0), most, 1), false},
		{"P8: the least number last", back, endless(list(0, 0), 0, least), false},
		{"P8: very long", back, endless(list(0, 0), make([]int, 100000)...), false},
		{"P8: through a node twice", eight, endless(still, 0, 2, 3, 1), true},
		{"P8: the same, begun elsewhere", eight, endless(still, 3, 1, 0, 2), true},
		{"P8: in the wrong order", eight, endless(still, 0, 3, 2, 1), false},
		{"P8: backwards", eight, endless(still, 1, 3, 2, 0), false},
		{"P8: two circles in one list", eight, endless(still, 2, 3, 4), false},
		{"P8: arcs that do not meet", eight, endless(still, 2, 1), false},
		{"P8: the same two nodes, both arcs one way", net(list(0, 0), arc(0, 1, 0, free, -1), arc(0, 1, 0, free, -1)), endless(list(0, 0), 0, 1), false},
	})
}

func TestP8Good(t *testing.T) {
	third := func(limit, cost int) api.Net {
		return net(list(0, 0, 0), arc(0, 1, 0, free, 1), arc(1, 2, 0, free, 1), arc(2, 0, 0, limit, cost))
	}
	judge(t, []judged{
		{"P8: below 0", third(free, -3), endless(list(0, 0, 0), 0, 1, 2), true},
		{"P8: just 0", third(free, -2), endless(list(0, 0, 0), 0, 1, 2), false},
		{"P8: above 0", third(free, -1), endless(list(0, 0, 0), 0, 1, 2), false},
		{"P8: the last arc has a Cap", third(60, -3), endless(list(0, 0, 0), 0, 1, 2), false},
		{"P8: the first arc of the list has one", third(60, -3), endless(list(0, 0, 0), 2, 0, 1), false},
		{"P8: a Cap of 0", third(0, -3), endless(list(0, 0, 0), 0, 1, 2), false},
	})
}

func TestP8OtherGrounds(t *testing.T) {
	n := net(list(0), arc(0, 0, 1, free, -2))
	empty := api.Answer{Kind: api.Endless, Flow: list(1), Potentials: list(), Cut: list(), Circle: list(0)}
	judge(t, []judged{
		{"P8: nothing else", n, endless(list(1), 0), true},
		{"P8: lists without entries", n, empty, true},
		{"P8: what the flow costs", n, api.Answer{Kind: api.Endless, Flow: list(1), Circle: list(0), Cost: -2}, false},
		{"P8: a cost above 0", n, api.Answer{Kind: api.Endless, Flow: list(1), Circle: list(0), Cost: 1}, false},
		{"P8: potentials", n, api.Answer{Kind: api.Endless, Flow: list(1), Circle: list(0), Potentials: list(0)}, false},
		{"P8: a cut", n, api.Answer{Kind: api.Endless, Flow: list(1), Circle: list(0), Cut: list(0)}, false},
	})
}
