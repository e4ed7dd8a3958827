package freight_test

import (
	"math"
	"testing"

	"freight/api"
	"freight/freight"
)

const (
	free  = api.NoLimit
	least = math.MinInt
	most  = math.MaxInt
)

func arc(from, to, low, limit, cost int) api.Arc {
	return api.Arc{From: from, To: to, Low: low, Cap: limit, Cost: cost}
}

func net(supply []int, arcs ...api.Arc) api.Net {
	return api.Net{Supply: supply, Arcs: arcs}
}

func list(numbers ...int) []int { return numbers }

// row is the first net of the document's examples, with the Caps of its first and third arc left open.
func row(first, third int) api.Net {
	return net(list(3, 0, -3), arc(0, 1, 0, first, 1), arc(1, 2, 0, 5, 1), arc(0, 2, 0, third, 4))
}

// faulty are nets with the error and the place that Check answers.
type faulty struct {
	name  string
	net   api.Net
	errno api.Errno
	place int
}

func best(cost int, flow []int, potentials ...int) api.Answer {
	return api.Answer{Kind: api.Best, Cost: cost, Flow: flow, Potentials: potentials}
}

func none(cut ...int) api.Answer {
	return api.Answer{Kind: api.None, Cut: cut}
}

func endless(flow []int, circle ...int) api.Answer {
	return api.Answer{Kind: api.Endless, Flow: flow, Circle: circle}
}

// judged is an answer to a net, and whether it is to be accepted.
type judged struct {
	name     string
	net      api.Net
	answer   api.Answer
	accepted bool
}

func judge(t *testing.T, cases []judged) {
	t.Helper()
	for _, c := range cases {
		accepted, errno := freight.Accept(c.net, c.answer)
		if accepted != c.accepted || errno != api.OK {
			t.Errorf("%s: Accept(%+v, %+v) = %v, %d, want %v, 0", c.name, c.net, c.answer, accepted, errno, c.accepted)
		}
	}
}
