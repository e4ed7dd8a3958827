package freight_test

import (
	"reflect"
	"testing"

	"freight/api"
	"freight/freight"
)

// edges are numbers at and beyond every limit of package api.
func edges() []int {
	return list(least, least+1, -1000001, -1000000, -101, -100, -61, -51, -50, -2, -1, 0, 1, 2, 3,
		50, 51, 60, 61, 100, 101, 1000000, 1000001, most-1, most)
}

// TestP1NothingPanics: the net of the answers is in turn one that may be and one that may not.
func TestP1NothingPanics(t *testing.T) {
	for _, x := range edges() {
		for _, y := range edges() {
			nets := []api.Net{
				row(5, 2), net(list(x, y)), net(nil, arc(x, y, 0, 0, 0)),
				net(list(0, 0), arc(x, y, 0, free, 0)), net(list(0, 0), arc(0, 1, x, y, 0)),
				net(list(0, 0), arc(0, 1, 0, x, y)), net(list(0, 0), arc(x, 1, y, free, -50), arc(1, 0, 0, y, x)),
			}
			for _, n := range nets {
				callAll(t, n, x, y)
			}
		}
	}
}

func callAll(t *testing.T, n api.Net, x, y int) {
	errno, _ := freight.Check(n)
	flow, cut, someErrno := freight.Some(n)
	if someErrno != errno || (errno != api.OK && (len(flow) != 0 || len(cut) != 0)) {
		t.Errorf("P1: Some(%+v) = %v, %v, %d, and Check's error is %d", n, flow, cut, someErrno, errno)
	}
	answer, solveErrno := freight.Solve(n)
	if solveErrno != errno || (errno != api.OK && !reflect.DeepEqual(answer, api.Answer{})) {
		t.Errorf("P1: Solve(%+v) = %+v, %d, and Check's error is %d", n, answer, solveErrno, errno)
	}
	for _, ends := range [][]int{{x, y}, {0, 1}, {1, 0}, {0, x}, {y, 1}} {
		much, flow, cut, mostErrno := freight.Most(n, ends[0], ends[1])
		if mostErrno == api.OK && errno != api.OK || mostErrno != api.OK && (much != 0 || len(flow) != 0 || len(cut) != 0) {
			t.Errorf("P1: Most(%+v, %v) = %d, %v, %v, %d, and Check's error is %d", n, ends, much, flow, cut, mostErrno, errno)
		}
	}
	for _, l := range [][]int{nil, list(x), list(x, y), list(x, y, x), list(0, x, y), make([]int, 50)} {
		cost, costErrno := freight.Cost(n, l)
		if costErrno != api.OK && cost != 0 {
			t.Errorf("P1: Cost(%+v, %v) = %d with the error %d", n, l, cost, costErrno)
		}
		for _, kind := range list(api.Best, api.None, api.Endless, x) {
			for _, flow := range [][]int{l, list(3, 3, 0), make([]int, len(n.Arcs))} {
				a := api.Answer{Kind: kind, Cost: y, Flow: flow, Potentials: l, Cut: l, Circle: l}
				accepted, acceptErrno := freight.Accept(n, a)
				if acceptErrno != errno || (errno != api.OK && accepted) {
					t.Errorf("P1: Accept(%+v, %+v) = %v, %d, and Check's error is %d", n, a, accepted, acceptErrno, errno)
				}
				freight.Accept(n, api.Answer{Kind: kind, Flow: flow, Potentials: l})
				freight.Accept(n, api.Answer{Kind: kind, Cut: l})
				freight.Accept(n, api.Answer{Kind: kind, Flow: flow, Circle: l})
			}
		}
	}
}

// TestP1NoTablePanics: of one to nine rows, and of any lengths.
func TestP1NoTablePanics(t *testing.T) {
	for _, x := range edges() {
		for _, y := range edges() {
			for _, table := range [][][]int{
				{{x}}, {{x, y}}, {{x}, {y}}, {{x, y}, {y, x}}, {{x, x}, {y, y}}, {{x, y}, {x}}, {{x}, {x, y}},
				{nil, {x, y}}, {{x, y}, nil}, {{x, y, x}, {y, x, y}, {x, x, y}}, {{0, x}, {y, 0}}, {{0, 0}, {x, y}, {}},
				{{x, y, 0}, {x, -1, -1}, {y, -1, -1}}, make([][]int, 8), make([][]int, 9),
			} {
				plan, errno := freight.Assign(table)
				if errno != api.OK && (errno != api.ErrTable || !reflect.DeepEqual(plan, api.Plan{})) {
					t.Errorf("P1: Assign(%v) = %+v, %d", table, plan, errno)
				}
			}
		}
	}
}

// roomy gives the list spare room, in which a mark stands.
func roomy(l []int) []int {
	wide := make([]int, len(l)+4)
	for i := range wide {
		wide[i] = 777
	}
	copy(wide, l)
	return wide[:len(l)]
}

func roomyArcs(l []api.Arc) []api.Arc {
	wide := make([]api.Arc, len(l)+4)
	for i := range wide {
		wide[i] = arc(7, 7, 7, 7, 7)
	}
	copy(wide, l)
	return wide[:len(l)]
}

func roomyNet(n api.Net) api.Net {
	return api.Net{Supply: roomy(n.Supply), Arcs: roomyArcs(n.Arcs)}
}

// whole is all that stands behind a net and an answer, with the spare room.
type whole struct {
	arcs  []api.Arc
	lists [5][]int
}

func wholeOf(n api.Net, a api.Answer) whole {
	w := whole{arcs: append([]api.Arc{}, n.Arcs[:cap(n.Arcs)]...)}
	for i, l := range [][]int{n.Supply, a.Flow, a.Potentials, a.Cut, a.Circle} {
		w.lists[i] = append([]int{}, l[:cap(l)]...)
	}
	return w
}

// spoil writes into a list that has come out, and into its spare room.
func spoil(l []int) {
	whole := l[:cap(l)]
	for i := range whole {
		whole[i] = -12345
	}
}

// spoilEach spoils the lists of one answer in turn; the others stay as they were, spare room and all.
func spoilEach(t *testing.T, name string, lists ...[]int) {
	t.Helper()
	before := make([][]int, len(lists))
	for i, l := range lists {
		before[i] = append([]int{}, l[:cap(l)]...)
	}
	for i := range lists {
		spoil(lists[i])
		for k := i + 1; k < len(lists); k++ {
			if now := append([]int{}, lists[k][:cap(lists[k])]...); !reflect.DeepEqual(before[k], now) {
				t.Errorf("P2: %s: list %d has become %v with list %d, and was %v", name, k, now, i, before[k])
			}
		}
	}
}

// callersOwn spoils an answer: neither one that has come out nor one that comes later is changed by that.
func callersOwn[A any](t *testing.T, name string, ask func() A, copied func(A) A, lists func(A) [][]int) {
	t.Helper()
	spoiled, other := ask(), ask()
	first := copied(spoiled)
	spoilEach(t, name, lists(spoiled)...)
	if again := copied(other); !reflect.DeepEqual(first, again) {
		t.Errorf("P2: %s: %+v, and again %+v", name, first, again)
	}
	if later := copied(ask()); !reflect.DeepEqual(first, later) {
		t.Errorf("P2: %s: %+v, and later %+v", name, first, later)
	}
}

// steady asks for the answers in one order, and again in the other. What is asked in between changes nothing, neither what comes later nor what has come out.
func steady[A any](t *testing.T, cases int, ask func(int) A, copied func(A) A) {
	t.Helper()
	out, first := make([]A, cases), make([]A, cases)
	for i := range out {
		out[i] = ask(i)
		first[i] = copied(out[i])
	}
	for i := cases - 1; i >= 0; i-- {
		if again := copied(ask(i)); !reflect.DeepEqual(first[i], again) {
			t.Errorf("P2: case %d: %+v, and again %+v", i, first[i], again)
		}
	}
	for i := range out {
		if now := copied(out[i]); !reflect.DeepEqual(first[i], now) {
			t.Errorf("P2: case %d: what came out has become %+v, and was %+v", i, now, first[i])
		}
	}
}

func ownedCases() []judged {
	loop := net(list(0), arc(0, 0, 1, free, -2))
	full := api.Answer{Kind: api.Best, Cost: 6, Flow: list(3, 3, 0), Potentials: list(0, 1, 2), Cut: list(0), Circle: list(0, 1)}
	return []judged{
		{"a Best that is accepted", row(5, 2), best(6, list(3, 3, 0), 0, 1, 2), true},
		{"a Best that is not", row(5, 2), best(6, list(3, 3, 0), 2, 1, 0), false},
		{"a None that is accepted", row(1, 1), none(1, 2), true},
		{"a None that is not", row(1, 1), none(2, 0), false},
		{"an Endless that is accepted", loop, endless(list(1), 0), true},
		{"an Endless that is not", loop, endless(list(1), 0, 0), false},
		{"every list", row(5, 2), full, false},
		{"a net that may not be", net(list(0, 101)), full, false},
	}
}

func TestP2NothingHandedInIsWrittenInto(t *testing.T) {
	for _, c := range ownedCases() {
		n := roomyNet(c.net)
		a := c.answer
		a.Flow = roomy(a.Flow)
		a.Potentials = roomy(a.Potentials)
		a.Cut = roomy(a.Cut)
		a.Circle = roomy(a.Circle)
		before := wholeOf(n, a)
		freight.Check(n)
		freight.Cost(n, a.Flow)
		freight.Accept(n, a)
		if after := wholeOf(n, a); !reflect.DeepEqual(before, after) {
			t.Errorf("P2: %s: what was handed in has become %+v, and was %+v", c.name, after, before)
		}
	}
}

type told struct {
	check    api.Errno
	place    int
	cost     int
	costErr  api.Errno
	accepted bool
	accErr   api.Errno
}

func tell(c judged) told {
	var w told
	w.check, w.place = freight.Check(c.net)
	w.cost, w.costErr = freight.Cost(c.net, c.answer.Flow)
	w.accepted, w.accErr = freight.Accept(c.net, c.answer)
	return w
}

// TestP2TheSameArgumentsTheSameAnswer asks in one order, and again in the other.
func TestP2TheSameArgumentsTheSameAnswer(t *testing.T) {
	cases := ownedCases()
	first := make([]told, len(cases))
	for i, c := range cases {
		first[i] = tell(c)
	}
	for i := len(cases) - 1; i >= 0; i-- {
		if again := tell(cases[i]); again != first[i] {
			t.Errorf("P2: %s: %+v, and again %+v", cases[i].name, first[i], again)
		}
		if first[i].accepted != cases[i].accepted {
			t.Errorf("P2: %s: accepted is %v", cases[i].name, first[i].accepted)
		}
	}
}

// A list may be handed in for several things at once.
func TestP2ListsThatShareMemory(t *testing.T) {
	shared := list(0, 0)
	n := net(shared, arc(0, 1, 0, 5, 0), arc(1, 0, 0, 5, 0))
	judge(t, []judged{
		{"P2: one list for the supplies, the flow and the potentials", n, best(0, shared, shared...), true},
		{"P2: one list for the supplies and the cut", net(shared[:1]), none(shared[:1]...), false},
	})
	if shared[0] != 0 || shared[1] != 0 {
		t.Errorf("P2: the list has become %v", shared)
	}
}

// What is written into a list after a call counts for the next call: nothing handed in is kept.
func TestP2NothingHandedInIsKept(t *testing.T) {
	n, a := row(5, 2), best(6, list(3, 3, 0), 0, 1, 2)
	judge(t, []judged{{"P2: at first", n, a, true}})
	a.Potentials[1] = 0
	judge(t, []judged{{"P2: with another potential", n, a, false}})
	a.Potentials[1] = 1
	n.Arcs[0].Cap = 2
	judge(t, []judged{{"P2: with another Cap", n, a, false}})
	n.Arcs[0].Cap = 5
	judge(t, []judged{{"P2: as at first", n, a, true}})
}
