// Package freight: how goods go through a network at the least cost: see DOC.md.
package freight

import (
	"freight/api"
	"freight/grounds"
	"freight/route"
)

// Check tells whether a network may be, and where it may not (P3).
func Check(n api.Net) (api.Errno, int) { return grounds.Check(n) }

// Cost tells what a flow costs (P4).
func Cost(n api.Net, flow []int) (int, api.Errno) { return grounds.Cost(n, flow) }

// Accept tells whether an answer is seen to be right (P5 to P8).
func Accept(n api.Net, a api.Answer) (bool, api.Errno) { return grounds.Accept(n, a) }

// Some gives a flow, or a cut that shows that there is none (P9).
func Some(n api.Net) ([]int, []int, api.Errno) { return route.Some(n) }

// Solve gives an answer (P10).
func Solve(n api.Net) (api.Answer, api.Errno) { return route.Solve(n) }

// Most gives as much as can go from one node to another (P11).
func Most(n api.Net, from int, to int) (int, []int, []int, api.Errno) { return route.Most(n, from, to) }

// Assign gives each row of a table a column of its own (P12).
func Assign(table [][]int) (api.Plan, api.Errno) { return route.Assign(table) }
