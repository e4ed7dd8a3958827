package freight_test

import (
	"reflect"
	"testing"

	"freight/api"
	"freight/freight"
)

const (
	no     = api.Barred
	noPlan = -1
)

// assignable is a table, and what the cheapest plan costs, or noPlan.
type assignable struct {
	name  string
	table [][]int
	cost  int
}

func table(rows ...[]int) [][]int { return rows }

// filled is a table with the same number in each place.
func filled(rows, number int) [][]int {
	t := make([][]int, rows)
	for i := range t {
		for j := 0; j < rows; j++ {
			t[i] = append(t[i], number)
		}
	}
	return t
}

// columnsFault tells in which way the columns are none that cost that much, if they are not.
func columnsFault(table [][]int, p api.Plan) string {
	if len(p.Columns) != len(table) {
		return "not a column for each row"
	}
	cost := 0
	taken := make([]bool, len(table))
	for i, j := range p.Columns {
		if j < 0 || j >= len(table) || taken[j] {
			return "no column, or one twice"
		}
		if table[i][j] == no {
			return "a place that is Barred"
		}
		taken[j] = true
		cost += table[i][j]
	}
	if cost != p.Cost {
		return "another cost"
	}
	return ""
}

func worthsMayBe(list []int, rows int) bool {
	for _, worth := range list {
		if worth < -api.MaxPotential || worth > api.MaxPotential {
			return false
		}
	}
	return len(list) == rows
}

// worthsFault takes columns without a fault.
func worthsFault(table [][]int, p api.Plan) string {
	if !worthsMayBe(p.Rows, len(table)) || !worthsMayBe(p.Cols, len(table)) {
		return "no worths"
	}
	for i, row := range table {
		for j, number := range row {
			worth := p.Rows[i] + p.Cols[j]
			if number != no && worth > number {
				return "worths that are too high"
			}
			if p.Columns[i] == j && worth != number {
				return "worths that are not just what stands there"
			}
		}
	}
	return ""
}

func shortFault(table [][]int, p api.Plan) string {
	if p.Cost != 0 || len(p.Columns) != 0 || len(p.Rows) != 0 || len(p.Cols) != 0 {
		return "more than the rows that are short"
	}
	above := -1
	open := make([]bool, len(table))
	for _, i := range p.Short {
		if i <= above || i >= len(table) {
			return "no rows, or not rising"
		}
		above = i
		for j, number := range table[i] {
			open[j] = open[j] || number != no
		}
	}
	columns := 0
	for _, is := range open {
		if is {
			columns++
		}
	}
	if columns >= len(p.Short) {
		return "rows that have columns enough"
	}
	return ""
}

func planFault(table [][]int, p api.Plan) string {
	if !p.Fits {
		return shortFault(table, p)
	}
	if len(p.Short) != 0 {
		return "a plan, and rows that are short"
	}
	if fault := columnsFault(table, p); fault != "" {
		return fault
	}
	return worthsFault(table, p)
}

// proven fails unless the plan is seen to be right.
func proven(t *testing.T, c assignable) api.Plan {
	t.Helper()
	p, errno := freight.Assign(c.table)
	if errno != api.OK {
		t.Errorf("P12: %s: Assign(%v): error %d", c.name, c.table, errno)
		return p
	}
	if fault := planFault(c.table, p); fault != "" {
		t.Errorf("P12: %s: Assign(%v) = %+v: %s", c.name, c.table, p, fault)
	}
	return p
}

func assign(t *testing.T, cases []assignable) {
	t.Helper()
	for _, c := range cases {
		p := proven(t, c)
		if p.Fits != (c.cost != noPlan) || (p.Fits && p.Cost != c.cost) {
			t.Errorf("P12: %s: Assign(%v) = %+v, want the cost %d", c.name, c.table, p, c.cost)
		}
	}
}

func assignables() []assignable {
	return []assignable{
		{"the example", table(list(1, 2), list(3, 1)), 2},
		{"one column for two", table(list(1, no), list(2, no)), noPlan},
		{"the other column", table(list(no, 1), list(no, 2)), noPlan},
		{"the other way round", table(list(9, 1), list(1, 9)), 2},
		{"two columns for three", table(list(1, 2, no), list(3, 4, no), list(5, 6, no)), noPlan},
		{"a row without a column", table(list(1, 1, 1), list(no, no, no), list(1, 1, 1)), noPlan},
		{"a column without a row", table(list(1, no, 1), list(1, no, 1), list(1, no, 1)), noPlan},
		{"two rows for one of three columns", table(list(1, no, no), list(1, no, no), list(1, 1, 1)), noPlan},
		{"the last two for one", table(list(1, 1, 1), list(no, no, 1), list(no, no, 1)), noPlan},
		{"just one plan", table(list(no, 5, no), list(7, no, no), list(no, no, 0)), 12},
		{"just one plan, found row by row", table(list(1, 2, no), list(3, 4, no), list(5, 6, 7)), 12},
		{"the cheapest place is of no use", table(list(0, 1), list(1, 50)), 2},
		{"the cheapest plan is Barred", table(list(1, no), list(1, 1)), 2},
		{"each row wants the same column", table(list(1, 2, 3), list(2, 4, 6), list(3, 6, 9)), 10},
		{"a row of three", table(list(4, 1, 3), list(2, 0, 5), list(3, 2, 2)), 5},
		{"a place at no cost", table(list(0, 50), list(50, 0)), 0},
		{"a place at the highest cost", table(list(50, no), list(no, 50)), 100},
	}
}

func TestP12APlanOrRowsThatAreShort(t *testing.T) { assign(t, assignables()) }

func TestP12OneRow(t *testing.T) {
	assign(t, []assignable{
		{"at no cost", table(list(0)), 0},
		{"at a cost", table(list(1)), 1},
		{"at the highest cost", table(list(50)), 50},
		{"Barred", table(list(no)), noPlan},
	})
}

// What was given to the first rows must be taken back, from one to the next, up to the last row.
func TestP12WhatWasGivenIsTakenBack(t *testing.T) {
	rows := api.MaxTable
	chain := filled(rows, no)
	for i := range chain {
		chain[i][i] = 1
		chain[i][(i+1)%rows] = 50
	}
	assign(t, []assignable{{"each its own", chain, rows}})
	chain[rows-1][rows-1] = no
	assign(t, []assignable{{"each the next", chain, 50 * rows}})
	chain[rows-1][0] = no
	assign(t, []assignable{{"the last none", chain, noPlan}})
	chain[rows-1][rows-1] = 1
	assign(t, []assignable{{"each its own again", chain, rows}})
}

func TestP12AsMuchAsMayBe(t *testing.T) {
	product, gap, crowd := filled(8, 0), filled(8, 50), filled(8, 0)
	for i := range product {
		for j := range product[i] {
			product[i][j] = (7 - i) * j
		}
		gap[i][3] = no
		for j := 0; j < 3 && i != 2; j++ {
			crowd[i][j] = no
		}
	}
	stairs := filled(8, no)
	for i := range stairs {
		for j := 7 - i; j < 8; j++ {
			stairs[i][j] = 50
		}
	}
	assign(t, []assignable{
		{"all at no cost", filled(8, 0), 0},
		{"all at the highest cost", filled(8, 50), 400},
		{"all Barred", filled(8, no), noPlan},
		{"the steep ones first", product, 0*7 + 1*6 + 2*5 + 3*4 + 4*3 + 5*2 + 6*1},
		{"a column that no row has", gap, noPlan},
		{"seven rows, five columns", crowd, noPlan},
		{"each row has one more", stairs, 400},
	})
}

// faultyTables may not be.
func faultyTables() []assignable {
	last := filled(8, 0)
	last[7][7] = 51
	ragged := filled(8, 0)
	ragged[7] = ragged[7][:7]
	long := filled(8, 0)
	long[7] = append(long[7], 0)
	cases := []assignable{
		{name: "no table", table: nil},
		{name: "a table without rows", table: table()},
		{name: "a row too many", table: filled(9, 0)},
		{name: "far too many rows", table: filled(500, 0)},
		{name: "nine rows without numbers", table: make([][]int, 9)},
		{name: "a row without numbers", table: table(nil)},
		{name: "a row with an empty list", table: table(list())},
		{name: "a row with two numbers", table: table(list(1, 2))},
		{name: "two rows with one number", table: table(list(1), list(2))},
		{name: "two rows with three", table: table(list(1, 2, 3), list(4, 5, 6))},
		{name: "the first row too short", table: table(list(1), list(1, 2))},
		{name: "the first row too long", table: table(list(1, 2, 3), list(1, 2))},
		{name: "the second row too short", table: table(list(1, 2), list(1))},
		{name: "the second row missing", table: table(list(1, 2), nil)},
		{name: "the second row too long", table: table(list(1, 2), list(1, 2, 3))},
		{name: "as many numbers as there should be", table: table(list(1, 2, 3), list(1))},
		{name: "the last row too short", table: ragged},
		{name: "the last row too long", table: long},
		{name: "the last number too high", table: last},
	}
	for _, x := range edges() {
		if x < -1 || x > 50 {
			cases = append(cases,
				assignable{name: "one number that may not be", table: table(list(x))},
				assignable{name: "the first number", table: table(list(x, 0), list(0, 0))},
				assignable{name: "the second number", table: table(list(0, x), list(0, 0))},
				assignable{name: "the third number", table: table(list(0, no), list(x, 0))},
				assignable{name: "the fourth number, and no plan", table: table(list(0, no), list(0, x))},
				assignable{name: "beside a row without a column", table: table(list(no, no), list(0, x))})
		}
	}
	return cases
}

func TestP12RefusesWhatMayNotBe(t *testing.T) {
	for _, c := range faultyTables() {
		p, errno := freight.Assign(c.table)
		if errno != api.ErrTable || !reflect.DeepEqual(p, api.Plan{}) {
			t.Errorf("P12: %s: Assign(%v) = %+v, %d, want nothing, %d", c.name, c.table, p, errno, api.ErrTable)
		}
	}
}

// cheapestPlan tries all plans for the rows from this one on.
func cheapestPlan(table [][]int, row int, taken []bool) int {
	if row == len(table) {
		return 0
	}
	low := noPlan
	for j, number := range table[row] {
		if number == no || taken[j] {
			continue
		}
		taken[j] = true
		rest := cheapestPlan(table, row+1, taken)
		taken[j] = false
		if rest != noPlan && (low == noPlan || number+rest < low) {
			low = number + rest
		}
	}
	return low
}

func drawnTable(d *dice, rows int) [][]int {
	t := filled(rows, no)
	highest, open := list(0, 1, 5, 50)[d.roll(0, 3)], d.roll(2, 10)
	for i := range t {
		for j := range t[i] {
			if d.roll(1, 10) <= open {
				t[i][j] = d.roll(0, highest)
			}
		}
	}
	return t
}

func TestP12AgainstAllPlans(t *testing.T) {
	d := &dice{state: 12}
	fits, shorts := 0, 0
	for i := 0; i < 5000 && !t.Failed(); i++ {
		c := assignable{name: "a drawn table", table: drawnTable(d, d.roll(1, 5))}
		c.cost = cheapestPlan(c.table, 0, make([]bool, len(c.table)))
		if c.cost == noPlan {
			shorts++
		} else {
			fits++
		}
		assign(t, []assignable{c})
	}
	if fits < 500 || shorts < 500 {
		t.Errorf("too few tables of a kind: %d with a plan, %d without", fits, shorts)
	}
}

// The plan is its own proof; so there is no need to know which one is to come.
func TestP12DrawnTables(t *testing.T) {
	d := &dice{state: 120}
	fits, shorts := 0, 0
	for i := 0; i < 5000 && !t.Failed(); i++ {
		p := proven(t, assignable{name: "a drawn table", table: drawnTable(d, d.roll(6, api.MaxTable))})
		if p.Fits {
			fits++
		} else {
			shorts++
		}
	}
	if fits < 500 || shorts < 500 {
		t.Errorf("too few tables of a kind: %d with a plan, %d without", fits, shorts)
	}
}

// roomyTable gives the table and its rows spare room, in which a mark stands.
func roomyTable(rows [][]int) [][]int {
	wide := make([][]int, len(rows)+2)
	for i := range wide {
		wide[i] = list(777)
	}
	for i, row := range rows {
		wide[i] = roomy(row)
	}
	return wide[:len(rows)]
}

func wholeTable(rows [][]int) [][]int {
	var all [][]int
	for _, row := range rows[:cap(rows)] {
		all = append(all, append([]int{}, row[:cap(row)]...))
	}
	return all
}

// copiedPlan has lists of its own, and a list without entries is nil.
func copiedPlan(p api.Plan) api.Plan {
	return api.Plan{
		Fits:    p.Fits,
		Columns: append([]int(nil), p.Columns...),
		Cost:    p.Cost,
		Rows:    append([]int(nil), p.Rows...),
		Cols:    append([]int(nil), p.Cols...),
		Short:   append([]int(nil), p.Short...),
	}
}

func planLists(p api.Plan) [][]int { return [][]int{p.Columns, p.Rows, p.Cols, p.Short} }

func TestP2WhatAssignAnswersIsTheCallers(t *testing.T) {
	for _, c := range assignables() {
		c.table = roomyTable(c.table)
		before := wholeTable(c.table)
		callersOwn(t, c.name, func() api.Plan { return proven(t, c) }, copiedPlan, planLists)
		if after := wholeTable(c.table); !reflect.DeepEqual(before, after) {
			t.Errorf("P2: %s: what was handed in has become %v, and was %v", c.name, after, before)
		}
	}
}

func TestP2AssignWritesNothingIntoWhatMayNotBe(t *testing.T) {
	for _, c := range faultyTables() {
		c.table = roomyTable(c.table)
		before := wholeTable(c.table)
		freight.Assign(c.table)
		if after := wholeTable(c.table); !reflect.DeepEqual(before, after) {
			t.Errorf("P2: %s: what was handed in has become %v, and was %v", c.name, after, before)
		}
	}
}

func TestP2AssignDependsOnTheTableAlone(t *testing.T) {
	cases := assignables()
	steady(t, len(cases), func(i int) api.Plan { return proven(t, cases[i]) }, copiedPlan)
}

// What is written into a table after a call counts for the next call, and one list may be handed in for several rows.
func TestP2AssignKeepsNothingHandedIn(t *testing.T) {
	row := list(3, 5)
	both := table(row, row)
	assign(t, []assignable{{"one list for both rows", both, 8}})
	row[1] = no
	assign(t, []assignable{{"with a column Barred", both, noPlan}})
	both[1] = list(no, 0)
	assign(t, []assignable{{"with another row", both, 3}})
}
