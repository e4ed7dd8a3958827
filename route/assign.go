package route

import "freight/api"

// Assign gives each row of a table a column of its own, or rows that have too
// few between them (P12). A plan is a flow through the net of the table: so one
// that potentials hold is the cheapest, and a cut that is violated shows that
// there is none.
func Assign(table [][]int) (api.Plan, api.Errno) {
	if !tableMayBe(table) {
		return api.Plan{}, api.ErrTable
	}
	l := atLows(netOf(table))
	cut := l.settle()
	if len(cut) != 0 {
		return api.Plan{Short: rowsIn(cut, len(table))}, api.OK
	}
	return l.plan(len(table)), api.OK
}

func tableMayBe(table [][]int) bool {
	if len(table) < 1 || len(table) > api.MaxTable {
		return false
	}
	for _, row := range table {
		if len(row) != len(table) || !rowMayBe(row) {
			return false
		}
	}
	return true
}

func rowMayBe(row []int) bool {
	for _, number := range row {
		if number != api.Barred && (number < 0 || number > api.MaxCost) {
			return false
		}
	}
	return true
}

// netOf has a node for each row, with one unit, then one for each column, which
// wants one; and an arc for each place that is not Barred. It may be greater
// than a net that is handed in.
func netOf(table [][]int) api.Net {
	rows := len(table)
	supply := make([]int, 2*rows)
	arcs := []api.Arc{}
	for number, row := range table {
		supply[number] = 1
		supply[rows+number] = -1
		for column, cost := range row {
			if cost != api.Barred {
				arcs = append(arcs, api.Arc{From: number, To: rows + column, Cap: api.NoLimit, Cost: cost})
			}
		}
	}
	return api.Net{Supply: supply, Arcs: arcs}
}

// rowsIn takes a cut of which settle answers that it is violated. No arc goes
// out of it, since all are unlimited: so all columns that are not Barred to its
// rows are in it. And it has a need above 0, which is more rows than columns.
func rowsIn(cut []int, rows int) []int {
	list := []int{}
	for _, node := range cut {
		if node < rows {
			list = append(list, node)
		}
	}
	return list
}

// plan takes a load in which nothing is left: one unit goes from each row, one
// to each column. No arc has a drift below 0, and those with a unit have none:
// so a column's potential less a row's is at most what stands in their place.
func (l *load) plan(rows int) api.Plan {
	p := api.Plan{
		Fits:    true,
		Columns: make([]int, rows),
		Rows:    make([]int, rows),
		Cols:    make([]int, rows),
	}
	for number, arc := range l.net.Arcs {
		if l.flow[number] != 0 {
			p.Columns[arc.From] = arc.To - rows
			p.Cost += arc.Cost
		}
	}
	potentials := l.potentials()
	for row := range p.Rows {
		p.Rows[row] = -potentials[row]
		p.Cols[row] = potentials[rows+row]
	}
	return p
}
