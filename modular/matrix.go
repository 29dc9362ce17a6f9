package modular

import (
	"slices"

	"straightedge/api"
)

// isMatrix reports whether a matrix is valid.
func isMatrix(m [][]int) bool {
	if len(m) > api.MaxSide {
		return false
	}
	for _, row := range m {
		if len(row) != len(m[0]) || len(row) > api.MaxSide {
			return false
		}
	}
	return true
}

// echelon is the reduced row echelon form of a matrix modulo p.
type echelon struct {
	p       int
	columns int
	rows    [][]int
	pivots  []int // the column of the pivot of each row that is not zero
}

// reduce returns the reduced row echelon form of a valid matrix.
func reduce(m [][]int, p int) *echelon {
	form := &echelon{p: p}
	for _, row := range m {
		form.columns = len(row)
		residues := make([]int, len(row))
		for i, n := range row {
			residues[i] = residue(n, p)
		}
		form.rows = append(form.rows, residues)
	}
	for column := range form.columns {
		form.eliminate(column)
	}
	return form
}

// eliminate makes a column that of the next pivot, unless all elements below the last one are 0.
func (form *echelon) eliminate(column int) {
	next := len(form.pivots)
	lower := form.rows[next:]
	at := slices.IndexFunc(lower, func(row []int) bool { return row[column] != 0 })
	if at < 0 {
		return
	}
	lower[0], lower[at] = lower[at], lower[0]
	pivot := lower[0]
	factor := inverse(pivot[column], form.p)
	for i := range pivot {
		pivot[i] = pivot[i] * factor % form.p
	}
	for i, row := range form.rows {
		if i != next {
			form.subtract(row, pivot, row[column])
		}
	}
	form.pivots = append(form.pivots, column)
}

// subtract subtracts a multiple of another row from a row in place.
func (form *echelon) subtract(row, other []int, factor int) {
	for i := range row {
		row[i] = residue(row[i]-other[i]*factor, form.p)
	}
}

// kernel returns the vectors of the free columns.
func (form *echelon) kernel() [][]int {
	var basis [][]int
	for column := range form.columns {
		if slices.Contains(form.pivots, column) {
			continue
		}
		vector := make([]int, form.columns)
		vector[column] = 1
		for i, pivot := range form.pivots {
			vector[pivot] = residue(-form.rows[i][column], form.p)
		}
		basis = append(basis, vector)
	}
	return basis
}
