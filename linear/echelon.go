package linear

import "straightedge/api"

// pivotRow returns the first row from an index on whose element in a column is not 0; -1 if there is none.
func pivotRow(rows [][]api.Rat, column, from int) int {
	at := from
search:
	for {
		switch {
		case at == len(rows):
			at = -1
			break search
		case !isZero(rows[at][column]):
			break search
		}
		at++
	}
	return at
}

// reduce makes a matrix its reduced row echelon form in place, and returns the pivot columns.
func (c *calculation) reduce(rows [][]api.Rat) []int {
	var pivots []int
	for column := range countColumns(rows) {
		next := len(pivots)
		at := pivotRow(rows, column, next)
		if at < 0 {
			continue
		}
		rows[next], rows[at] = rows[at], rows[next]
		c.clear(rows, next, column)
		pivots = append(pivots, column)
	}
	return pivots
}

// clear makes the element of a row in a column 1, and those of all other rows 0.
func (c *calculation) clear(rows [][]api.Rat, at, column int) {
	row := rows[at]
	divisor := row[column]
	for k := range row {
		row[k] = c.quotient(row[k], divisor)
	}
	for i, other := range rows {
		if i != at && !isZero(other[column]) {
			c.subtract(other, row, other[column])
		}
	}
}

// kernelVector returns the vector of the kernel for a column without a pivot of a reduced matrix.
func kernelVector(rows [][]api.Rat, pivots []int, column int) []api.Rat {
	vector := zeros(len(rows[0]))
	vector[column] = whole(1)
	for i, pivot := range pivots {
		vector[pivot] = negative(rows[i][column])
	}
	return vector
}

// determinant returns the determinant of a square matrix, which it makes triangular in place.
func (c *calculation) determinant(rows [][]api.Rat) api.Rat {
	d := whole(1)
	for j := range rows {
		at := pivotRow(rows, j, j)
		if at < 0 {
			return whole(0)
		}
		if at != j {
			rows[j], rows[at] = rows[at], rows[j]
			d = negative(d)
		}
		d = c.product(d, rows[j][j])
		for _, row := range rows[j+1:] {
			if !isZero(row[j]) {
				factor := c.quotient(row[j], rows[j][j])
				c.subtract(row[j:], rows[j][j:], factor)
			}
		}
	}
	return d
}
