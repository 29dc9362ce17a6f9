package linear

import (
	"straightedge/api"
	"straightedge/rational"
)

// calculation computes with valid numbers. After an error, its results mean nothing, and no more operations are executed.
type calculation struct{ failed api.Errno }

// call executes a function of package rational.
func (c *calculation) call(do func(a, b api.Rat) (api.Rat, api.Errno), a, b api.Rat) api.Rat {
	if c.failed != api.OK {
		return api.Rat{}
	}
	result, e := do(a, b)
	c.failed = e
	return result
}

func (c *calculation) sum(a, b api.Rat) api.Rat { return c.call(rational.Add, a, b) }

func (c *calculation) difference(a, b api.Rat) api.Rat { return c.call(rational.Sub, a, b) }

func (c *calculation) product(a, b api.Rat) api.Rat { return c.call(rational.Mul, a, b) }

func (c *calculation) quotient(a, b api.Rat) api.Rat { return c.call(rational.Div, a, b) }

// subtract subtracts a multiple of another row from a row in place.
func (c *calculation) subtract(row, other []api.Rat, factor api.Rat) {
	for k := range row {
		row[k] = c.difference(row[k], c.product(other[k], factor))
	}
}

// matrixProduct returns the product of a matrix with as many columns as the other one has rows.
func (c *calculation) matrixProduct(a, b [][]api.Rat) [][]api.Rat {
	product := make([][]api.Rat, len(a))
	for i, row := range a {
		product[i] = zeros(countColumns(b))
		for j := range product[i] {
			for k := range row {
				product[i][j] = c.sum(product[i][j], c.product(row[k], b[k][j]))
			}
		}
	}
	return product
}
