package linear

import (
	"slices"

	"straightedge/api"
	"straightedge/rational"
)

// completion takes weighted squares off a symmetric matrix, column by column.
type completion struct {
	calculation
	rest    [][]api.Rat // the matrix without the squares, from the column on that is next
	weights []api.Rat
	forms   [][]api.Rat
	columns []int // where each form begins with 1
}

// complete takes off squares until nothing remains, or returns a vector on which the form of the matrix is negative.
func (s *completion) complete() []api.Rat {
	for j, row := range s.rest {
		if rational.Sign(row[j]) > 0 {
			s.takeSquare(j)
			continue
		}
		if v := s.descent(j); v != nil {
			s.extend(v)
			return v
		}
	}
	return nil
}

// takeSquare takes off the square that leaves nothing in a column, whose element in the diagonal is positive.
func (s *completion) takeSquare(j int) {
	row := s.rest[j]
	form := zeros(len(row))
	form[j] = whole(1)
	for k := j + 1; k < len(row); k++ {
		form[k] = s.quotient(row[k], row[j])
	}
	for i := j + 1; i < len(row); i++ {
		s.subtract(s.rest[i][j+1:], row[j+1:], form[i])
	}
	s.weights = append(s.weights, row[j])
	s.forms = append(s.forms, form)
	s.columns = append(s.columns, j)
}

// descent returns a vector, 0 before column j, on which the form of the rest is negative; nil if nothing remains in that column. Its element in the diagonal is not positive.
func (s *completion) descent(j int) []api.Rat {
	row := s.rest[j]
	v := zeros(len(row))
	if !isZero(row[j]) {
		v[j] = whole(1)
		return v
	}
	for k := j + 1; k < len(row); k++ {
		if isZero(row[k]) {
			continue
		}
		v[k] = whole(1)
		above := s.sum(s.rest[k][k], whole(1))
		v[j] = s.quotient(negative(above), s.sum(row[k], row[k]))
		return v
	}
	return nil
}

// extend sets the elements of a vector at the columns of the forms so that all forms are 0 on it.
func (s *completion) extend(v []api.Rat) {
	for n, form := range slices.Backward(s.forms) {
		i := s.columns[n]
		sum := whole(0)
		for k := i + 1; k < len(v); k++ {
			sum = s.sum(sum, s.product(form[k], v[k]))
		}
		v[i] = negative(sum)
	}
}
