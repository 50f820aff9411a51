package tide

import (
	"tideway/api"
	"tideway/lists"
)

// quarters are the powers of i.
var quarters = [4]api.Gauss{{Re: 1}, {Im: 1}, {Re: -1}, {Im: -1}}

func plus(a, b api.Gauss) api.Gauss {
	return api.Gauss{Re: a.Re + b.Re, Im: a.Im + b.Im}
}

func times(a, b api.Gauss) api.Gauss {
	return api.Gauss{Re: a.Re*b.Re - a.Im*b.Im, Im: a.Re*b.Im + a.Im*b.Re}
}

// scaled returns a number times an integer.
func scaled(a api.Gauss, factor int) api.Gauss {
	return api.Gauss{Re: factor * a.Re, Im: factor * a.Im}
}

func conjugate(a api.Gauss) api.Gauss {
	return api.Gauss{Re: a.Re, Im: -a.Im}
}

// square returns the squared absolute value of a number.
func square(a api.Gauss) int {
	return a.Re*a.Re + a.Im*a.Im
}

// determinant returns the determinant of a square matrix: 1 if it has no rows.
// It is expanded along its first row, since an elimination would need numbers of more than 64 bits.
func determinant(m [][]api.Gauss) api.Gauss {
	if len(m) == 0 {
		return api.Gauss{Re: 1}
	}
	var sum api.Gauss
	sign := 1
	for column, x := range m[0] {
		minor := determinant(without(m[1:], column))
		sum = plus(sum, scaled(times(x, minor), sign))
		sign = -sign
	}
	return sum
}

// without returns a copy of rows without a column.
func without(rows [][]api.Gauss, column int) [][]api.Gauss {
	return lists.Transform(rows, func(row []api.Gauss) []api.Gauss {
		out := make([]api.Gauss, len(row)-1)
		copy(out, row[:column])
		copy(out[column:], row[column+1:])
		return out
	})
}

// replaced returns a copy of a matrix with other numbers in a column.
func replaced(m [][]api.Gauss, column int, numbers []api.Gauss) [][]api.Gauss {
	out := make([][]api.Gauss, len(m))
	for j, row := range m {
		out[j] = make([]api.Gauss, len(row))
		copy(out[j], row)
		out[j][column] = numbers[j]
	}
	return out
}

// corner returns the first n rows of a matrix with their first n columns.
func corner(m [][]api.Gauss, n int) [][]api.Gauss {
	return lists.Transform(m[:n], func(row []api.Gauss) []api.Gauss { return row[:n] })
}

// solve returns the solution of a system of linear equations, times the determinant of its matrix.
func solve(m [][]api.Gauss, right []api.Gauss) []api.Gauss {
	out := make([]api.Gauss, len(m))
	for column := range len(m) {
		out[column] = determinant(replaced(m, column, right))
	}
	return out
}
