package sketch

import (
	"slices"

	"huddle/field"
)

// solve tells so many unknowns, and 1 behind them, if there are any for all equations. Of an equation's row each number is taken times the unknown at its place, the last one times 1; together they are 0. It uses the rows up.
func solve(rows [][]uint64, unknowns int) (l []uint64, ok bool) {
	// Of each unknown: the row that has it once and none ahead of it, if there is one.
	tells := make([][]uint64, unknowns)
each:
	for _, row := range rows {
		for unknown, known := range tells {
			times := row[unknown]
			switch {
			case times == 0:
			case known == nil:
				inverse := field.Inv(times)
				change(row, func(_ int, n uint64) uint64 { return field.Mul(n, inverse) })
				tells[unknown] = row
				continue each
			default:
				change(row, func(at int, n uint64) uint64 { return field.Sub(n, field.Mul(times, known[at])) })
			}
		}
		if row[unknowns] != 0 {
			return nil, false
		}
	}
	l = make([]uint64, unknowns+1)
	l[unknowns] = 1
	for unknown, row := range slices.Backward(tells) {
		// What no row tells may be any number: it stays 0.
		l[unknown] = field.Neg(together(row, l))
	}
	return l, true
}

// change changes each number of a row, by what is told of its place and of it.
func change(row []uint64, to func(at int, n uint64) uint64) {
	for at, n := range row {
		row[at] = to(at, n)
	}
}

// together is the sum of a row's numbers, each times what stands at its place.
func together(row, l []uint64) uint64 {
	sum := uint64(0)
	for at, n := range row {
		sum = field.Add(sum, field.Mul(n, l[at]))
	}
	return sum
}
