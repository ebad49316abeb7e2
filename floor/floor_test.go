package floor_test

import (
	"math"
	"testing"

	"tryst/floor"
)

func TestDivision(t *testing.T) {
	for _, row := range []struct{ n, by, quotient, remainder int }{
		{-1, 7, -1, 6},
		{-7, 7, -1, 0}, {-8, 7, -2, 6}, {-6, 7, -1, 1}, {0, 7, 0, 0}, {1, 7, 0, 1}, {6, 7, 0, 6}, {7, 7, 1, 0}, {8, 7, 1, 1},
		{-3, 1, -3, 0}, {3, 1, 3, 0},
		{math.MaxInt64, math.MaxInt64, 1, 0}, {math.MaxInt64 - 1, math.MaxInt64, 0, math.MaxInt64 - 1}, {-1, math.MaxInt64, -1, math.MaxInt64 - 1},
		{math.MaxInt64, 2, math.MaxInt64 / 2, 1}, {math.MinInt64, 2, math.MinInt64 / 2, 0}, {math.MinInt64, 1, math.MinInt64, 0},
		{math.MinInt64, 7, math.MinInt64/7 - 1, 6}, {math.MinInt64, math.MaxInt64, -2, math.MaxInt64 - 1},
	} {
		if got := floor.Quotient(row.n, row.by); got != row.quotient {
			t.Errorf("%d divided by %d is %d, want %d", row.n, row.by, got, row.quotient)
		}
		if got := floor.Remainder(row.n, row.by); got != row.remainder {
			t.Errorf("%d divided by %d leaves %d, want %d", row.n, row.by, got, row.remainder)
		}
	}
}

// TestDivisionGoesBack holds both results against what division means.
func TestDivisionGoesBack(t *testing.T) {
	for by := 1; by <= 40; by++ {
		for n := -200; n <= 200; n++ {
			q, r := floor.Quotient(n, by), floor.Remainder(n, by)
			if q*by+r != n || r < 0 || r >= by {
				t.Errorf("%d divided by %d is %d and leaves %d", n, by, q, r)
			}
		}
	}
}
