package sem

import "math"

// What arithmetic raises.
const (
	noDivision = 1
	outOfRange = 2
)

// ranged is a result that was worked out with wrap-round, unless that made it another one.
func ranged(n int, wrapped bool) (int, int) {
	if wrapped {
		return 0, outOfRange
	}
	return n, 0
}

func sum(a, b int) (int, int) { return ranged(a+b, (a+b < a) != (b < 0)) }

func difference(a, b int) (int, int) { return ranged(a-b, (a-b > a) != (b < 0)) }

func product(a, b int) (int, int) {
	n := a * b
	// The least int by -1 is the only product whose quotient is wrapped, too.
	return ranged(n, a != 0 && (n/a != b || a == -1 && b == math.MinInt))
}

func quotient(a, b int) (int, int) {
	if b == 0 {
		return 0, noDivision
	}
	return ranged(a/b, a == math.MinInt && b == -1)
}

func remainder(a, b int) (int, int) {
	if b == 0 {
		return 0, noDivision
	}
	return a % b, 0
}

// truth is 1 for true.
func truth(is bool) int {
	if is {
		return 1
	}
	return 0
}
