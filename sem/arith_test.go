package sem_test

import (
	"fmt"
	"math"
	"math/big"
	"math/rand"
	"testing"

	"augur/sem"
)

// reckoned is what arithmetic comes to, by numbers of any size.
func reckoned(name string, a, b int) (int, int) {
	x, y, z := big.NewInt(int64(a)), big.NewInt(int64(b)), new(big.Int)
	switch name {
	case "add":
		z.Add(x, y)
	case "sub":
		z.Sub(x, y)
	case "mul":
		z.Mul(x, y)
	case "div", "mod":
		if b == 0 {
			return 0, 1
		}
		// Quo and Rem round towards 0.
		z.Quo(x, y)
		if name == "mod" {
			z.Rem(x, y)
		}
	case "lt":
		z.SetBit(z, 0, bit(x.Cmp(y) < 0))
	case "le":
		z.SetBit(z, 0, bit(x.Cmp(y) <= 0))
	}
	if !z.IsInt64() {
		return 0, 2
	}
	return int(z.Int64()), 0
}

func bit(is bool) uint {
	if is {
		return 1
	}
	return 0
}

var operations = []string{"add", "sub", "mul", "div", "mod", "lt", "le"}

func reckon(t *testing.T, name string, a, b int) {
	t.Helper()
	n, code := sem.Arith(name, a, b)
	m, want := reckoned(name, a, b)
	if n != m || code != want {
		t.Errorf("%s(%d, %d): %d, %d, not %d, %d", name, a, b, n, code, m, want)
	}
}

// P11.1: arithmetic by hand.
func TestArith(t *testing.T) {
	for _, r := range []struct {
		name         string
		a, b, n, cod int
	}{
		{"add", 2, 3, 5, 0},
		{"add", math.MaxInt, 0, math.MaxInt, 0},
		{"add", math.MaxInt, 1, 0, 2},
		{"add", math.MinInt, -1, 0, 2},
		{"add", math.MaxInt, math.MinInt, -1, 0},
		{"sub", 2, 3, -1, 0},
		{"sub", math.MinInt, 1, 0, 2},
		{"sub", 0, math.MinInt, 0, 2},
		{"sub", -1, math.MinInt, math.MaxInt, 0},
		{"sub", math.MaxInt, -1, 0, 2},
		{"mul", -4, 3, -12, 0},
		{"mul", 0, math.MinInt, 0, 0},
		{"mul", math.MinInt, 1, math.MinInt, 0},
		{"mul", math.MinInt, -1, 0, 2},
		{"mul", -1, math.MinInt, 0, 2},
		{"mul", math.MaxInt, -1, -math.MaxInt, 0},
		{"mul", 1 << 62, 2, 0, 2},
		{"mul", 1 << 62, -2, math.MinInt, 0},
		{"mul", 1 << 32, 1 << 32, 0, 2},
		{"mul", math.MinInt, math.MinInt, 0, 2},
		{"div", 7, 2, 3, 0},
		{"div", -7, 2, -3, 0},
		{"div", 7, -2, -3, 0},
		{"div", -7, -2, 3, 0},
		{"div", 7, 0, 0, 1},
		{"div", 0, 0, 0, 1},
		{"div", math.MinInt, -1, 0, 2},
		{"div", math.MinInt, 0, 0, 1},
		{"div", math.MinInt, 1, math.MinInt, 0},
		{"mod", 7, 2, 1, 0},
		{"mod", -7, 2, -1, 0},
		{"mod", 7, -2, 1, 0},
		{"mod", -7, -2, -1, 0},
		{"mod", 7, 0, 0, 1},
		{"mod", math.MinInt, -1, 0, 0},
		{"mod", 7, -1, 0, 0},
		{"lt", 1, 2, 1, 0},
		{"lt", 2, 2, 0, 0},
		{"lt", math.MinInt, math.MaxInt, 1, 0},
		{"lt", math.MaxInt, math.MinInt, 0, 0},
		{"le", 2, 2, 1, 0},
		{"le", 3, 2, 0, 0},
		{"", 7, 2, 0, 0},
		{"Add", 7, 2, 0, 0},
		{"append", 7, 0, 0, 0},
		{"gt", 7, 2, 0, 0},
	} {
		n, code := sem.Arith(r.name, r.a, r.b)
		held(t, fmt.Sprint(r.name, " ", r.a, " ", r.b), []int{n, code}, []int{r.n, r.cod})
	}
}

// P11.1: arithmetic at all edges, and on thrown numbers, against numbers of any size.
func TestArithEdges(t *testing.T) {
	edges := []int{0}
	for _, at := range []int{1, 2, 3, 7, 1 << 31, 1 << 32, 3037000499, 1 << 61, 1 << 62, math.MaxInt} {
		for near := -2; near <= 2; near++ {
			edges = append(edges, at+near, -at+near)
		}
	}
	d := rand.New(rand.NewSource(1))
	for range 60 {
		edges = append(edges, int(d.Uint64()), int(d.Uint64())>>d.Intn(64))
	}
	for _, a := range edges {
		for _, b := range edges {
			for _, name := range operations {
				reckon(t, name, a, b)
			}
		}
	}
}
