package modes

import "maps"

// ground is the variables that have a value.
type ground map[int]struct{}

func (g ground) has(v int) bool {
	_, ok := g[v]
	return ok
}

func (g ground) hasAll(list []int) bool { return len(g.missing(list)) == 0 }

func (g ground) add(list ...int) {
	for _, v := range list {
		g[v] = struct{}{}
	}
}

// with is these variables and further ones, apart from what becomes of these.
func (g ground) with(list ...int) ground {
	more := maps.Clone(g)
	more.add(list...)
	return more
}

// missing is those of a list that have no value, in its order.
func (g ground) missing(list []int) []int {
	var rest []int
	for _, v := range list {
		if !g.has(v) {
			rest = append(rest, v)
		}
	}
	return rest
}
