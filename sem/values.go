package sem

import "augur/api"

// values are those that variables have, the newest one first; nil: there is none. A goal gives values by new ones ahead of those
// with which it was entered, so whoever goes on with the older ones later finds them as they were.
type values struct {
	of    int
	value *term
	older *values
}

// with is these values and one more.
func (v *values) with(x int, t *term) *values { return &values{of: x, value: t, older: v} }

// at is the value of a variable. One without a value, which no goal that layers make reads, is 0.
func (v *values) at(x int) *term {
	for ; v != nil; v = v.older {
		if v.of == x {
			return v.value
		}
	}
	return number(0)
}

// all is the values of variables.
func (v *values) all(list []int) []*term {
	var terms []*term
	for _, x := range list {
		terms = append(terms, v.at(x))
	}
	return terms
}

// inputs is the values with which a procedure is entered whose in arguments are these.
func inputs(p api.Proc, in []api.Data) *values {
	var v *values
	for i, isIn := range p.In {
		if isIn && len(in) > 0 {
			v, in = v.with(i, termOf(in[0])), in[1:]
		}
	}
	return v
}

// outputs is the data of a procedure's out arguments.
func outputs(p api.Proc, v *values) []api.Data {
	var list []api.Data
	for i, isIn := range p.In {
		if !isIn {
			list = append(list, dataOf(v.at(i)))
		}
	}
	return list
}

// handed is the values with which a procedure is entered by a call.
func handed(p api.Proc, args []int, v *values) *values {
	var entry *values
	for i := range min(len(p.In), len(args)) {
		if p.In[i] {
			entry = entry.with(i, v.at(args[i]))
		}
	}
	return entry
}

// returned is a caller's values behind a solution of the procedure that it called.
func returned(p api.Proc, args []int, v, solution *values) *values {
	for i := range min(len(p.In), len(args)) {
		if !p.In[i] {
			v = v.with(args[i], solution.at(i))
		}
	}
	return v
}
