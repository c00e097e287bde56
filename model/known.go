package model

import (
	"augur/api"
	"augur/data"
)

// known is the values of the variables that have one.
type known map[int]api.Data

func (k known) has(v int) bool {
	_, ok := k[v]
	return ok
}

func (k known) hasAll(list []int) bool {
	for _, v := range list {
		if !k.has(v) {
			return false
		}
	}
	return true
}

// hasInputs tells whether all arguments that are in are known.
func (k known) hasInputs(args []int, in []bool) bool {
	if len(in) != len(args) {
		return false
	}
	for i, v := range args {
		if in[i] && !k.has(v) {
			return false
		}
	}
	return true
}

// learn makes known that variables have these values; false if one has another value.
func (k known) learn(vars []int, values []api.Data) bool {
	for i, v := range vars {
		// A variable may occur among them again, so each is asked for behind those ahead of it.
		if old, ok := k[v]; !ok {
			k[v] = values[i]
		} else if data.Compare(old, values[i]) != 0 {
			return false
		}
	}
	return true
}

// all is the values of variables that are known.
func (k known) all(vars []int) []api.Data {
	var list []api.Data
	for _, v := range vars {
		list = append(list, k[v])
	}
	return list
}
