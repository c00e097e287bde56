package data

import (
	"iter"
	"strconv"

	"augur/api"
	"augur/names"
	"augur/types"
)

// deepest is the greatest depth at which a domain has structures.
const deepest = 4

// domains are those that one call of Domain needs. Their lists share memory.
// Each is worked out once: types that have no data at all would be gone through again and again otherwise.
type domains struct {
	index api.Index
	known map[string][]api.Data // by the sign of a type and a depth
}

// of is the domain of a type.
func (d *domains) of(t api.Type, depth int) []api.Data {
	switch t.Kind {
	case api.TyInt:
		return []api.Data{{Int: 0}, {Int: 1}, {Int: 2}}
	case api.TyRigid, api.TyFree:
		return []api.Data{{Int: 0}}
	case api.TyData:
		if depth < 1 || depth > deepest {
			return nil
		}
		return d.ofOutline(outline(t, depth), depth)
	}
	return nil
}

// ofOutline is the domain of a TyData of which there is no more than its domain hangs on.
func (d *domains) ofOutline(t api.Type, depth int) []api.Data {
	asked := string(appendSign(strconv.AppendInt(nil, int64(depth), 10), t))
	list, ok := d.known[asked]
	if !ok {
		list = d.structures(t, depth)
		d.known[asked] = list
	}
	return list
}

// structures is the first data of a type, constructor by constructor.
func (d *domains) structures(t api.Type, depth int) []api.Data {
	var list []api.Data
domain:
	for _, c := range names.Ctors(d.index, t.Name) {
		for row := range d.rows(c.Key, t, depth) {
			list = append(list, api.Data{Ctor: true, Name: c.Key.Name, Args: row})
			if len(list) == MaxDomain {
				break domain
			}
		}
	}
	return list
}

// rows goes over the rows of arguments that a type's constructor may have; the last argument varies fastest.
func (d *domains) rows(c api.Key, t api.Type, depth int) iter.Seq[[]api.Data] {
	return func(yield func([]api.Data) bool) {
		lists, ok := d.arguments(c, t, depth)
		places := make([]int, len(lists))
		for more := ok; more; more = advance(places, lists) {
			var row []api.Data
			for i, at := range places {
				row = append(row, lists[i][at])
			}
			if !yield(row) {
				return
			}
		}
	}
}

// arguments is the domain of each argument of a type's constructor; false if there is no row of them.
func (d *domains) arguments(c api.Key, t api.Type, depth int) ([][]api.Data, bool) {
	fields, ok := types.Fields(d.index, c, t)
	if !ok {
		return nil, false
	}
	var lists [][]api.Data
	for _, field := range fields {
		list := d.of(field, depth-1)
		if len(list) == 0 {
			return nil, false
		}
		lists = append(lists, list)
	}
	return lists, true
}

// advance goes on to the places of the next row; false behind the last one.
func advance(places []int, lists [][]api.Data) bool {
	for i := len(places) - 1; i >= 0; i-- {
		places[i]++
		if places[i] < len(lists[i]) {
			return true
		}
		places[i] = 0
	}
	return false
}

// outline is as much of a type as its domain hangs on. An argument becomes a field one level deeper at the least, and a TyData
// has no data at depth 0, whatever it is. So a type that grows from field to field does so no further than this.
func outline(t api.Type, depth int) api.Type {
	switch t.Kind {
	case api.TyInt, api.TyRigid, api.TyFree:
		return api.Type{Kind: t.Kind}
	case api.TyData:
		if depth < 1 {
			break
		}
		args := each(t.Args, func(arg api.Type) api.Type { return outline(arg, depth-1) })
		return api.Type{Kind: t.Kind, Name: t.Name, Args: args}
	}
	return api.Type{}
}

// appendSign adds what tells a type apart from all others, also where names are such as no source has.
func appendSign(sign []byte, t api.Type) []byte {
	sign = strconv.AppendQuote(strconv.AppendInt(append(sign, ' '), int64(t.Kind), 10), t.Name)
	for _, arg := range t.Args {
		sign = appendSign(sign, arg)
	}
	return append(sign, '.')
}
