package data

import "augur/api"

// The first byte of an encoding.
const (
	intByte  = 0
	ctorByte = 1
)

// intSize is how many bytes a number has.
const intSize = 8

// isNameSize tells whether a name may have so many bytes.
func isNameSize(size int) bool { return 1 <= size && size <= api.MaxName }

// isArity tells whether there may be so many arguments.
func isArity(count int) bool { return count <= api.MaxArity }

// fits tells whether all names and numbers of arguments are such that data have an encoding.
func fits(d api.Data) bool {
	if d.Ctor && !(isNameSize(len(d.Name)) && isArity(len(d.Args))) {
		return false
	}
	return all(parts(d), fits)
}

// appendData adds the encoding of data that fit.
func appendData(b []byte, d api.Data) []byte {
	if !d.Ctor {
		return appendInt(append(b, intByte), d.Int)
	}
	b = append(b, ctorByte, byte(len(d.Name)))
	b = append(b, d.Name...)
	b = append(b, byte(len(d.Args)))
	for _, arg := range d.Args {
		b = appendData(b, arg)
	}
	return b
}

// appendInt adds a number, its low byte first.
func appendInt(b []byte, n int) []byte {
	for i := range intSize {
		b = append(b, byte(n>>(8*i)))
	}
	return b
}

// reader reads bytes from the left. Once they are refused it answers zero values, so that one question at the end is enough.
type reader struct {
	rest    []byte
	nodes   int // how many began
	refused bool
}

func (r *reader) refuse() { r.rest, r.refused = nil, true }

// cut takes so many bytes.
func (r *reader) cut(size int) []byte {
	if size > len(r.rest) {
		r.refuse()
		return nil
	}
	piece := r.rest[:size:size]
	r.rest = r.rest[size:]
	return piece
}

// small takes a number of one byte.
func (r *reader) small() int {
	b := r.cut(1)
	if r.refused {
		return 0
	}
	return int(b[0])
}

// data takes the encoding of data at a depth.
func (r *reader) data(depth int) api.Data {
	r.nodes++
	if r.nodes > api.MaxSize || depth > api.MaxDepth {
		r.refuse()
		return api.Data{}
	}
	switch r.small() {
	case intByte:
		return api.Data{Int: r.number()}
	case ctorByte:
		return r.structure(depth)
	}
	r.refuse()
	return api.Data{}
}

// number takes a number, its low byte first.
func (r *reader) number() int {
	n := 0
	for i, c := range r.cut(intSize) {
		n |= int(c) << (8 * i)
	}
	return n
}

// structure takes what follows the first byte of a constructor's encoding.
func (r *reader) structure(depth int) api.Data {
	d := api.Data{Ctor: true, Name: r.name()}
	count := r.small()
	if !isArity(count) {
		r.refuse()
	}
	for range count {
		if r.refused {
			break
		}
		d.Args = append(d.Args, r.data(depth+1))
	}
	return d
}

func (r *reader) name() string {
	size := r.small()
	if !isNameSize(size) {
		r.refuse()
	}
	return string(r.cut(size))
}
