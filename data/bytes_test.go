package data_test

import (
	"bytes"
	"fmt"
	"math"
	"slices"
	"strings"
	"testing"

	"augur/api"
	"augur/data"
)

// head is an encoding of a constructor up to its arguments.
func head(name string, args int) string {
	return string([]byte{1, byte(len(name))}) + name + string([]byte{byte(args)})
}

const zero = "\x00\x00\x00\x00\x00\x00\x00\x00\x00" // the encoding of the int 0

// P10.1: encodings, both ways.
func TestEncode(t *testing.T) {
	name32 := strings.Repeat("n", 32)
	for _, r := range []struct {
		d api.Data
		b string
	}{
		{number(0), zero},
		{number(1), "\x00\x01\x00\x00\x00\x00\x00\x00\x00"},
		{number(255), "\x00\xff\x00\x00\x00\x00\x00\x00\x00"},
		{number(256), "\x00\x00\x01\x00\x00\x00\x00\x00\x00"},
		{number(-1), "\x00\xff\xff\xff\xff\xff\xff\xff\xff"},
		{number(-2), "\x00\xfe\xff\xff\xff\xff\xff\xff\xff"},
		{number(0x0102030405060708), "\x00\x08\x07\x06\x05\x04\x03\x02\x01"},
		{number(math.MaxInt), "\x00\xff\xff\xff\xff\xff\xff\xff\x7f"},
		{number(math.MinInt), "\x00\x00\x00\x00\x00\x00\x00\x00\x80"},
		{made("a"), "\x01\x01a\x00"},
		{made("nil"), "\x01\x03nil\x00"},
		{api.Data{Ctor: true, Name: "a", Args: []api.Data{}}, "\x01\x01a\x00"},
		{made("f", number(0)), "\x01\x01f\x01" + zero},
		{made("f", made("a"), number(0), made("bc")), "\x01\x01f\x03\x01\x01a\x00" + zero + "\x01\x02bc\x00"},
		{made("f", made("g", made("h"))), "\x01\x01f\x01\x01\x01g\x01\x01\x01h\x00"},
		{made(name32), "\x01\x20" + name32 + "\x00"},
		{made("w", slices.Repeat([]api.Data{made("a")}, 8)...), "\x01\x01w\x08" + strings.Repeat("\x01\x01a\x00", 8)},
		// Names of any bytes.
		{made("\x00"), "\x01\x01\x00\x00"},
		{made("int"), "\x01\x03int\x00"},
		{made("X y"), "\x01\x03X y\x00"},
		{made("é\xff"), "\x01\x03é\xff\x00"},
		{made(strings.Repeat("é", 16)), "\x01\x20" + strings.Repeat("é", 16) + "\x00"},
		// The edges of what is good.
		{chain(200, number(0)), strings.Repeat(head("s", 1), 199) + zero},
		{chain(200, made("z")), strings.Repeat(head("s", 1), 199) + head("z", 0)},
	} {
		for _, d := range []api.Data{r.d, strange(r.d)} {
			b, err := data.Encode(d)
			held(t, form(r.d), err, nil)
			held(t, form(r.d), b, []byte(r.b))
		}
		d, err := data.Decode([]byte(r.b))
		held(t, form(r.b), err, nil)
		held(t, form(r.b), d, r.d)
	}
	largest := full(4096)
	b, err := data.Encode(largest)
	held(t, "4096 nodes", err, nil)
	held(t, "4096 nodes", len(b), 4096*4)
	d, err := data.Decode(b)
	held(t, "4096 nodes", err, nil)
	held(t, "4096 nodes", data.Compare(d, largest), 0)
}

// P10.1: data that have no encoding, and which error is the first.
func TestEncodeErrors(t *testing.T) {
	name33, nameless, nine := made(strings.Repeat("n", 33)), made(""), wide(9)
	long17 := made(strings.Repeat("é", 17))
	type row struct {
		d   api.Data
		err error
	}
	rows := []row{
		{chain(201, number(1)), api.ErrLarge},
		{full(4097), api.ErrLarge},
		{wide(4096), api.ErrLarge},
		{wide(4095), api.ErrData},
		{wide(256), api.ErrData},
		{wide(264), api.ErrData},
		{made(strings.Repeat("n", 256)), api.ErrData},
		{made(strings.Repeat("n", 257)), api.ErrData},
		// Both faults.
		{chain(201, nameless), api.ErrLarge},
		{made("", chain(200, number(1))), api.ErrLarge},
		{made(strings.Repeat("n", 33), full(4096)), api.ErrLarge},
	}
	for _, fault := range []api.Data{name33, nameless, nine, long17} {
		rows = append(rows, row{fault, api.ErrData},
			row{made("f", fault), api.ErrData},
			row{made("f", fault, number(1), made("a")), api.ErrData},
			row{made("f", number(1), fault, made("a")), api.ErrData},
			row{made("f", number(1), made("a"), fault), api.ErrData},
			row{made("f", made("g", number(1), made("h", fault)), number(1)), api.ErrData},
			row{chain(199, fault), api.ErrData},
			row{made(strings.Repeat("n", 33), fault, number(1)), api.ErrData})
	}
	for _, r := range rows {
		b, err := data.Encode(r.d)
		held(t, form(r.d), err, r.err)
		if b != nil {
			t.Errorf("%.300s: %v", form(r.d), b)
		}
	}
}

// refused asks that bytes are refused.
func refused(t *testing.T, b []byte) {
	t.Helper()
	what := fmt.Sprintf("%d bytes: %.80x", len(b), b)
	d, err := data.Decode(b)
	held(t, what, err, api.ErrBytes)
	held(t, what, d, api.Data{})
}

// P10.1: bytes that are no encoding.
func TestDecodeErrors(t *testing.T) {
	refused(t, nil)
	leaf := head("a", 0)
	for _, text := range []string{
		"",
		"\x00",
		"\x01",
		"\x02",
		"\xff",
		"\x02" + zero[1:],
		"\x81\x01a\x00",
		"\x01\x00\x00",
		"\x01\x00a\x00",
		head(strings.Repeat("n", 33), 0),
		head(strings.Repeat("n", 255), 0),
		head("a", 9) + strings.Repeat(leaf, 9),
		head("a", 255) + strings.Repeat(leaf, 255),
		head("a", 1),
		head("a", 2) + leaf,
		head("a", 1) + leaf + leaf,
		head("a", 0) + leaf,
		head("a", 1) + "\x02" + zero[1:],
		head("a", 1) + "\x01\x00\x00",
		head("a", 2) + leaf + head("", 0),
		head("a", 2) + head("", 0) + leaf,
		head("a", 1) + head("b", 9) + strings.Repeat(leaf, 9),
		// Encodings of what isn't good.
		strings.Repeat(head("s", 1), 200) + leaf,
		strings.Repeat(head("s", 1), 200) + zero,
		head("f", 2) + leaf + strings.Repeat(head("s", 1), 199) + zero,
		strings.Repeat(head("s", 1), 1<<16) + zero,
		strings.Repeat(head("s", 1), 1<<22),
		encoding(full(4097)),
		encoding(tree(13, 2)),
		encoding(tree(8, 8)),
	} {
		refused(t, []byte(text))
	}
	for _, d := range []api.Data{number(-2), made("a"), made("cons", number(1), made("nil")), made("f", made("g", number(5), made("abc")), number(0), made("b"))} {
		whole := []byte(encoding(d))
		for size := range whole {
			refused(t, whole[:size])
			// What lies behind the bytes that are handed in is none of them.
			refused(t, whole[:size:size])
		}
		for c := range 256 {
			refused(t, append(slices.Clone(whole), byte(c)))
		}
		refused(t, append(slices.Clone(whole), whole...))
	}
}

// encoding is the bytes of data with short names and few arguments, whether good or not.
func encoding(d api.Data) string {
	var b bytes.Buffer
	addEncoding(&b, d)
	return b.String()
}

func addEncoding(b *bytes.Buffer, d api.Data) {
	if d.Ctor {
		b.WriteString(head(d.Name, len(d.Args)))
		for _, arg := range d.Args {
			addEncoding(b, arg)
		}
		return
	}
	b.WriteByte(0)
	for n, i := uint64(d.Int), 0; i < 8; i++ {
		b.WriteByte(byte(n % 256))
		n /= 256
	}
}

// P10.1: 4096 nodes are read, at depth 200, too, and one more of either isn't.
func TestDecodeEdges(t *testing.T) {
	for _, r := range []struct {
		d    api.Data
		good bool
	}{
		{full(4095), true},
		{full(4096), true},
		{full(4097), false},
		{made("f", chain(199, made("a")), full(3896)), true},
		{made("f", chain(199, made("a")), full(3897)), false},
		{made("f", full(3896), chain(199, made("a"))), true},
		{made("f", full(3897), chain(199, made("a"))), false},
		{made("f", chain(200, made("a")), full(3)), false},
		{made("f", full(3), chain(200, made("a"))), false},
		{tree(12, 2), true},
	} {
		d, err := data.Decode([]byte(encoding(r.d)))
		if !r.good {
			held(t, "too large", err, api.ErrBytes)
			held(t, "too large", d, api.Data{})
			continue
		}
		held(t, "good", err, nil)
		held(t, "good", d, r.d)
	}
}

// machine tells whether bytes are an encoding: it goes over them once, and keeps how many arguments are still to come.
func machine(b []byte) bool {
	open, nodes := []int{1}, 0
	for len(open) > 0 {
		last := len(open) - 1
		if open[last] == 0 {
			open = open[:last]
			continue
		}
		open[last]--
		nodes++
		switch {
		case nodes > 4096 || len(open) > 200 || len(b) == 0:
			return false
		case b[0] == 0 && len(b) >= 9:
			b = b[9:]
		case b[0] == 1 && len(b) >= 2 && b[1] >= 1 && b[1] <= 32 && len(b) >= int(b[1])+3 && b[b[1]+2] <= 8:
			open = append(open, int(b[b[1]+2]))
			b = b[b[1]+3:]
		default:
			return false
		}
	}
	return len(b) == 0
}

// accepted asks that bytes are read if and only if the machine accepts them, and that they are the encoding of what is read.
func accepted(t *testing.T, b []byte) bool {
	t.Helper()
	d, err := data.Decode(b)
	if machine(b) != (err == nil) {
		t.Fatalf("%v: %v", b, err)
	}
	if err != nil {
		refused(t, b)
		return false
	}
	again, err := data.Encode(d)
	if err != nil || !bytes.Equal(again, b) || encoding(d) != string(b) {
		t.Fatalf("%v: %+v, which is %v", b, d, again)
	}
	return true
}

// P10.1, P10.2: all short bytes.
func TestDecodeAll(t *testing.T) {
	count := 0
	var visit func(b []byte, of string, more int)
	visit = func(b []byte, of string, more int) {
		if accepted(t, b) {
			count++
		}
		if more > 0 {
			for _, c := range []byte(of) {
				visit(append(b, c), of, more-1)
			}
		}
	}
	visit(nil, "\x00\x01", 15)
	visit(nil, "\x00\x01\x02a", 8)
	visit(nil, "\x01\x02\x08\x09\x20\x21\xff", 5)
	if count < 800 {
		t.Error(count)
	}
}

// P10.1, P10.2: encodings in which a byte is another one, is missing, or is there twice.
func TestDecodeSpoilt(t *testing.T) {
	d, count := newDice(1), 0
	for range 3000 {
		b := []byte(encoding(d.good(4)))
		if !accepted(t, b) {
			t.Fatalf("%v isn't read", b)
		}
		for range 10 {
			at := d.Intn(len(b))
			spoilt := slices.Clone(b)
			switch d.Intn(3) {
			case 0:
				spoilt[at] = byte(one(d, 0, 1, 2, 3, 8, 9, 32, 33, d.Intn(256)))
			case 1:
				spoilt = slices.Delete(spoilt, at, at+1)
			case 2:
				spoilt = slices.Insert(spoilt, at, spoilt[at])
			}
			if accepted(t, spoilt) {
				count++
			}
		}
	}
	if count < 5000 {
		t.Error(count)
	}
}
