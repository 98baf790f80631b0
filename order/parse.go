package order

import (
	"greenscreen/addr"
	"greenscreen/api"
	"greenscreen/attr"
)

// The faults with which a reader gives up.
type (
	endsEarly struct{} // the bytes end within an order
	isNone    struct{} // a byte that is no order, or may not stand in one
	isUnfit   struct{} // a pair that may not stand in its order
)

// reader is bytes, and how many of them were read. It gives up by panic: an order is read in pieces, any of which may be broken.
type reader struct {
	bytes []byte
	at    int
}

// Parse is the orders of bytes.
func Parse(b []byte) (out []api.Order, read int, e api.Errno) {
	defer func() {
		switch fault := recover().(type) {
		case nil:
		case endsEarly:
			e = api.ErrShort
		case isNone:
			e = api.ErrOrder
		case isUnfit:
			e = api.ErrAttr
		default:
			// No fault of the bytes: it isn't to be taken for one.
			panic(fault)
		}
	}()
	r := reader{bytes: b}
	for r.at < len(b) {
		out = append(out, r.order())
		// Only now: of an order that is broken no byte counts.
		read = r.at
	}
	return out, read, api.OK
}

// next is the next byte.
func (r *reader) next() byte {
	if r.at == len(r.bytes) {
		panic(endsEarly{})
	}
	b := r.bytes[r.at]
	r.at++
	return b
}

// order is the next order.
func (r *reader) order() api.Order {
	if Plain(r.bytes[r.at]) {
		return api.Order{Kind: api.OrderData, Data: r.data()}
	}
	o := api.Order{Kind: r.next()}
	switch o.Kind {
	case api.OrderPT, api.OrderIC:
	case api.OrderSBA, api.OrderEUA:
		o.Addr = r.place()
	case api.OrderGE:
		o.Byte = shown(r.next(), true)
	case api.OrderRA:
		o.Addr = r.place()
		o.Byte, o.GE = r.sign()
	case api.OrderSF:
		// Value's six bits are those of an attribute that count.
		o.Byte = byte(addr.Value(r.next()))
	case api.OrderSA:
		o.Pairs = r.pairs(o.Kind, 1)
	case api.OrderSFE, api.OrderMF:
		o.Pairs = r.pairs(o.Kind, int(r.next()))
	default:
		panic(isNone{})
	}
	return o
}

// data is the plain bytes that stand together.
func (r *reader) data() []byte {
	from := r.at
	for r.at < len(r.bytes) && Plain(r.bytes[r.at]) {
		r.at++
	}
	return append([]byte(nil), r.bytes[from:r.at]...)
}

// place is a place's two bytes.
func (r *reader) place() int {
	first := r.next()
	return addr.Decode(first, r.next())
}

// sign is a byte that is shown, and whether GE stands ahead of it.
func (r *reader) sign() (b byte, ge bool) {
	b = r.next()
	ge = b == api.OrderGE
	if ge {
		b = r.next()
	}
	return shown(b, ge), ge
}

// shown is a byte that may be shown, with GE or without.
func shown(b byte, ge bool) byte {
	if !stands(b, ge) {
		panic(isNone{})
	}
	return b
}

// pairs is so many pairs of an order.
func (r *reader) pairs(kind byte, many int) []api.Pair {
	var out []api.Pair
	for range many {
		out = append(out, r.pair(kind))
	}
	return out
}

// pair is a pair of an order.
func (r *reader) pair(kind byte) api.Pair {
	p := api.Pair{Type: r.next()}
	p.Value = r.next()
	if attr.Check(kind, p) != api.OK {
		panic(isUnfit{})
	}
	return p
}
