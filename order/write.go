package order

import (
	"greenscreen/addr"
	"greenscreen/api"
	"greenscreen/attr"
)

// Write is bytes of orders.
func Write(os []api.Order, cells int) ([]byte, api.Errno) {
	var out []byte
	for _, o := range os {
		if e := check(o, cells); e != api.OK {
			return nil, e
		}
		out = write(out, o, cells)
	}
	return out, api.OK
}

// check tells what is wrong with an order, on a screen of so many cells.
func check(o api.Order, cells int) api.Errno {
	switch {
	case name(o.Kind) == "":
		return api.ErrOrder
	case !belongs(o):
		return api.ErrArg
	case len(o.Pairs) > mostPairs, o.Kind == api.OrderSA && len(o.Pairs) != 1:
		return api.ErrMany
	case !isPlace(o, cells):
		return api.ErrAddress
	case !mayStand(o):
		return api.ErrOrder
	case !isFit(o):
		return api.ErrAttr
	}
	return api.OK
}

// belongs tells whether an order has nothing that isn't its kind's.
func belongs(o api.Order) bool {
	return (o.Addr == 0 || hasAddr(o.Kind)) &&
		(o.Byte == 0 || hasByte(o.Kind)) &&
		(!o.GE || o.Kind == api.OrderRA) &&
		(len(o.Pairs) == 0 || hasPairs(o.Kind)) &&
		(len(o.Data) == 0 || o.Kind == api.OrderData)
}

// isPlace tells whether an order's place, if it has one, can be written.
func isPlace(o api.Order, cells int) bool {
	if !hasAddr(o.Kind) {
		return true
	}
	_, e := addr.Encode(o.Addr, cells)
	return e == api.OK
}

// mayStand tells whether an order's bytes, if it has some, may stand in it.
func mayStand(o api.Order) bool {
	switch o.Kind {
	case api.OrderSF:
		// Parse tells six bits: a byte that has others would come back as another one.
		return int(o.Byte) == addr.Value(o.Byte)
	case api.OrderGE:
		return stands(o.Byte, true)
	case api.OrderRA:
		return stands(o.Byte, o.GE)
	}
	for _, b := range o.Data {
		if !stands(b, false) {
			return false
		}
	}
	return true
}

// isFit tells whether an order's pairs may stand in it.
func isFit(o api.Order) bool {
	for _, p := range o.Pairs {
		if attr.Check(o.Kind, p) != api.OK {
			return false
		}
	}
	return true
}

// write is bytes with those of an order that is well behind them.
func write(out []byte, o api.Order, cells int) []byte {
	if o.Kind == api.OrderData {
		return append(out, o.Data...)
	}
	out = append(out, o.Kind)
	if hasAddr(o.Kind) {
		two, _ := addr.Encode(o.Addr, cells)
		out = append(out, two[:]...)
	}
	switch o.Kind {
	case api.OrderSF:
		return append(out, attr.Byte(o.Byte))
	case api.OrderGE:
		return append(out, o.Byte)
	case api.OrderRA:
		if o.GE {
			out = append(out, api.OrderGE)
		}
		return append(out, o.Byte)
	case api.OrderSFE, api.OrderMF:
		// SA has one pair always: they aren't counted there.
		out = append(out, byte(len(o.Pairs)))
	}
	for _, p := range o.Pairs {
		out = append(out, p.Type, p.Value)
	}
	return out
}
