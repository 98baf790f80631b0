package command

import (
	"greenscreen/api"
	"greenscreen/order"
)

// Parse is a record's command.
func Parse(b []byte) (Command, api.Errno) {
	if len(b) == 0 || told(b[0]) == 0 {
		return Command{}, api.ErrCommand
	}
	c := Command{Kind: told(b[0])}
	switch {
	case c.Kind == api.CmdWSF:
		c.Fields, c.Err = parseFields(b[1:])
	case hasOrders(c.Kind):
		if len(b) == 1 {
			return Command{}, api.ErrShort
		}
		c.WCC = b[1]
		c.Orders, _, c.Err = order.Parse(b[2:])
	}
	return c, api.OK
}

// parseFields is the fields of bytes, up to the first that isn't as said.
func parseFields(b []byte) ([]Field, api.Errno) {
	var out []Field
	for len(b) > 0 {
		within, behind, ok := cut(b)
		if !ok {
			return out, api.ErrStruct
		}
		f, ok := parseField(within)
		if !ok {
			return out, api.ErrStruct
		}
		out, b = append(out, f), behind
	}
	return out, api.OK
}

// cut is what stands in the first field of bytes, from its kind on, and what stands behind that field.
func cut(b []byte) (within, behind []byte, ok bool) {
	if len(b) < lengthBytes {
		return nil, nil, false
	}
	many := int(b[0])*256 + int(b[1])
	if many == 0 {
		many = len(b)
	}
	// A length of its own two bytes leaves no room for a kind.
	if many <= lengthBytes || many > len(b) {
		return nil, nil, false
	}
	return b[lengthBytes:many], b[many:], true
}

// parseField is a field of its bytes, from its kind on, and whether it is as said.
func parseField(b []byte) (Field, bool) {
	f := Field{ID: b[0]}
	switch {
	case f.ID == idRead && len(b) == 3:
		f.Op = b[2]
		return f, asSaid(f) && b[1] == aheadOf(f.Op)
	case f.ID == idReset && len(b) == 2:
		f.Op = b[1]
		return f, asSaid(f)
	case f.ID == idWrite && len(b) >= 3:
		// Its kind ahead of the rest: fields within fields aren't even looked at, however deep they go.
		f.Op, f.Inner.Kind = b[1], told(b[2])
		if !asSaid(f) {
			return Field{}, false
		}
		var e api.Errno
		f.Inner, e = Parse(b[2:])
		return f, e == api.OK
	}
	return Field{}, false
}
