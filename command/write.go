package command

import (
	"greenscreen/api"
	"greenscreen/order"
)

// mostField is how many bytes a field may have: two bytes tell no greater length.
const mostField = 65535

// Write is bytes of a command.
func Write(c Command, cells int) ([]byte, api.Errno) {
	switch c.Kind {
	case api.CmdW, api.CmdEW, api.CmdEWA:
		b, e := order.Write(c.Orders, cells)
		if e != api.OK {
			return nil, e
		}
		return append([]byte{c.Kind, c.WCC}, b...), api.OK
	case api.CmdEAU, api.CmdRB, api.CmdRM, api.CmdRMA:
		return []byte{c.Kind}, api.OK
	case api.CmdWSF:
		return writeFields(c.Fields, cells)
	}
	return nil, api.ErrCommand
}

// writeFields is bytes of a command of fields.
func writeFields(fs []Field, cells int) ([]byte, api.Errno) {
	out := []byte{api.CmdWSF}
	inner := api.OK
	for _, f := range fs {
		b, e := writeField(f, cells)
		if e == api.ErrStruct {
			return nil, e
		}
		// A write's own error is told only where no field has ErrStruct, wherever that one stands.
		if inner == api.OK {
			inner = e
		}
		out = append(out, b...)
	}
	if inner != api.OK {
		return nil, inner
	}
	return out, api.OK
}

// writeField is bytes of a field: ErrStruct, or else the error of its Inner.
func writeField(f Field, cells int) ([]byte, api.Errno) {
	if !asSaid(f) {
		return nil, api.ErrStruct
	}
	// The length is laid in when it is known.
	out := []byte{0, 0, f.ID}
	switch f.ID {
	case idRead:
		out = append(out, aheadOf(f.Op), f.Op)
	case idReset:
		out = append(out, f.Op)
	case idWrite:
		b, e := Write(f.Inner, cells)
		if e != api.OK {
			return nil, e
		}
		out = append(append(out, 0), b...)
	}
	if len(out) > mostField {
		return nil, api.ErrStruct
	}
	out[0], out[1] = byte(len(out)/256), byte(len(out)%256)
	return out, api.OK
}
