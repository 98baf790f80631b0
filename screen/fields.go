package screen

import (
	"greenscreen/api"
	"greenscreen/command"
)

// The kinds of structured fields; of another kind than these is a write.
const (
	idRead  = 0x01
	idReset = 0x03
)

// opPlain is a reset's Op that asks for the plain size.
const opPlain = 0

// list is a command's fields, how many of them are done, and the error that is told behind them.
type list struct {
	fields []command.Field
	done   int
	err    api.Errno
}

// begin is where a list of fields begins, and how many it has.
type begin struct {
	first *command.Field
	many  int
}

// pile is the lists of fields that are being done, each asked for within the one below it.
type pile struct {
	lists []list
	begun map[begin]struct{}
}

// beginning is where a list begins; of one without fields nowhere.
func beginning(fs []command.Field) begin {
	if len(fs) == 0 {
		return begin{}
	}
	return begin{&fs[0], len(fs)}
}

// lay lays a command's fields on the pile, to be done next.
func (p *pile) lay(c command.Command) {
	at := beginning(c.Fields)
	// A list that stands within itself would never end: it isn't begun anew while it is being done.
	if _, again := p.begun[at]; again {
		return
	}
	p.begun[at] = struct{}{}
	p.lists = append(p.lists, list{fields: c.Fields, err: c.Err})
}

// next is the next field of the list on top, or that none is left there.
func (p *pile) next() (command.Field, bool) {
	top := &p.lists[len(p.lists)-1]
	if top.done == len(top.fields) {
		return command.Field{}, false
	}
	top.done++
	return top.fields[top.done-1], true
}

// take takes the list on top away, and tells its error.
func (p *pile) take() api.Errno {
	top := p.lists[len(p.lists)-1]
	p.lists = p.lists[:len(p.lists)-1]
	delete(p.begun, beginning(top.fields))
	return top.err
}

// structured does a command that has fields. Those within its fields are laid on a pile: a call within a call for each may run out of stack.
func (s *Screen) structured(c command.Command) Result {
	p := pile{begun: map[begin]struct{}{}}
	p.lay(c)
	var out Result
	for len(p.lists) > 0 {
		f, some := p.next()
		if !some {
			if e := p.take(); e != api.OK {
				return Result{Err: e}
			}
			continue
		}
		switch {
		case f.ID == idRead:
			// What fields within fields ask to be read isn't told.
			if len(p.lists) == 1 && out.Reply == 0 {
				out.Reply = f.Op
			}
		case f.ID == idReset:
			s.renew(sizeOf(f.Op))
		case f.Inner.Kind == api.CmdWSF:
			p.lay(f.Inner)
		default:
			in := s.single(f.Inner)
			if in.Err != api.OK {
				return in
			}
			out.Restore = out.Restore || in.Restore
			out.Alarm = out.Alarm || in.Alarm
		}
	}
	return out
}

// sizeOf is which of both sizes a reset's Op asks for.
func sizeOf(op byte) int {
	if op == opPlain {
		return plainOne
	}
	return otherOne
}
