package history

import (
	"slices"

	"reaper/api"
	"reaper/spec"
)

// name is a thread, and which of its operations.
type name struct{ thread, seq int }

// named is an operation with its name. A log and spans mean the same one only if they say the same of all of it.
type named struct {
	name
	op api.Op
}

func ofSpan(s api.Span) named { return named{name{s.Thread, s.Seq}, s.Op} }

func ofLog(a api.Applied) named { return named{name{a.Thread, a.Seq}, a.Op} }

// place is one of a log, and its span once that is found.
type place struct {
	named
	res  api.Res
	span api.Span
}

// order is a log that is to tell what spans are.
type order []place

func lay(log []api.Applied) order {
	o := make(order, len(log))
	for i, a := range log {
		o[i] = place{named: ofLog(a), res: a.Res}
	}
	return o
}

// once asks that nothing was done twice, whatever was asked for under its name.
func (o order) once() {
	met := make(map[name]bool, len(o))
	for _, p := range o {
		demand(!met[p.name], api.ErrTwice)
		met[p.name] = true
	}
}

// find asks that all that was done was asked for. The spans are laid from behind, so that of two of one operation the first one stays.
func (o order) find(spans []api.Span) {
	first := make(map[named]api.Span, len(spans))
	for _, s := range slices.Backward(spans) {
		first[ofSpan(s)] = s
	}
	for i, p := range o {
		s, is := first[p.named]
		demand(is, api.ErrLost)
		o[i].span = s
	}
}

// whole asks that all that was told was done.
func (o order) whole(spans []api.Span) {
	done := make(map[named]bool, len(o))
	for _, p := range o {
		done[p.named] = true
	}
	for _, s := range spans {
		demand(pends(s) || done[ofSpan(s)], api.ErrLost)
	}
}

// inTime asks that who was told ahead comes ahead. Who is Before anybody ahead of it in the log is Before the one of them that began last, so that this one alone is kept; nobody is Before a span that begins at 0, which stands for it till there is one.
func (o order) inTime() {
	var last api.Span
	for _, p := range o {
		demand(!Before(p.span, last), api.ErrOrder)
		if p.span.From > last.From {
			last = p.span
		}
	}
}

// asTold asks that the log, and whoever was told, say what the specification tells in this order.
func (o order) asTold(object uint8, most int) {
	ops := make([]api.Op, len(o))
	for i, p := range o {
		ops[i] = p.op
	}
	_, told := spec.Run(object, most, nil, ops...)
	for i, p := range o {
		demand(p.res == told[i], api.ErrTold)
		demand(pends(p.span) || p.span.Res == told[i], api.ErrTold)
	}
}

func demand(holds bool, wrong api.Errno) {
	if !holds {
		panic(wrong)
	}
}
