package sweep

import (
	"reaper/api"
	"reaper/cells"
)

// What ACTIVE says of a record that is off the list, or on it.
const (
	off = 0
	on  = 1
)

// turn is a thread that takes one step at a memory, where records may be idle for as many passes as age says.
type turn struct {
	api.Thread
	m   *cells.Memory
	age int
}

// act is a sweep as it would be without a pause: each place goes on into the next one.
// As one step comes to one cell alone, a turn begins in the midst of it, at its place, and ends ahead of what the next one does.
func (x *turn) act() {
	switch x.Pc {
	case api.PcSweep:
		if !x.follow(api.Head, &x.Prev) {
			return
		}
		fallthrough
	case api.PcStep:
		if x.ends(api.PcStep) || !x.follow(x.Prev+api.Next, &x.Cur) {
			return
		}
		fallthrough
	case api.PcLive:
		if x.ends(api.PcLive) || !x.takes(x.live()) {
			return
		}
		fallthrough
	case api.PcOld:
		if x.ends(api.PcOld) || !x.takes(x.old()) {
			return
		}
		fallthrough
	case api.PcClose:
		if x.ends(api.PcClose) || !x.takes(x.closes()) {
			return
		}
		fallthrough
	case api.PcPast:
		if x.ends(api.PcPast) {
			return
		}
		x.load(x.Cur + api.Next)
		fallthrough
	case api.PcCut:
		if x.ends(api.PcCut) {
			return
		}
		x.store(x.Prev+api.Next, x.Look)
		fallthrough
	case api.PcOff:
		if x.ends(api.PcOff) {
			return
		}
		x.store(x.Cur+api.Active, off)
		x.Pc = api.PcStep
	case api.PcRelease:
		x.store(api.Lock, 0)
		x.Pc = api.PcWait
	}
}

// ends says whether a turn came to a place from the one ahead of it: it had its step there, and waits here for the next.
func (x *turn) ends(pc int) bool {
	came := x.Pc != pc
	x.Pc = pc
	return came
}

// follow has a turn be at the record that a cell leads to. It is false at the list's end, and the sweep's.
func (x *turn) follow(a int, at *int) bool {
	if x.load(a) == 0 {
		x.Pc = api.PcRelease
		return false
	}
	*at = int(x.Look)
	return true
}

// takes passes by the record at Cur, unless it is one to be taken off as far as it was looked at.
func (x *turn) takes(is bool) bool {
	if !is {
		x.Prev = x.Cur
		x.Pc = api.PcStep
	}
	return is
}

// live is false also of a record that is on the list, but is not marked yet.
func (x *turn) live() bool { return x.load(x.Cur+api.Active) == on }

func (x *turn) old() bool { return x.Pass-x.load(x.Cur+api.Age) > int64(x.age) }

// closes fails where the owner was faster, and waits: that record stays. Of one that is closed the owner can't ask until it is off the list.
func (x *turn) closes() bool {
	is, _ := x.m.Swap(x.Cur+api.Req, 0, api.Closed)
	return is
}

// load has Look be what a cell is. With an error memory tells 0, which is what a cell that is not there counts as.
func (x *turn) load(a int) int64 {
	x.Look, _ = x.m.Load(a)
	return x.Look
}

// store does nothing where there is no such cell, and what is done next does not hang on it.
func (x *turn) store(a int, v int64) { x.m.Store(a, v) }
