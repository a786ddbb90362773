package owner

import (
	"reaper/api"
	"reaper/cells"
	"reaper/word"
)

// What ACTIVE says of a record: off the list, on it, or that somebody is about to put it there.
const (
	off   = 0
	on    = 1
	claim = 2
)

// turn is a thread that takes one step at a memory, and what its operation is told by it.
type turn struct {
	api.Thread
	m    *cells.Memory
	res  api.Res
	told bool
}

// act does what is done at a turn's place.
func (x *turn) act() {
	places := [...]func(){
		api.PcAlloc:   x.alloc,
		api.PcPublish: x.publish,
		api.PcClosed:  x.closed,
		api.PcOpen:    x.open,
		api.PcCheck:   x.check,
		api.PcClaim:   x.claim,
		api.PcFront:   x.front,
		api.PcNext:    x.next,
		api.PcLink:    x.link,
		api.PcMark:    x.mark,
		api.PcWait:    x.wait,
		api.PcLock:    x.lock,
		api.PcTake:    x.take,
		api.PcRead:    x.read,
		api.PcSure:    x.sure,
		api.PcDrop:    x.drop,
	}
	places[x.Pc]()
}

// alloc stays where it is without room: only who has a record goes on.
func (x *turn) alloc() {
	at, e := x.m.Alloc(api.Size)
	if e != api.OK {
		return
	}
	x.Rec = at
	x.Pc = api.PcPublish
}

// publish fails where the record is closed. Who sweeps it has it off the list soon.
func (x *turn) publish() {
	x.fork(x.swap(x.mine(api.Req), 0, x.Word), api.PcCheck, api.PcClosed)
}

func (x *turn) closed() { x.fork(x.load(x.mine(api.Active)) == off, api.PcOpen, api.PcClosed) }

func (x *turn) open() { x.store(x.mine(api.Req), x.Word, api.PcCheck) }

func (x *turn) check() { x.fork(x.load(x.mine(api.Active)) == off, api.PcClaim, api.PcWait) }

// claim fails where who serves was faster, and puts the record on the list itself.
func (x *turn) claim() {
	x.fork(x.swap(x.mine(api.Active), off, claim), api.PcSure, api.PcWait)
}

// sure is asked behind the claim, as ahead of it the record may be served, and swept off, at any time.
func (x *turn) sure() { x.fork(x.load(x.mine(api.Req)) == x.Word, api.PcFront, api.PcDrop) }

func (x *turn) drop() { x.store(x.mine(api.Active), off, api.PcWait) }

func (x *turn) front() {
	x.load(api.Head)
	x.Pc = api.PcNext
}

func (x *turn) next() { x.store(x.mine(api.Next), x.Look, api.PcLink) }

// link leaves in Look what ACTIVE is to be: who is not on the list now waits to be helped.
func (x *turn) link() {
	is := x.swap(api.Head, x.Look, int64(x.Rec))
	x.Look = off
	if is {
		x.Look = on
	}
	x.Pc = api.PcMark
}

func (x *turn) mark() { x.store(x.mine(api.Active), x.Look, api.PcWait) }

func (x *turn) wait() { x.fork(x.load(x.mine(api.Req)) == x.Word, api.PcLock, api.PcRead) }

func (x *turn) lock() { x.fork(x.load(api.Lock) == 0, api.PcTake, api.PcWait) }

// take puts one more than Id, as 0 is the lock that nobody has.
func (x *turn) take() {
	is := x.swap(api.Lock, 0, int64(x.Id)+1)
	if is {
		x.Runs = 0
	}
	x.fork(is, api.PcPass, api.PcWait)
}

// read ends an operation whatever TOLD is: where that is no word, it was told nothing.
func (x *turn) read() {
	x.res, _ = word.OfRes(x.load(x.mine(api.Told)))
	x.told = true
	x.Word = 0
	x.Pc = api.PcIdle
}

// mine is where a cell of the thread's record is. Whether it is there, memory says.
func (x *turn) mine(cell int) int { return x.Rec + cell }

// load has Look be what a cell is.
func (x *turn) load(a int) int64 {
	x.Look = known(x.m.Load(a))
	return x.Look
}

// store goes on whether there is such a cell or not.
func (x *turn) store(a int, v int64, to int) {
	x.m.Store(a, v)
	x.Pc = to
}

func (x *turn) swap(a int, old, v int64) bool { return known(x.m.Swap(a, old, v)) }

func (x *turn) fork(is bool, yes, no int) {
	x.Pc = no
	if is {
		x.Pc = yes
	}
}

// known is what memory tells, but a zero value with an error: what is not there counts as 0, or false.
func known[T any](v T, e api.Errno) T {
	if e != api.OK {
		var nothing T
		return nothing
	}
	return v
}
