package comb

import (
	"slices"

	"reaper/api"
	"reaper/cells"
	"reaper/object"
	"reaper/record"
	"reaper/word"
)

// What ACTIVE says of a record: off the list, on it, or that somebody is about to put it there.
const (
	off   = 0
	on    = 1
	claim = 2
)

// turn is a thread that takes one step at a memory and an object, and the items that are done by it.
type turn struct {
	api.Thread
	m      *cells.Memory
	o      *object.Object
	passes int
	done   []api.Item
}

// act does what is done at a turn's place.
func (x *turn) act() {
	places := map[int]func(){
		api.PcPass:  x.pass,
		api.PcStamp: x.stamp,
		api.PcMany:  x.many,
		api.PcLook:  x.look,
		api.PcPend:  x.pend,
		api.PcHelp:  x.help,
		api.PcFirst: x.first,
		api.PcBare:  x.bare,
		api.PcSolo:  x.solo,
		api.PcAfter: x.after,
		api.PcTie:   x.tie,
		api.PcSet:   x.set,
		api.PcSeen:  x.seen,
		api.PcScan:  x.scan,
		api.PcPick:  x.pick,
		api.PcOn:    x.next,
		api.PcDo:    x.do,
		api.PcTell:  x.tell,
		api.PcAge:   x.age,
		api.PcFree:  x.free,
	}
	places[x.Pc]()
}

func (x *turn) pass() {
	x.load(api.Pass)
	x.Pc = api.PcStamp
}

func (x *turn) stamp() {
	x.Pass = x.Look + 1
	x.Runs++
	x.store(api.Pass, x.Pass)
	x.Pc = api.PcMany
}

// many lays down how many records are looked at, so that the look ends: who lays one later puts it on the list itself, or waits for the next pass.
func (x *turn) many() {
	x.Many = record.Many(x.m)
	x.Nth = 0
	x.Batch = nil
	x.fork(x.Many == 0, api.PcScan, api.PcLook)
}

func (x *turn) look() {
	x.Cur = record.Base(x.Nth)
	x.helps(x.load(x.here(api.Active)) == off, api.PcPend)
}

func (x *turn) pend() { x.helps(word.Asks(x.load(x.here(api.Req))), api.PcHelp) }

// help fails where the owner was faster, who then puts its record on the list itself.
func (x *turn) help() { x.helps(x.swap(x.here(api.Active), off, claim), api.PcFirst) }

func (x *turn) first() {
	if x.load(api.Head) == 0 {
		x.Pc = api.PcBare
		return
	}
	x.Prev = int(x.Look)
	x.Pc = api.PcAfter
}

func (x *turn) bare() {
	x.store(x.here(api.Next), 0)
	x.Pc = api.PcSolo
}

// solo fails where an owner put its own record on the empty list. There is a first one then, to stand behind.
func (x *turn) solo() { x.fork(x.swap(api.Head, 0, int64(x.Cur)), api.PcSeen, api.PcFirst) }

// after and set need no swap: owners come to HEAD alone, and only who has the lock writes the NEXT of a record on the list.
func (x *turn) after() {
	x.load(x.Prev + api.Next)
	x.Pc = api.PcTie
}

func (x *turn) tie() {
	x.store(x.here(api.Next), x.Look)
	x.Pc = api.PcSet
}

func (x *turn) set() {
	x.store(x.Prev+api.Next, int64(x.Cur))
	x.Pc = api.PcSeen
}

func (x *turn) seen() {
	x.store(x.here(api.Active), on)
	x.goOn()
}

func (x *turn) scan() {
	x.load(api.Head)
	x.follow(api.PcSweep)
}

func (x *turn) pick() {
	if word.Asks(x.load(x.here(api.Req))) {
		x.Batch = append(x.Batch, api.Item{Rec: x.Cur, Word: x.Look})
	}
	x.Pc = api.PcOn
}

func (x *turn) next() {
	x.load(x.here(api.Next))
	if len(x.Batch) == 0 {
		x.follow(api.PcSweep)
		return
	}
	x.follow(api.PcDo)
}

func (x *turn) do() {
	x.done = served(x.o, x.Batch...)
	x.Batch = slices.Clone(x.done)
	x.Nth = 0
	x.Pc = api.PcTell
}

func (x *turn) tell() {
	if i, is := x.item(); is {
		x.store(i.Rec+api.Told, i.Res)
	}
	x.Pc = api.PcAge
}

func (x *turn) age() {
	if i, is := x.item(); is {
		x.store(i.Rec+api.Age, x.Pass)
	}
	x.Pc = api.PcFree
}

// free comes last of what is stored, as an owner reads what it was told once its REQ has changed.
// An item that is not there ends the batch, also where Nth is below 0 and other ones would stand behind it.
func (x *turn) free() {
	i, is := x.item()
	if is {
		x.store(i.Rec+api.Req, 0)
	}
	x.Nth++
	if _, more := x.item(); is && more {
		x.Pc = api.PcTell
		return
	}
	x.fork(x.Runs < x.passes, api.PcPass, api.PcSweep)
}

// served are items with what an object tells of their operations, done together. What it does not tell of, as a nil one does not, is told nothing.
func served(o *object.Object, items ...api.Item) []api.Item {
	ops := make([]api.Op, len(items))
	for i, item := range items {
		ops[i], _ = word.OfOp(item.Word)
	}
	told := make([]api.Res, len(items))
	copy(told, o.Do(ops...))
	done := make([]api.Item, len(items))
	for i, item := range items {
		item.Res = word.Res(told[i])
		done[i] = item
	}
	return done
}

// item is the one of the batch whose turn it is to be told.
func (x *turn) item() (api.Item, bool) {
	if x.Nth < 0 || x.Nth >= len(x.Batch) {
		return api.Item{}, false
	}
	return x.Batch[x.Nth], true
}

// here is where a cell of the record at Cur is. Whether it is there, memory says.
func (x *turn) here(cell int) int { return x.Cur + cell }

// helps goes a step further in helping a record onto the list, or on to the next one.
func (x *turn) helps(is bool, further int) {
	if is {
		x.Pc = further
		return
	}
	x.goOn()
}

// goOn is done with the record at Cur.
func (x *turn) goOn() {
	x.Nth++
	x.fork(x.Nth < x.Many, api.PcLook, api.PcScan)
}

// follow comes to the record that Look leads to, or ends the walk.
func (x *turn) follow(end int) {
	if x.Look == 0 {
		x.Pc = end
		return
	}
	x.Cur = int(x.Look)
	x.Pc = api.PcPick
}

// load has Look be what a cell is. With an error memory tells 0, which is what a cell that is not there counts as.
func (x *turn) load(a int) int64 {
	x.Look, _ = x.m.Load(a)
	return x.Look
}

// store does nothing where there is no such cell, and what is done next does not hang on it.
func (x *turn) store(a int, v int64) { x.m.Store(a, v) }

// swap is false of a cell that is not there, as memory tells it with its error.
func (x *turn) swap(a int, old, v int64) bool {
	is, _ := x.m.Swap(a, old, v)
	return is
}

func (x *turn) fork(is bool, yes, no int) {
	x.Pc = no
	if is {
		x.Pc = yes
	}
}
