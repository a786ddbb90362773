package comb

import (
	"fmt"
	"math"
	"reflect"
	"slices"
	"testing"

	"reaper/api"
	"reaper/cells"
	"reaper/object"
	"reaper/record"
	"reaper/word"
)

// numbers are what a cell, or a field, may be, from the least to the greatest.
var numbers = []int64{
	math.MinInt64, math.MinInt64 + 1, -1 << 40, -1 << 32, -1 << 31, -256, -2, -1, 0, 1, 2, 3, 4, 8, 55, 77, 255, 256, 257,
	1 << 16, 1 << 31, 1 << 32, 1<<32 + 1, 1<<32 + 2, 1<<40 - 1, 1 << 40, 1<<40 + 1, 1 << 62, math.MaxInt64 - 1, math.MaxInt64,
}

// elsewhere are places at which nobody serves; some would be one at which somebody does if bits were cut off, or if signs were.
var elsewhere = []int{
	0, 1, 2, 11, 16, 17, 18, 19, 40, 41, 44, 48, 49, 50, 60, 100, 1000, 1<<8 + 20, 1<<8 + 39, 1<<16 + 22, 1<<31 + 33, 1<<32 + 20, 1<<32 + 36, 1<<33 + 39, 1<<62 + 25,
	math.MaxInt - 1, math.MaxInt, -1, -19, -20, -21, -36, -39, -40, -1<<8 + 20, -1<<16 + 22, -1<<31 + 33, -1<<32 + 20, -1<<32 + 36, -1<<62 + 25,
	math.MinInt, math.MinInt + 1, math.MinInt + 20, math.MinInt + 39,
}

// full is a thread of which no field is 0, so that each that changes is seen. C is the record at 8.
func full(pc int) api.Thread {
	return api.Thread{
		Id: 4, Pc: pc, Rec: 13, Seq: 6, Word: 77, Look: 55, Cur: 8, Prev: 3, Nth: 1, Many: 24, Pass: 25, Runs: 26,
		Batch: []api.Item{{Rec: 3, Word: 31, Res: 32}, {Rec: 8, Word: 33, Res: 34}, {Rec: 13, Word: 35, Res: 36}},
	}
}

// lay is a memory of some numbers, one in each cell, and of room behind them.
func lay(t testing.TB, room int, numbers ...int64) *cells.Memory {
	t.Helper()
	m := cells.New(len(numbers) + room)
	if at, e := m.Alloc(len(numbers)); at != 0 || e != api.OK {
		t.Fatalf("Alloc(%d) is %d, %v", len(numbers), at, e)
	}
	for a, v := range numbers {
		store(t, m, a, v)
	}
	return m
}

// store writes a cell that is there.
func store(t testing.TB, m *cells.Memory, a int, v int64) {
	t.Helper()
	if e := m.Store(a, v); e != api.OK {
		t.Fatalf("Store(%d, %d) is %v", a, v, e)
	}
}

// three is LOCK, HEAD, PASS and three records, at 3, 8 and 13, whose cells are all different, and none is 0, 1 or 2.
func three() []int64 {
	l := make([]int64, 18)
	for a := range l {
		l[a] = int64(101 + a)
	}
	return l
}

// The cells of the record at 8, at which full's Cur is, and NEXT of the one at 3, at which its Prev is.
const (
	req    = 8
	active = 9
	next   = 11
	ahead  = 6
)

// w is an operation's word.
func w(kind uint8, val int32) int64 { return word.Op(api.Op{Kind: kind, Val: val}) }

// r is the word of what is told.
func r(code uint8, val int32) int64 { return word.Res(api.Res{Code: code, Val: val}) }

// same says whether two threads are. A nil batch is an empty one.
func same(a, b api.Thread) bool {
	if !slices.Equal(a.Batch, b.Batch) {
		return false
	}
	a.Batch, b.Batch = nil, nil
	return reflect.DeepEqual(a, b)
}

// apart checks that one list shares no memory with another one, and that there is nothing of it behind its length.
func apart(t *testing.T, what string, a, b []api.Item) {
	t.Helper()
	for i := range a {
		was := slices.Clone(b)
		a[i].Rec++
		if !slices.Equal(b, was) {
			t.Errorf("%s: they share their memory", what)
		}
		a[i].Rec--
	}
	for _, i := range a[len(a):cap(a)] {
		if i != (api.Item{}) {
			t.Errorf("%s: %v stands behind it", what, i)
		}
	}
}

// way is one of a place's ways: what is otherwise ahead of the step than full and three are, and what is otherwise behind it than it was.
// still is one that comes to no cell.
type way struct {
	name   string
	pc     int
	passes int
	given  func(*api.Thread)
	cells  map[int]int64
	goes   func(*api.Thread)
	wrote  map[int]int64
	still  bool
}

// try takes one step and checks all: the thread, the items, the cells, how many steps were counted, and that what was handed in is as it was.
func (w way) try(t *testing.T) {
	t.Helper()
	in := full(w.pc)
	if w.given != nil {
		w.given(&in)
	}
	was := in
	was.Batch = slices.Clone(in.Batch)
	l := three()
	for a, v := range w.cells {
		l[a] = v
	}
	behind := slices.Clone(l)
	for a, v := range w.wrote {
		behind[a] = v
	}
	want := in
	want.Batch = slices.Clone(in.Batch)
	w.goes(&want)
	m := lay(t, 0, l...)
	steps := m.Steps() + 1
	if w.still {
		steps--
	}
	o := object.New(api.Stack, 4, false)
	o.Do(api.Op{Kind: api.Push, Val: 9})
	got, items := Step(m, o, w.passes, in)
	if !same(got, want) {
		t.Errorf("%d, %s: it is\n%+v, not\n%+v", w.pc, w.name, got, want)
	}
	if len(items) != 0 || !slices.Equal(o.Items(), []int32{9}) {
		t.Errorf("%d, %s: the items are %v, and the object's %v", w.pc, w.name, items, o.Items())
	}
	if all := m.Cells(); !slices.Equal(all, behind) {
		t.Errorf("%d, %s: the cells are\n%v, not\n%v", w.pc, w.name, all, behind)
	}
	if m.Steps() != steps {
		t.Errorf("%d, %s: the steps are %d, not %d", w.pc, w.name, m.Steps(), steps)
	}
	if !reflect.DeepEqual(in, was) {
		t.Errorf("%d, %s: what was handed in is %+v now", w.pc, w.name, in)
	}
	apart(t, "Batch", got.Batch, in.Batch)
}

// to is a thread that only goes to a place.
func to(pc int) func(*api.Thread) { return func(x *api.Thread) { x.Pc = pc } }

// seen is one that goes to a place, and what it loaded is Look.
func seen(v int64, pc int) func(*api.Thread) {
	return func(x *api.Thread) { x.Look, x.Pc = v, pc }
}

// onward is one that goes ON to the next record.
func onward(x *api.Thread) { x.Nth, x.Pc = x.Nth+1, 23 }

// seenOnward is one that goes ON, and what it loaded is Look.
func seenOnward(v int64) func(*api.Thread) {
	return func(x *api.Thread) {
		x.Look = v
		onward(x)
	}
}

// met is one that goes to a place, and what it loaded is Look and Cur.
func met(v int64, pc int) func(*api.Thread) {
	return func(x *api.Thread) { x.Look, x.Cur, x.Pc = v, int(v), pc }
}

// picked is one that goes to 35 with one item more.
func picked(v int64) func(*api.Thread) {
	return func(x *api.Thread) {
		x.Look, x.Pc = v, 35
		x.Batch = append(x.Batch, api.Item{Rec: x.Cur, Word: v})
	}
}

// looks is one whose Look is another one.
func looks(v int64) func(*api.Thread) { return func(x *api.Thread) { x.Look = v } }

// atNth is one whose Nth is another one.
func atNth(n int) func(*api.Thread) { return func(x *api.Thread) { x.Nth = n } }

// bare is one without a Batch.
func bare(x *api.Thread) { x.Batch = nil }

func TestExample(t *testing.T) {
	m := record.Open(1)
	store(t, m, api.Pass, 4)
	o := object.New(api.Stack, 4, false)
	x, l := Step(m, o, 1, api.Thread{Pc: api.PcScan})
	if !same(x, api.Thread{Pc: api.PcSweep}) || len(l) != 0 || Serves(x) {
		t.Errorf("at 33 of an empty list: %+v, %v", x, l)
	}
	x, l = Step(m, o, 1, api.Thread{Pc: api.PcPass})
	if !same(x, api.Thread{Pc: api.PcStamp, Look: 4}) || len(l) != 0 || !Serves(x) {
		t.Errorf("at 20: %+v, %v", x, l)
	}
}

func TestServes(t *testing.T) {
	for pc := -60; pc <= 60; pc++ {
		want := pc >= 20 && pc <= 39
		if got := Serves(api.Thread{Pc: pc}); got != want {
			t.Errorf("Serves at %d is %v", pc, got)
		}
		if got := Serves(full(pc)); got != want {
			t.Errorf("Serves of a full thread at %d is %v", pc, got)
		}
	}
	for _, pc := range elsewhere {
		if Serves(api.Thread{Pc: pc}) || Serves(full(pc)) {
			t.Errorf("Serves at %d is true", pc)
		}
	}
}

func TestPass(t *testing.T) {
	for _, w := range []way{
		{name: "the first pass", pc: 20, cells: map[int]int64{api.Pass: 0}, goes: seen(0, 21)},
		{name: "a later pass", pc: 20, cells: map[int]int64{api.Pass: 4}, goes: seen(4, 21)},
		{name: "whatever PASS is", pc: 20, goes: seen(103, 21)},

		{name: "whatever Look is", pc: 21, goes: func(x *api.Thread) { x.Pass, x.Runs, x.Pc = 56, 27, 22 }, wrote: map[int]int64{api.Pass: 56}},
		{name: "the first pass", pc: 21, given: func(x *api.Thread) { x.Look, x.Runs, x.Pass = 0, 0, 0 }, goes: func(x *api.Thread) { x.Pass, x.Runs, x.Pc = 1, 1, 22 }, wrote: map[int]int64{api.Pass: 1}},
		{name: "PASS is not Look any more", pc: 21, cells: map[int]int64{api.Pass: 9}, goes: func(x *api.Thread) { x.Pass, x.Runs, x.Pc = 56, 27, 22 }, wrote: map[int]int64{api.Pass: 56}},
		{name: "Look below 0", pc: 21, given: looks(-1), goes: func(x *api.Thread) { x.Pass, x.Runs, x.Pc = 0, 27, 22 }, wrote: map[int]int64{api.Pass: 0}},
		{name: "Pass goes round", pc: 21, given: looks(math.MaxInt64), goes: func(x *api.Thread) { x.Pass, x.Runs, x.Pc = math.MinInt64, 27, 22 }, wrote: map[int]int64{api.Pass: math.MinInt64}},
		{name: "Runs goes round", pc: 21, given: func(x *api.Thread) { x.Runs = math.MaxInt }, goes: func(x *api.Thread) { x.Pass, x.Runs, x.Pc = 56, math.MinInt, 22 }, wrote: map[int]int64{api.Pass: 56}},
		{name: "Runs below 0", pc: 21, given: func(x *api.Thread) { x.Runs = -1 }, goes: func(x *api.Thread) { x.Pass, x.Runs, x.Pc = 56, 0, 22 }, wrote: map[int]int64{api.Pass: 56}},

		{name: "three records", pc: 22, goes: func(x *api.Thread) { x.Many, x.Nth, x.Batch, x.Pc = 3, 0, nil, 23 }, still: true},
		{name: "without a Batch", pc: 22, given: bare, goes: func(x *api.Thread) { x.Many, x.Nth, x.Pc = 3, 0, 23 }, still: true},
	} {
		w.try(t)
	}
}

// TestMany is 22 at memories that end anywhere, also within a record, and ahead of the first.
func TestMany(t *testing.T) {
	for top := 0; top <= 40; top++ {
		many, pc := 0, 33
		for many < 8 && 3+5*(many+1) <= top {
			many, pc = many+1, 23
		}
		m := lay(t, 10, make([]int64, top)...)
		steps := m.Steps()
		want := full(pc)
		want.Many, want.Nth, want.Batch = many, 0, nil
		got, items := Step(m, nil, 1, full(22))
		if !same(got, want) || len(items) != 0 || m.Steps() != steps {
			t.Errorf("of %d cells: %+v, %v, %d steps", top, got, items, m.Steps()-steps)
		}
	}
}

func TestHelp(t *testing.T) {
	for _, w := range []way{
		{name: "off", pc: 23, cells: map[int]int64{active: 0}, goes: seen(0, 24)},
		{name: "on", pc: 23, cells: map[int]int64{active: 1}, goes: seenOnward(1)},
		{name: "in between", pc: 23, cells: map[int]int64{active: 2}, goes: seenOnward(2)},
		{name: "below 0", pc: 23, cells: map[int]int64{active: -1}, goes: seenOnward(-1)},
		{name: "neither", pc: 23, goes: seenOnward(110)},
		{name: "wherever Cur was", pc: 23, given: func(x *api.Thread) { x.Cur = 13 }, cells: map[int]int64{active: 0}, goes: func(x *api.Thread) { x.Cur, x.Look, x.Pc = 8, 0, 24 }},
		{name: "wherever Cur was, and on", pc: 23, given: func(x *api.Thread) { x.Cur = -7 }, goes: func(x *api.Thread) { x.Cur, x.Look, x.Nth, x.Pc = 8, 110, 2, 23 }},
		{name: "the first record", pc: 23, given: atNth(0), cells: map[int]int64{4: 0}, goes: func(x *api.Thread) { x.Cur, x.Look, x.Pc = 3, 0, 24 }},
		{name: "the first record, on", pc: 23, given: atNth(0), goes: func(x *api.Thread) { x.Cur, x.Look, x.Nth, x.Pc = 3, 105, 1, 23 }},
		{name: "the last record", pc: 23, given: atNth(2), cells: map[int]int64{14: 0}, goes: func(x *api.Thread) { x.Cur, x.Look, x.Pc = 13, 0, 24 }},

		{name: "asked", pc: 24, cells: map[int]int64{req: 77}, goes: seen(77, 25)},
		{name: "just above 0", pc: 24, cells: map[int]int64{req: 1}, goes: seen(1, 25)},
		{name: "above 0, but no word", pc: 24, cells: map[int]int64{req: 1<<40 + 1}, goes: seen(1<<40+1, 25)},
		{name: "above 0 in high bits", pc: 24, cells: map[int]int64{req: 1 << 32}, goes: seen(1<<32, 25)},
		{name: "nothing asked", pc: 24, cells: map[int]int64{req: 0}, goes: seenOnward(0)},
		{name: "closed", pc: 24, cells: map[int]int64{req: -1}, goes: seenOnward(-1)},
		{name: "far below 0", pc: 24, cells: map[int]int64{req: math.MinInt64 + 1}, goes: seenOnward(math.MinInt64 + 1)},

		{name: "off", pc: 25, cells: map[int]int64{active: 0}, goes: to(26), wrote: map[int]int64{active: 2}},
		{name: "on", pc: 25, cells: map[int]int64{active: 1}, goes: onward},
		{name: "in between", pc: 25, cells: map[int]int64{active: 2}, goes: onward},
		{name: "neither", pc: 25, goes: onward},
	} {
		w.try(t)
	}
}

func TestLink(t *testing.T) {
	for _, w := range []way{
		{name: "an empty list", pc: 26, cells: map[int]int64{api.Head: 0}, goes: seen(0, 27)},
		{name: "a list", pc: 26, cells: map[int]int64{api.Head: 13}, goes: func(x *api.Thread) { x.Look, x.Prev, x.Pc = 13, 13, 29 }},
		{name: "itself", pc: 26, cells: map[int]int64{api.Head: 8}, goes: func(x *api.Thread) { x.Look, x.Prev, x.Pc = 8, 8, 29 }},
		{name: "no address", pc: 26, cells: map[int]int64{api.Head: -5}, goes: func(x *api.Thread) { x.Look, x.Prev, x.Pc = -5, -5, 29 }},
		{name: "whatever HEAD is", pc: 26, goes: func(x *api.Thread) { x.Look, x.Prev, x.Pc = 102, 102, 29 }},

		{name: "whatever NEXT was", pc: 27, goes: to(28), wrote: map[int]int64{next: 0}},
		{name: "NEXT was 0", pc: 27, cells: map[int]int64{next: 0}, goes: to(28)},

		{name: "an empty list", pc: 28, cells: map[int]int64{api.Head: 0}, goes: to(32), wrote: map[int]int64{api.Head: 8}},
		{name: "somebody came meanwhile", pc: 28, cells: map[int]int64{api.Head: 3}, goes: to(26)},
		{name: "itself is there", pc: 28, cells: map[int]int64{api.Head: 8}, goes: to(26)},
		{name: "HEAD is Look", pc: 28, cells: map[int]int64{api.Head: 55}, goes: to(26)},
		{name: "HEAD is no address", pc: 28, cells: map[int]int64{api.Head: -1}, goes: to(26)},

		{name: "the last on the list", pc: 29, cells: map[int]int64{ahead: 0}, goes: seen(0, 30)},
		{name: "somebody behind it", pc: 29, cells: map[int]int64{ahead: 13}, goes: seen(13, 30)},
		{name: "whatever NEXT is", pc: 29, goes: seen(107, 30)},

		{name: "nobody behind it", pc: 30, given: looks(0), goes: to(31), wrote: map[int]int64{next: 0}},
		{name: "somebody behind it", pc: 30, given: looks(13), goes: to(31), wrote: map[int]int64{next: 13}},
		{name: "whatever Look is", pc: 30, goes: to(31), wrote: map[int]int64{next: 55}},

		{name: "whatever NEXT was", pc: 31, goes: to(32), wrote: map[int]int64{ahead: 8}},
		{name: "NEXT was it", pc: 31, cells: map[int]int64{ahead: 8}, goes: to(32)},
		{name: "behind itself", pc: 31, given: func(x *api.Thread) { x.Prev = 8 }, goes: to(32), wrote: map[int]int64{next: 8}},

		{name: "in between", pc: 32, cells: map[int]int64{active: 2}, goes: onward, wrote: map[int]int64{active: 1}},
		{name: "off", pc: 32, cells: map[int]int64{active: 0}, goes: onward, wrote: map[int]int64{active: 1}},
		{name: "on", pc: 32, cells: map[int]int64{active: 1}, goes: onward},
		{name: "neither", pc: 32, goes: onward, wrote: map[int]int64{active: 1}},
	} {
		w.try(t)
	}
}

// TestOn is how each that goes ON goes: where Nth and 1 is below Many, is Many, and is beyond it.
func TestOn(t *testing.T) {
	for _, c := range []struct{ nth, many, is, pc int }{
		{0, 0, 1, 33}, {0, 1, 1, 33}, {0, 2, 1, 23}, {0, 3, 1, 23}, {1, 1, 2, 33}, {1, 2, 2, 33}, {1, 3, 2, 23}, {2, 3, 3, 33}, {2, 4, 3, 23},
		{5, 3, 6, 33}, {62, 64, 63, 23}, {63, 64, 64, 33}, {64, 64, 65, 33}, {-1, 0, 0, 33}, {-1, 1, 0, 23}, {-2, 0, -1, 23}, {-2, -1, -1, 33}, {-5, -9, -4, 33},
		{1 << 32, 3, 1<<32 + 1, 33}, {0, 1 << 32, 1, 23}, {0, 1<<32 + 1, 1, 23}, {math.MaxInt - 1, math.MaxInt, math.MaxInt, 33}, {math.MaxInt - 2, math.MaxInt, math.MaxInt - 1, 23},
		{math.MaxInt, math.MaxInt, math.MinInt, 23}, {math.MaxInt, math.MinInt, math.MinInt, 33}, {math.MinInt, math.MinInt, math.MinInt + 1, 33}, {math.MinInt, 0, math.MinInt + 1, 23},
	} {
		given := func(x *api.Thread) { x.Nth, x.Many = c.nth, c.many }
		goes := func(x *api.Thread) { x.Nth, x.Pc = c.is, c.pc }
		name := fmt.Sprintf("Nth %d of %d", c.nth, c.many)
		seenGoes := func(v int64) func(*api.Thread) {
			return func(x *api.Thread) {
				x.Look = v
				goes(x)
			}
		}
		way{name: name, pc: 24, given: given, cells: map[int]int64{req: 0}, goes: seenGoes(0)}.try(t)
		way{name: name, pc: 25, given: given, cells: map[int]int64{active: 1}, goes: goes}.try(t)
		way{name: name, pc: 32, given: given, goes: goes, wrote: map[int]int64{active: 1}}.try(t)
		if c.nth >= 0 && c.nth < 3 {
			way{name: name, pc: 23, given: given, goes: func(x *api.Thread) {
				x.Cur = 3 + 5*c.nth
				seenGoes(int64(105 + 5*c.nth))(x)
			}}.try(t)
		}
	}
}

// TestNthThatNoRecordIs is 23 where record.Base tells of none, or of one that is not there.
func TestNthThatNoRecordIs(t *testing.T) {
	for _, c := range []struct{ nth, cur int }{{3, 18}, {63, 318}, {64, 323}, {1000, 5003}} {
		way{name: "not there", pc: 23, given: atNth(c.nth), goes: func(x *api.Thread) { x.Cur, x.Look, x.Pc = c.cur, 0, 24 }, still: true}.try(t)
	}
	for _, nth := range []int{-1, -2, 1001, 1 << 32, math.MaxInt - 1, math.MinInt} {
		// Base is 0 then, and the cell behind it HEAD.
		way{name: "none", pc: 23, given: atNth(nth), cells: map[int]int64{api.Head: 0}, goes: func(x *api.Thread) { x.Cur, x.Look, x.Pc = 0, 0, 24 }}.try(t)
		way{name: "none", pc: 23, given: func(x *api.Thread) { x.Nth, x.Many = nth, math.MinInt }, goes: func(x *api.Thread) { x.Cur, x.Look, x.Nth, x.Pc = 0, 102, nth+1, 33 }}.try(t)
	}
}

func TestScan(t *testing.T) {
	for _, w := range []way{
		{name: "an empty list", pc: 33, cells: map[int]int64{api.Head: 0}, goes: seen(0, 40)},
		{name: "an empty list, without a Batch", pc: 33, given: bare, cells: map[int]int64{api.Head: 0}, goes: seen(0, 40)},
		{name: "a list", pc: 33, cells: map[int]int64{api.Head: 3}, goes: met(3, 34)},
		{name: "no address", pc: 33, cells: map[int]int64{api.Head: -3}, goes: met(-3, 34)},
		{name: "whatever HEAD is", pc: 33, goes: met(102, 34)},

		{name: "asked", pc: 34, cells: map[int]int64{req: 77}, goes: picked(77)},
		{name: "just above 0", pc: 34, cells: map[int]int64{req: 1}, goes: picked(1)},
		{name: "above 0, but no word", pc: 34, cells: map[int]int64{req: math.MaxInt64}, goes: picked(math.MaxInt64)},
		{name: "above 0 in high bits", pc: 34, cells: map[int]int64{req: 1 << 32}, goes: picked(1 << 32)},
		{name: "the first of Batch", pc: 34, given: bare, goes: picked(109)},
		{name: "twice in Batch", pc: 34, given: func(x *api.Thread) { x.Batch = []api.Item{{Rec: 8, Word: 109}} }, goes: picked(109)},
		{name: "nothing asked", pc: 34, cells: map[int]int64{req: 0}, goes: seen(0, 35)},
		{name: "nothing asked, without a Batch", pc: 34, given: bare, cells: map[int]int64{req: 0}, goes: seen(0, 35)},
		{name: "closed", pc: 34, cells: map[int]int64{req: -1}, goes: seen(-1, 35)},
		{name: "far below 0", pc: 34, cells: map[int]int64{req: math.MinInt64 + 1}, goes: seen(math.MinInt64+1, 35)},

		{name: "somebody behind it", pc: 35, cells: map[int]int64{next: 13}, goes: met(13, 34)},
		{name: "somebody behind it, without a Batch", pc: 35, given: bare, cells: map[int]int64{next: 3}, goes: met(3, 34)},
		{name: "itself behind it", pc: 35, cells: map[int]int64{next: 8}, goes: met(8, 34)},
		{name: "no address", pc: 35, cells: map[int]int64{next: -8}, goes: met(-8, 34)},
		{name: "whatever NEXT is", pc: 35, goes: met(112, 34)},
		{name: "nobody behind it", pc: 35, cells: map[int]int64{next: 0}, goes: seen(0, 36)},
		{name: "nobody behind it, one item", pc: 35, given: func(x *api.Thread) { x.Batch = x.Batch[:1] }, cells: map[int]int64{next: 0}, goes: seen(0, 36)},
		{name: "nobody behind it, without a Batch", pc: 35, given: bare, cells: map[int]int64{next: 0}, goes: seen(0, 40)},
		{name: "nobody behind it, with an empty Batch", pc: 35, given: func(x *api.Thread) { x.Batch = x.Batch[:0] }, cells: map[int]int64{next: 0}, goes: seen(0, 40)},
	} {
		w.try(t)
	}
}

// done takes the step 36 of a thread with a batch of some words, and checks all but what is told: that tells it.
func done(t *testing.T, o *object.Object, words ...int64) []int64 {
	t.Helper()
	in := full(36)
	in.Batch = nil
	for i, w := range words {
		in.Batch = append(in.Batch, api.Item{Rec: 3 + 5*(i*2%3), Word: w, Res: int64(i + 70)})
	}
	was := slices.Clone(in.Batch)
	m := lay(t, 0, three()...)
	steps := m.Steps()
	got, items := Step(m, o, 1, in)
	var told []int64
	for i := range items {
		told = append(told, items[i].Res)
		if items[i].Rec != was[i].Rec || items[i].Word != was[i].Word {
			t.Errorf("36 of %v: the items are %v", was, items)
		}
	}
	if len(items) != len(words) {
		t.Errorf("36 of %v: the items are %v", was, items)
	}
	want := full(37)
	want.Nth, want.Batch = 0, items
	if !same(got, want) {
		t.Errorf("36 of %v: it is %+v", was, got)
	}
	if !slices.Equal(m.Cells(), three()) || m.Steps() != steps {
		t.Errorf("36 of %v: the cells are %v, and %d steps", was, m.Cells(), m.Steps()-steps)
	}
	if !slices.Equal(in.Batch, was) {
		t.Errorf("36 of %v: what was handed in is %v now", was, in.Batch)
	}
	apart(t, "items and Batch", items, got.Batch)
	apart(t, "Batch and items", got.Batch, items)
	apart(t, "items and what was handed in", items, in.Batch)
	apart(t, "Batch and what was handed in", got.Batch, in.Batch)
	return told
}

func TestDo(t *testing.T) {
	for _, plain := range []bool{false, true} {
		for _, c := range []struct {
			name   string
			object uint8
			most   int
			words  []int64
			told   []int64
			items  []int32
		}{
			{"an empty Batch", api.Stack, 2, nil, nil, nil},
			{"one", api.Stack, 2, []int64{w(1, 7)}, []int64{r(1, 0)}, []int32{7}},
			{"a stack", api.Stack, 2, []int64{w(1, 5), w(1, 6), w(1, 8), w(2, 0), w(2, 3), w(2, 0), w(9, 1)}, []int64{r(1, 0), r(1, 0), r(3, 0), r(2, 6), r(2, 5), r(4, 0), r(5, 0)}, nil},
			{"what a stack keeps", api.Stack, 3, []int64{w(2, 0), w(1, -5), w(1, 6)}, []int64{r(4, 0), r(1, 0), r(1, 0)}, []int32{-5, 6}},
			{"a deque", api.Deque, 3, []int64{w(1, 1), w(2, 2), w(1, 3), w(2, 4), w(4, 0), w(3, 0), w(2, math.MinInt32)}, []int64{r(1, 0), r(1, 0), r(1, 0), r(3, 0), r(2, 2), r(2, 3), r(1, 0)}, []int32{1, math.MinInt32}},
			{"a heap", api.Heap, 2, []int64{w(2, 0), w(1, 5), w(1, 3), w(1, 9), w(2, 0), w(2, 0), w(3, 4)}, []int64{r(2, 3), r(1, 0), r(1, 0), r(3, 0), r(2, 5), r(4, 0), r(5, 0)}, nil},
			{"what a heap keeps", api.Heap, 3, []int64{w(1, 5), w(2, 0), w(1, math.MaxInt32), w(1, -3)}, []int64{r(1, 0), r(2, -3), r(1, 0), r(1, 0)}, []int32{5, math.MaxInt32}},
			{"words that are none", api.Stack, 9, []int64{0, w(1, 4), -1, 1<<40 + 1, math.MaxInt64, math.MinInt64, 1<<40 + w(1, 4), w(1, 4) - 1<<41}, []int64{r(5, 0), r(1, 0), r(5, 0), r(5, 0), r(5, 0), r(5, 0), r(5, 0), r(5, 0)}, []int32{4}},
			{"words that are none, of a deque", api.Deque, 9, []int64{1<<40 + 2, 0, w(2, 4)}, []int64{r(5, 0), r(5, 0), r(1, 0)}, []int32{4}},
			{"words that are none, of a heap", api.Heap, 9, []int64{-1, w(2, 0), w(1, 4), 1<<40 + 1}, []int64{r(5, 0), r(2, 4), r(1, 0), r(5, 0)}, nil},
			{"the least and the greatest word", api.Stack, 9, []int64{1, 1 << 40, 2}, []int64{r(5, 0), r(5, 0), r(1, 0)}, []int32{math.MinInt32}},
			{"the same twice", api.Stack, 9, []int64{w(1, 4), w(1, 4)}, []int64{r(1, 0), r(1, 0)}, []int32{4, 4}},
		} {
			o := object.New(c.object, c.most, plain)
			if got := done(t, o, c.words...); !slices.Equal(got, c.told) {
				t.Errorf("%s, plain %v: they are told %v, not %v", c.name, plain, got, c.told)
			}
			if got := o.Items(); !slices.Equal(got, c.items) {
				t.Errorf("%s, plain %v: the object's items are %v", c.name, plain, got)
			}
		}
	}
}

func TestDoGoesOn(t *testing.T) {
	o := object.New(api.Stack, 2, false)
	done(t, o, w(1, 5), w(1, 6))
	if got := done(t, o, w(1, 7), w(2, 0)); !slices.Equal(got, []int64{r(3, 0), r(2, 6)}) {
		t.Errorf("the second batch is told %v", got)
	}
	if got := done(t, o); len(got) != 0 || !slices.Equal(o.Items(), []int32{5}) {
		t.Errorf("the empty one is told %v, and the items are %v", got, o.Items())
	}
	other := object.New(api.Stack, 2, false)
	if got := done(t, other, w(2, 0)); !slices.Equal(got, []int64{r(4, 0)}) {
		t.Errorf("another one's is told %v", got)
	}
}

// TestDoOfNil is what all are told without an object: a word of nothing, which is not 0.
func TestDoOfNil(t *testing.T) {
	if got := done(t, nil, w(1, 5), 0, w(2, 0), -1); !slices.Equal(got, []int64{1<<39 + 1, 1<<39 + 1, 1<<39 + 1, 1<<39 + 1}) {
		t.Errorf("they are told %v", got)
	}
	if got := done(t, nil); len(got) != 0 {
		t.Errorf("an empty Batch is told %v", got)
	}
	if got := done(t, object.New(9, 5, false), w(1, 5)); !slices.Equal(got, []int64{1<<39 + 1}) {
		t.Errorf("of no object it is told %v", got)
	}
}

func TestTell(t *testing.T) {
	last := func(x *api.Thread) { x.Nth, x.Pc = x.Nth+1, 20 }
	for _, w := range []way{
		{name: "the first item", pc: 37, given: atNth(0), goes: to(38), wrote: map[int]int64{7: 32}},
		{name: "an item", pc: 37, goes: to(38), wrote: map[int]int64{12: 34}},
		{name: "the last item", pc: 37, given: atNth(2), goes: to(38), wrote: map[int]int64{17: 36}},
		{name: "wherever Cur is", pc: 37, given: func(x *api.Thread) { x.Cur = 13 }, goes: to(38), wrote: map[int]int64{12: 34}},
		{name: "Res below 0", pc: 37, given: func(x *api.Thread) { x.Batch[1].Res = -1 }, goes: to(38), wrote: map[int]int64{12: -1}},

		{name: "the first item", pc: 38, given: atNth(0), goes: to(39), wrote: map[int]int64{5: 25}},
		{name: "an item", pc: 38, goes: to(39), wrote: map[int]int64{10: 25}},
		{name: "the last item", pc: 38, given: atNth(2), goes: to(39), wrote: map[int]int64{15: 25}},
		{name: "Pass below 0", pc: 38, given: func(x *api.Thread) { x.Pass = -3 }, goes: to(39), wrote: map[int]int64{10: -3}},

		{name: "the first item", pc: 39, passes: 99, given: atNth(0), goes: func(x *api.Thread) { x.Nth, x.Pc = 1, 37 }, wrote: map[int]int64{3: 0}},
		{name: "an item", pc: 39, passes: 99, goes: func(x *api.Thread) { x.Nth, x.Pc = 2, 37 }, wrote: map[int]int64{8: 0}},
		{name: "an item, and no pass left", pc: 39, goes: func(x *api.Thread) { x.Nth, x.Pc = 2, 37 }, wrote: map[int]int64{8: 0}},
		{name: "the last item", pc: 39, passes: 99, given: atNth(2), goes: last, wrote: map[int]int64{13: 0}},
		{name: "the only item", pc: 39, passes: 99, given: func(x *api.Thread) { x.Nth, x.Batch = 0, x.Batch[:1] }, goes: last, wrote: map[int]int64{3: 0}},
		{name: "closed meanwhile", pc: 39, passes: 99, given: atNth(2), cells: map[int]int64{13: -1}, goes: last, wrote: map[int]int64{13: 0}},
	} {
		w.try(t)
	}
}

// TestFreeByRuns is where the last item leads to.
func TestFreeByRuns(t *testing.T) {
	for _, c := range []struct{ runs, passes, pc int }{
		{1, 2, 20}, {2, 2, 40}, {3, 2, 40}, {0, 1, 20}, {1, 1, 40}, {0, 0, 40}, {999, 1000, 20}, {1000, 1000, 40}, {1001, 1000, 40},
		{-1, 0, 20}, {0, -1, 40}, {-5, -5, 40}, {-6, -5, 20}, {1 << 32, 5, 40}, {5, 1 << 32, 20},
		{math.MaxInt, math.MaxInt, 40}, {math.MaxInt - 1, math.MaxInt, 20}, {math.MinInt, math.MaxInt, 20}, {math.MaxInt, math.MinInt, 40}, {math.MinInt, math.MinInt, 40},
	} {
		name := fmt.Sprintf("Runs %d of %d", c.runs, c.passes)
		way{name: name, pc: 39, passes: c.passes, given: func(x *api.Thread) { x.Nth, x.Runs = 2, c.runs }, goes: func(x *api.Thread) { x.Nth, x.Pc = 3, c.pc }, wrote: map[int]int64{13: 0}}.try(t)
		way{name: name, pc: 39, passes: c.passes, given: func(x *api.Thread) { x.Nth, x.Runs = 9, c.runs }, goes: func(x *api.Thread) { x.Nth, x.Pc = 10, c.pc }, still: true}.try(t)
		way{name: name, pc: 39, passes: c.passes, given: func(x *api.Thread) { x.Nth, x.Runs = -1, c.runs }, goes: func(x *api.Thread) { x.Nth, x.Pc = 0, c.pc }, still: true}.try(t)
	}
}

// TestTellWithoutItem is 37 to 39 where Batch has no Item Nth: nothing is stored, and 39 goes on as if it was the last, also from below 0.
func TestTellWithoutItem(t *testing.T) {
	for _, nth := range []int{-1, -2, -3, -4, 3, 4, 100, 1 << 32, 1<<32 + 1, -1<<32 + 1, -1 << 32, math.MaxInt, math.MaxInt - 1, math.MinInt, math.MinInt + 1} {
		for _, n := range []int{0, 1, 3} {
			given := func(x *api.Thread) { x.Nth, x.Batch = nth, x.Batch[:n] }
			name := fmt.Sprintf("Nth %d of %d", nth, n)
			way{name: name, pc: 37, given: given, goes: to(38), still: true}.try(t)
			way{name: name, pc: 38, given: given, goes: to(39), still: true}.try(t)
			way{name: name, pc: 39, passes: 27, given: given, goes: func(x *api.Thread) { x.Nth, x.Pc = nth+1, 20 }, still: true}.try(t)
			way{name: name, pc: 39, passes: 26, given: given, goes: func(x *api.Thread) { x.Nth, x.Pc = nth+1, 40 }, still: true}.try(t)
		}
	}
	for n := range 3 { // at the end of a batch, whatever its length is
		given := func(x *api.Thread) { x.Nth, x.Batch = n, x.Batch[:n] }
		way{name: "at the end", pc: 37, given: given, goes: to(38), still: true}.try(t)
		way{name: "at the end", pc: 38, given: given, goes: to(39), still: true}.try(t)
		way{name: "at the end", pc: 39, given: given, goes: func(x *api.Thread) { x.Nth, x.Pc = n+1, 40 }, still: true}.try(t)
	}
}

func TestLookIsWhateverIsLoaded(t *testing.T) {
	for _, v := range numbers {
		name := fmt.Sprint("a cell that is ", v)
		is := func(yes bool, a, b func(*api.Thread)) func(*api.Thread) {
			if yes {
				return a
			}
			return b
		}
		way{name: name, pc: 20, cells: map[int]int64{api.Pass: v}, goes: seen(v, 21)}.try(t)
		way{name: name, pc: 23, cells: map[int]int64{active: v}, goes: is(v == 0, seen(v, 24), seenOnward(v))}.try(t)
		way{name: name, pc: 24, cells: map[int]int64{req: v}, goes: is(v > 0, seen(v, 25), seenOnward(v))}.try(t)
		way{name: name, pc: 26, cells: map[int]int64{api.Head: v}, goes: is(v == 0, seen(v, 27), func(x *api.Thread) { x.Look, x.Prev, x.Pc = v, int(v), 29 })}.try(t)
		way{name: name, pc: 29, cells: map[int]int64{ahead: v}, goes: seen(v, 30)}.try(t)
		way{name: name, pc: 33, cells: map[int]int64{api.Head: v}, goes: is(v == 0, seen(v, 40), met(v, 34))}.try(t)
		way{name: name, pc: 34, cells: map[int]int64{req: v}, goes: is(v > 0, picked(v), seen(v, 35))}.try(t)
		way{name: name, pc: 35, cells: map[int]int64{next: v}, goes: is(v == 0, seen(v, 36), met(v, 34))}.try(t)
		way{name: name, pc: 35, given: bare, cells: map[int]int64{next: v}, goes: is(v == 0, seen(v, 40), met(v, 34))}.try(t)
	}
}

func TestWhateverIsStored(t *testing.T) {
	for _, v := range numbers {
		name := fmt.Sprint("it is ", v)
		way{name: name, pc: 21, given: looks(v), goes: func(x *api.Thread) { x.Pass, x.Runs, x.Pc = v+1, 27, 22 }, wrote: map[int]int64{api.Pass: v + 1}}.try(t)
		way{name: name, pc: 30, given: looks(v), goes: to(31), wrote: map[int]int64{next: v}}.try(t)
		way{name: name, pc: 37, given: func(x *api.Thread) { x.Batch[1].Res = v }, goes: to(38), wrote: map[int]int64{12: v}}.try(t)
		way{name: name, pc: 38, given: func(x *api.Thread) { x.Pass = v }, goes: to(39), wrote: map[int]int64{10: v}}.try(t)
		cur := func(x *api.Thread) { x.Cur = int(v) }
		way{name: name, pc: 31, given: cur, goes: to(32), wrote: map[int]int64{ahead: v}}.try(t)
		way{name: name, pc: 28, given: cur, cells: map[int]int64{api.Head: 0}, goes: to(32), wrote: map[int]int64{api.Head: v}}.try(t)
	}
}

func TestStepElsewhere(t *testing.T) {
	places := slices.Clone(elsewhere)
	for pc := -20; pc <= 60; pc++ {
		if pc < 20 || pc > 39 {
			places = append(places, pc)
		}
	}
	for _, pc := range places {
		for _, l := range [][]int64{nil, {0}, make([]int64, 18), three()} {
			m := lay(t, 10, l...)
			steps := m.Steps()
			o := object.New(api.Stack, 4, false)
			in := full(pc)
			got, items := Step(m, o, 100, in)
			if !same(got, full(pc)) || len(items) != 0 || o.Len() != 0 {
				t.Errorf("at %d: %+v, %v, %v", pc, got, items, o.Items())
			}
			if !slices.Equal(m.Cells(), l) || m.Steps() != steps {
				t.Errorf("at %d: the cells are %v, and %d steps", pc, m.Cells(), m.Steps()-steps)
			}
			apart(t, "Batch", got.Batch, in.Batch)
		}
		got, items := Step(nil, nil, 0, full(pc))
		if !same(got, full(pc)) || len(items) != 0 {
			t.Errorf("of a nil memory, at %d: %+v, %v", pc, got, items)
		}
	}
}

// nothing is where a thread goes of whose cells none is there: each of them counts as 0, each SWAP as false.
func nothing(x *api.Thread) {
	switch x.Pc {
	case 20:
		x.Look, x.Pc = 0, 21
	case 21:
		x.Pass, x.Runs, x.Pc = x.Look+1, x.Runs+1, 22
	case 22:
		x.Many, x.Nth, x.Batch, x.Pc = 0, 0, nil, 33
	case 23:
		x.Look, x.Pc = 0, 24
	case 24:
		x.Look = 0
		onward(x)
	case 25, 32:
		onward(x)
	case 26:
		x.Look, x.Pc = 0, 27
	case 27, 30, 31, 37, 38:
		x.Pc++
	case 28:
		x.Pc = 26
	case 29:
		x.Look, x.Pc = 0, 30
	case 33:
		x.Look, x.Pc = 0, 40
	case 34:
		x.Look, x.Pc = 0, 35
	case 35:
		x.Look, x.Pc = 0, 36
	case 39:
		x.Nth, x.Pc = x.Nth+1, 37
	}
}

func TestNilMemory(t *testing.T) {
	for pc := 20; pc <= 39; pc++ {
		if pc == 36 {
			continue // it comes to no cell: see TestDoOfANilMemory
		}
		want := full(pc)
		nothing(&want)
		for _, m := range []*cells.Memory{nil, cells.New(0), cells.New(4)} {
			got, items := Step(m, nil, 1, full(pc))
			if !same(got, want) || len(items) != 0 {
				t.Errorf("at %d: it is\n%+v, not\n%+v; %v", pc, got, want, items)
			}
			if m.Steps() != 0 || m.Top() != 0 {
				t.Errorf("at %d: %d steps, %d cells", pc, m.Steps(), m.Top())
			}
		}
	}
	x := api.Thread{Pc: api.PcPass}
	var places []int
	for Serves(x) {
		places = append(places, x.Pc)
		x, _ = Step(nil, nil, 5, x)
	}
	if !slices.Equal(places, []int{20, 21, 22, 33}) || !same(x, api.Thread{Pc: 40, Pass: 1, Runs: 1}) {
		t.Errorf("a go at a nil memory: %v, then %+v", places, x)
	}
}

func TestDoOfANilMemory(t *testing.T) {
	o := object.New(api.Stack, 4, false)
	in := full(36)
	in.Batch = []api.Item{{Rec: 3, Word: w(1, 5)}, {Rec: -8, Word: w(2, 0)}}
	want := full(37)
	want.Nth, want.Batch = 0, []api.Item{{Rec: 3, Word: w(1, 5), Res: r(1, 0)}, {Rec: -8, Word: w(2, 0), Res: r(2, 5)}}
	got, items := Step(nil, o, 1, in)
	if !same(got, want) || !slices.Equal(items, want.Batch) {
		t.Errorf("it is %+v, %v", got, items)
	}
}

// away are addresses of which no record has a cell, though sums with them may go round.
var away = []int{
	18, 19, 23, 318, 1003, 5003, 1 << 20, 1 << 32, 1<<32 + 3, 1<<32 + 8, 1<<62 + 8, math.MaxInt, math.MaxInt - 1, math.MaxInt - 2, math.MaxInt - 4, math.MaxInt - 5,
	-5, -6, -13, -1000, -1<<32 + 3, -1<<32 + 8, math.MinInt, math.MinInt + 1, math.MinInt + 8,
}

func TestRecordThatIsNotThere(t *testing.T) {
	for _, a := range away {
		name := fmt.Sprint("at ", a)
		cur := func(x *api.Thread) { x.Cur = a }
		for _, pc := range []int{24, 25, 27, 30, 32, 34, 35} {
			way{name: name, pc: pc, given: cur, goes: nothing, still: true}.try(t)
		}
		prev := func(x *api.Thread) { x.Prev = a }
		for _, pc := range []int{29, 31} {
			way{name: name, pc: pc, given: prev, goes: nothing, still: true}.try(t)
		}
		item := func(x *api.Thread) { x.Batch[1].Rec = a }
		for _, pc := range []int{37, 38, 39} {
			way{name: name, pc: pc, given: item, goes: nothing, still: true}.try(t)
		}
	}
}

// TestRecordThatIsThereInPart has records that begin, or end, where no cell is: of each the cells that are there are come to.
func TestRecordThatIsThereInPart(t *testing.T) {
	which := map[int]int{24: api.Req, 25: api.Active, 27: api.Next, 29: api.Next, 30: api.Next, 31: api.Next, 32: api.Active, 34: api.Req, 35: api.Next, 37: api.Told, 38: api.Age, 39: api.Req}
	for at := -5; at <= 20; at++ {
		for pc, cell := range which {
			in := full(pc)
			in.Cur, in.Prev, in.Batch[1].Rec = at, at, at
			want := in
			want.Batch = slices.Clone(in.Batch)
			nothing(&want)
			m := lay(t, 0, three()...)
			steps := m.Steps()
			got, _ := Step(m, nil, 1, in)
			there := at+cell >= 0 && at+cell < 18
			if is := m.Steps() == steps+1; is != there {
				t.Errorf("at %d with a record at %d: %d steps", pc, at, m.Steps()-steps)
			}
			if !there && !same(got, want) {
				t.Errorf("at %d with a record at %d: %+v", pc, at, got)
			}
			if reads := slices.Contains([]int{24, 29, 34, 35}, pc); there && reads && got.Look != int64(101+at+cell) {
				t.Errorf("at %d with a record at %d: Look is %d", pc, at, got.Look)
			}
			for a, v := range m.Cells() {
				wrote := slices.Contains([]int{27, 30, 31, 32, 37, 38, 39}, pc) && a == at+cell
				if is := v != int64(101+a); is != wrote {
					t.Errorf("at %d with a record at %d: the cell %d is %d", pc, at, a, v)
				}
			}
		}
	}
}

func TestFirstCellsThatAreNotThere(t *testing.T) {
	for top, missing := range map[int][]int{0: {20, 21, 26, 28, 33}, 1: {20, 21, 26, 28, 33}, 2: {20, 21}, 3: nil} {
		for _, pc := range []int{20, 21, 26, 28, 33} {
			want := full(pc)
			nothing(&want)
			m := lay(t, 9, make([]int64, top)...)
			steps := m.Steps()
			got, _ := Step(m, nil, 1, full(pc))
			gone := slices.Contains(missing, pc)
			if gone && !same(got, want) {
				t.Errorf("at %d of %d cells: %+v", pc, top, got)
			}
			if is := m.Steps() == steps; is != gone || m.Top() != top {
				t.Errorf("at %d of %d cells: %d steps, %d cells", pc, top, m.Steps()-steps, m.Top())
			}
		}
	}
}

func TestBatchIsNeitherKeptNorShared(t *testing.T) {
	under := []api.Item{{Rec: 3, Word: 1}, {Rec: 8, Word: 2}, {Rec: 13, Word: 3}, {Rec: 18, Word: 4}}
	was := slices.Clone(under)
	for pc := 18; pc <= 42; pc++ {
		for n := range 4 {
			for nth := range 3 {
				in := full(pc)
				in.Batch, in.Nth = under[:n], nth
				a, items := Step(lay(t, 5, three()...), object.New(api.Stack, 4, false), 1, in)
				b, others := Step(nil, nil, 1, in)
				for _, l := range [][]api.Item{a.Batch, items, b.Batch, others} {
					apart(t, fmt.Sprint("at ", pc), l, under)
				}
				apart(t, "of one call", items, a.Batch)
				apart(t, "of two calls", items, others)
				apart(t, "of two calls", a.Batch, b.Batch)
				if !slices.Equal(in.Batch, was[:n]) || !slices.Equal(under, was) {
					t.Fatalf("at %d: what was handed in is %v now", pc, under)
				}
			}
		}
	}
}

// turns are one go of a thread that has the lock: the places that it comes to, and the items that are done.
func turns(t *testing.T, m *cells.Memory, o *object.Object, passes int, x api.Thread) (api.Thread, []int, []api.Item) {
	t.Helper()
	var places []int
	var all []api.Item
	for Serves(x) {
		if len(places) > 1000 {
			t.Fatalf("it does not end: %v", places)
		}
		places = append(places, x.Pc)
		var items []api.Item
		x, items = Step(m, o, passes, x)
		all = append(all, items...)
	}
	return x, places, all
}

func TestOneGo(t *testing.T) {
	m := lay(t, 0,
		5, 3, 9, // LOCK, HEAD, PASS
		w(1, 5), 1, 7, 18, 71, // on the list, and waits
		w(2, 0), 0, 7, 72, 72, // off the list, and waits
		0, 0, 7, 73, 73, // off the list
		0, 1, 7, 0, 74, // on the list
		w(1, 6), 2, 7, 75, 75, // its owner is about to put it there
		-1, 0, 7, 76, 76, // closed
		w(1, 8), 0, 7, 77, 77, // off the list, and waits
	)
	steps := m.Steps()
	o := object.New(api.Stack, 4, false)
	x, places, items := turns(t, m, o, 2, api.Thread{Id: 4, Pc: api.PcPass, Rec: 3, Seq: 1, Word: w(1, 5)})
	want := []int{
		20, 21, 22, 23, 23, 24, 25, 26, 29, 30, 31, 32, 23, 24, 23, 23, 23, 24, 23, 24, 25, 26, 29, 30, 31, 32,
		33, 34, 35, 34, 35, 34, 35, 34, 35, 36, 37, 38, 39, 37, 38, 39, 37, 38, 39,
		20, 21, 22, 23, 23, 23, 24, 23, 23, 23, 24, 23, 33, 34, 35, 34, 35, 34, 35, 34, 35,
	}
	if !slices.Equal(places, want) {
		t.Errorf("its places are\n%v, not\n%v", places, want)
	}
	if !same(x, api.Thread{Id: 4, Pc: 40, Rec: 3, Seq: 1, Word: w(1, 5), Cur: 18, Prev: 3, Nth: 7, Many: 7, Pass: 11, Runs: 2}) {
		t.Errorf("then it is %+v", x)
	}
	// The one that was put there last is the second: 3, 33, 8, 18.
	if !slices.Equal(items, []api.Item{{Rec: 3, Word: w(1, 5), Res: r(1, 0)}, {Rec: 33, Word: w(1, 8), Res: r(1, 0)}, {Rec: 8, Word: w(2, 0), Res: r(2, 8)}}) {
		t.Errorf("the items are %v", items)
	}
	cells := []int64{
		5, 3, 11,
		0, 1, 10, 33, r(1, 0),
		0, 1, 10, 18, r(2, 8),
		0, 0, 7, 73, 73,
		0, 1, 7, 0, 74,
		w(1, 6), 2, 7, 75, 75,
		-1, 0, 7, 76, 76,
		0, 1, 10, 8, r(1, 0),
	}
	if !slices.Equal(m.Cells(), cells) {
		t.Errorf("the cells are\n%v, not\n%v", m.Cells(), cells)
	}
	if n := len(places) - 3; m.Steps() != steps+n { // 22, twice, and 36 come to no cell
		t.Errorf("%d steps, not %d", m.Steps()-steps, n)
	}
	if !slices.Equal(o.Items(), []int32{5}) {
		t.Errorf("the object's items are %v", o.Items())
	}
}

func TestOneGoFromAnEmptyList(t *testing.T) {
	m := lay(t, 0, 1, 0, 0, w(1, 5), 0, 0, 9, 9, w(1, 3), 0, 0, 9, 9, w(2, 0), 0, 0, 9, 9)
	o := object.New(api.Heap, 4, false)
	x, places, items := turns(t, m, o, 1, api.Thread{Pc: api.PcPass})
	want := []int{20, 21, 22, 23, 24, 25, 26, 27, 28, 32, 23, 24, 25, 26, 29, 30, 31, 32, 23, 24, 25, 26, 29, 30, 31, 32, 33, 34, 35, 34, 35, 34, 35, 36, 37, 38, 39, 37, 38, 39, 37, 38, 39}
	if !slices.Equal(places, want) || x.Pc != api.PcSweep {
		t.Errorf("its places are %v, then it is %+v", places, x)
	}
	if !slices.Equal(items, []api.Item{{Rec: 3, Word: w(1, 5), Res: r(1, 0)}, {Rec: 13, Word: w(2, 0), Res: r(2, 3)}, {Rec: 8, Word: w(1, 3), Res: r(1, 0)}}) {
		t.Errorf("the items are %v", items)
	}
	if got := m.Cells(); !slices.Equal(got, []int64{1, 3, 1, 0, 1, 1, 13, r(1, 0), 0, 1, 1, 0, r(1, 0), 0, 1, 1, 8, r(2, 3)}) {
		t.Errorf("the cells are %v", got)
	}
}

// TestSomebodyComesMeanwhile has owners that are faster than who serves, at 25 and at 28.
func TestSomebodyComesMeanwhile(t *testing.T) {
	m := lay(t, 0, 1, 0, 0, w(1, 5), 0, 0, 9, 9, w(1, 3), 0, 0, 9, 9)
	x := api.Thread{Pc: api.PcPass}
	var places []int
	for Serves(x) {
		switch len(places) {
		case 5: // ahead of 25 the owner of the first one claims it
			store(t, m, 4, 2)
		case 10: // ahead of 28 it puts it on the list
			store(t, m, 6, 0)
			store(t, m, api.Head, 3)
			store(t, m, 4, 1)
		}
		places = append(places, x.Pc)
		x, _ = Step(m, nil, 1, x)
	}
	want := []int{20, 21, 22, 23, 24, 25, 23, 24, 25, 26, 27, 28, 26, 29, 30, 31, 32, 33, 34, 35, 34, 35, 36, 37, 38, 39, 37, 38, 39}
	if !slices.Equal(places, want) {
		t.Errorf("its places are %v", places)
	}
	if got := m.Cells(); !slices.Equal(got, []int64{1, 3, 1, 0, 1, 1, 8, r(0, 0), 0, 1, 1, 0, r(0, 0)}) {
		t.Errorf("the cells are %v", got)
	}
}

func TestTwoOfAKind(t *testing.T) {
	a, b := lay(t, 0, three()...), lay(t, 0, three()...)
	o, p := object.New(api.Stack, 4, false), object.New(api.Stack, 4, false)
	x := full(20)
	for range 30 {
		x, _ = Step(a, o, 1, x)
	}
	in := full(36)
	in.Batch = []api.Item{{Rec: 3, Word: w(1, 5)}}
	Step(a, o, 1, in)
	if !slices.Equal(b.Cells(), three()) || p.Len() != 0 || o.Len() != 1 {
		t.Errorf("the other's cells are %v, its items %v", b.Cells(), p.Items())
	}
}
