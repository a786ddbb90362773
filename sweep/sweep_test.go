package sweep

import (
	"fmt"
	"math"
	"reflect"
	"slices"
	"testing"

	"reaper/api"
	"reaper/cells"
	"reaper/record"
	"reaper/word"
)

// numbers are what a cell, or a field, may be, from the least to the greatest.
var numbers = []int64{
	math.MinInt64, math.MinInt64 + 1, -1 << 40, -1 << 32, -1 << 31, -256, -2, -1, 0, 1, 2, 3, 4, 8, 55, 77, 255, 256, 257,
	1 << 16, 1 << 31, 1 << 32, 1<<32 + 1, 1<<32 + 2, 1<<40 - 1, 1 << 40, 1<<40 + 1, 1 << 62, math.MaxInt64 - 1, math.MaxInt64,
}

// elsewhere are places at which nobody sweeps; some would be one at which somebody does if bits were cut off, or if signs were.
var elsewhere = []int{
	100, 1000, 1<<8 + 40, 1<<8 + 48, 1<<16 + 42, 1<<31 + 43, 1<<32 + 40, 1<<32 + 44, 1<<33 + 48, 1<<62 + 45,
	math.MaxInt - 1, math.MaxInt, -1, -11, -39, -40, -41, -44, -48, -49, -1<<8 + 40, -1<<16 + 42, -1<<31 + 43, -1<<32 + 40, -1<<32 + 46, -1<<62 + 45,
	math.MinInt, math.MinInt + 1, math.MinInt + 40, math.MinInt + 48,
}

// full is a thread of which no field is 0, so that each that changes is seen. C is the record at 8.
func full(pc int) api.Thread {
	return api.Thread{
		Id: 4, Pc: pc, Rec: 13, Seq: 6, Word: 77, Look: 55, Cur: 8, Prev: 3, Nth: 1, Many: 24, Pass: 125, Runs: 26,
		Batch: []api.Item{{Rec: 3, Word: 31, Res: 32}, {Rec: 8, Word: 33, Res: 34}, {Rec: 13, Word: 35, Res: 36}},
	}
}

// lay is a memory of some numbers, one in each cell, and of room behind them.
func lay(t testing.TB, room int, numbers ...int64) *cells.Memory {
	t.Helper()
	m := cells.New(len(numbers) + room)
	if at, e := m.Alloc(len(numbers)); at != 0 || e != api.OK {
		t.Fatalf("Alloc(%d) is %d, %v", len(numbers), at, e)
	}
	for a, v := range numbers {
		store(t, m, a, v)
	}
	return m
}

// store writes a cell that is there.
func store(t testing.TB, m *cells.Memory, a int, v int64) {
	t.Helper()
	if e := m.Store(a, v); e != api.OK {
		t.Fatalf("Store(%d, %d) is %v", a, v, e)
	}
}

// load is a cell that is there.
func load(t testing.TB, m *cells.Memory, a int) int64 {
	t.Helper()
	v, e := m.Load(a)
	if e != api.OK {
		t.Fatalf("Load(%d) is %v", a, e)
	}
	return v
}

// three is LOCK, HEAD, PASS and three records, at 3, 8 and 13, whose cells are all different, and none is 0, 1, 2 or below 0.
func three() []int64 {
	l := make([]int64, 18)
	for a := range l {
		l[a] = int64(101 + a)
	}
	return l
}

// The cells of the record at 8, at which full's Cur is, and NEXT of the one at 3, at which its Prev is.
const (
	req    = 8
	active = 9
	aged   = 10
	next   = 11
	ahead  = 6
)

// w is an operation's word.
func w(kind uint8, val int32) int64 { return word.Op(api.Op{Kind: kind, Val: val}) }

// same says whether two threads are. A nil batch is an empty one.
func same(a, b api.Thread) bool {
	if !slices.Equal(a.Batch, b.Batch) {
		return false
	}
	a.Batch, b.Batch = nil, nil
	return reflect.DeepEqual(a, b)
}

// apart checks that one list shares no memory with another one, and that there is nothing of it behind its length.
func apart(t *testing.T, what string, a, b []api.Item) {
	t.Helper()
	for i := range a {
		was := slices.Clone(b)
		a[i].Rec++
		if !slices.Equal(b, was) {
			t.Errorf("%s: they share their memory", what)
		}
		a[i].Rec--
	}
	for _, i := range a[len(a):cap(a)] {
		if i != (api.Item{}) {
			t.Errorf("%s: %v stands behind it", what, i)
		}
	}
}

// way is one of a place's ways: what is otherwise ahead of the step than full and three are, and what is otherwise behind it than it was.
// still is one that comes to no cell.
type way struct {
	name  string
	pc    int
	age   int
	given func(*api.Thread)
	cells map[int]int64
	goes  func(*api.Thread)
	wrote map[int]int64
	still bool
}

// try takes one step and checks all: the thread, the cells, how many steps were counted, and that what was handed in is as it was.
func (w way) try(t *testing.T) {
	t.Helper()
	in := full(w.pc)
	if w.given != nil {
		w.given(&in)
	}
	was := in
	was.Batch = slices.Clone(in.Batch)
	l := three()
	for a, v := range w.cells {
		l[a] = v
	}
	behind := slices.Clone(l)
	for a, v := range w.wrote {
		behind[a] = v
	}
	want := in
	want.Batch = slices.Clone(in.Batch)
	w.goes(&want)
	m := lay(t, 0, l...)
	steps := m.Steps() + 1
	if w.still {
		steps--
	}
	got := Step(m, w.age, in)
	if !same(got, want) {
		t.Errorf("%d, %s: it is\n%+v, not\n%+v", w.pc, w.name, got, want)
	}
	if all := m.Cells(); !slices.Equal(all, behind) {
		t.Errorf("%d, %s: the cells are\n%v, not\n%v", w.pc, w.name, all, behind)
	}
	if m.Steps() != steps {
		t.Errorf("%d, %s: the steps are %d, not %d", w.pc, w.name, m.Steps(), steps)
	}
	if !reflect.DeepEqual(in, was) {
		t.Errorf("%d, %s: what was handed in is %+v now", w.pc, w.name, in)
	}
	apart(t, "Batch", got.Batch, in.Batch)
}

// to is a thread that only goes to a place.
func to(pc int) func(*api.Thread) { return func(x *api.Thread) { x.Pc = pc } }

// seen is one that goes to a place, and what it loaded is Look.
func seen(v int64, pc int) func(*api.Thread) {
	return func(x *api.Thread) { x.Look, x.Pc = v, pc }
}

// passesBy is one that passes C by.
func passesBy(x *api.Thread) { x.Prev, x.Pc = x.Cur, 41 }

// seenPassesBy is one that passes C by, and what it loaded is Look.
func seenPassesBy(v int64) func(*api.Thread) {
	return func(x *api.Thread) {
		x.Look = v
		passesBy(x)
	}
}

// begun is one that begins at a record: it is Prev.
func begun(v int64) func(*api.Thread) {
	return func(x *api.Thread) { x.Look, x.Prev, x.Pc = v, int(v), 41 }
}

// met is one that comes to the next record: it is Cur.
func met(v int64) func(*api.Thread) {
	return func(x *api.Thread) { x.Look, x.Cur, x.Pc = v, int(v), 42 }
}

// either is one of two.
func either(is bool, yes, no func(*api.Thread)) func(*api.Thread) {
	if is {
		return yes
	}
	return no
}

func TestExample(t *testing.T) {
	m := record.Open(1)
	store(t, m, api.Lock, 1)
	x := Step(m, 1, api.Thread{Pc: api.PcRelease})
	if !same(x, api.Thread{Pc: api.PcWait}) || load(t, m, api.Lock) != 0 || Sweeps(x) {
		t.Errorf("at 48: %+v, and LOCK is %d", x, load(t, m, api.Lock))
	}
}

func TestSweeps(t *testing.T) {
	for pc := -60; pc <= 60; pc++ {
		want := pc >= 40 && pc <= 48
		if got := Sweeps(api.Thread{Pc: pc}); got != want {
			t.Errorf("Sweeps at %d is %v", pc, got)
		}
		if got := Sweeps(full(pc)); got != want {
			t.Errorf("Sweeps of a full thread at %d is %v", pc, got)
		}
	}
	for _, pc := range elsewhere {
		if Sweeps(api.Thread{Pc: pc}) || Sweeps(full(pc)) {
			t.Errorf("Sweeps at %d is true", pc)
		}
	}
}

func TestWalk(t *testing.T) {
	for _, w := range []way{
		{name: "an empty list", pc: 40, cells: map[int]int64{api.Head: 0}, goes: seen(0, 48)},
		{name: "a list", pc: 40, cells: map[int]int64{api.Head: 13}, goes: begun(13)},
		{name: "a list from Prev on", pc: 40, cells: map[int]int64{api.Head: 3}, goes: begun(3)},
		{name: "no address", pc: 40, cells: map[int]int64{api.Head: -5}, goes: begun(-5)},
		{name: "whatever HEAD is", pc: 40, goes: begun(102)},
		{name: "whatever Prev was", pc: 40, given: func(x *api.Thread) { x.Prev, x.Cur = 0, 0 }, goes: begun(102)},

		{name: "the list's end", pc: 41, cells: map[int]int64{ahead: 0}, goes: seen(0, 48)},
		{name: "somebody behind it", pc: 41, cells: map[int]int64{ahead: 13}, goes: met(13)},
		{name: "Cur behind it", pc: 41, cells: map[int]int64{ahead: 8}, goes: met(8)},
		{name: "itself behind it", pc: 41, cells: map[int]int64{ahead: 3}, goes: met(3)},
		{name: "no address", pc: 41, cells: map[int]int64{ahead: -8}, goes: met(-8)},
		{name: "whatever NEXT is", pc: 41, goes: met(107)},
		{name: "wherever Prev is", pc: 41, given: func(x *api.Thread) { x.Prev = 13 }, goes: met(117)},
		{name: "the list's end, from Cur", pc: 41, given: func(x *api.Thread) { x.Prev = 8 }, cells: map[int]int64{next: 0}, goes: seen(0, 48)},
	} {
		w.try(t)
	}
}

func TestLive(t *testing.T) {
	for _, w := range []way{
		{name: "off", pc: 42, cells: map[int]int64{active: 0}, goes: seenPassesBy(0)},
		{name: "on", pc: 42, cells: map[int]int64{active: 1}, goes: seen(1, 43)},
		{name: "in between", pc: 42, cells: map[int]int64{active: 2}, goes: seenPassesBy(2)},
		{name: "below 0", pc: 42, cells: map[int]int64{active: -1}, goes: seenPassesBy(-1)},
		{name: "three", pc: 42, cells: map[int]int64{active: 3}, goes: seenPassesBy(3)},
		{name: "neither", pc: 42, goes: seenPassesBy(110)},
		{name: "1 in its low bits", pc: 42, cells: map[int]int64{active: 1<<32 + 1}, goes: seenPassesBy(1<<32 + 1)},
		{name: "wherever Cur is, on", pc: 42, given: func(x *api.Thread) { x.Cur = 13 }, cells: map[int]int64{14: 1}, goes: seen(1, 43)},
		{name: "wherever Cur is, off", pc: 42, given: func(x *api.Thread) { x.Cur = 13 }, cells: map[int]int64{14: 0}, goes: func(x *api.Thread) { x.Look, x.Prev, x.Pc = 0, 13, 41 }},
		{name: "it waits", pc: 42, cells: map[int]int64{active: 1, req: 77}, goes: seen(1, 43)},
	} {
		w.try(t)
	}
}

// TestOld is 43 where Pass less Look is above, at, and below what is asked, also where it goes round.
func TestOld(t *testing.T) {
	for _, c := range []struct {
		pass, look int64
		age        int
		old        bool
	}{
		{9, 9, 0, false}, {9, 8, 0, true}, {9, 10, 0, false}, {9, 8, 1, false}, {9, 7, 1, true}, {9, 7, 2, false}, {9, 6, 2, true}, {9, 0, 8, true}, {9, 0, 9, false}, {9, 0, 10, false},
		{1, 0, 1, false}, {2, 0, 1, true}, {0, 0, 0, false}, {1001, 0, 1000, true}, {1000, 0, 1000, false}, {1000, 0, 999, true},
		{9, 9, -1, true}, {9, 10, -1, false}, {9, 10, -2, true}, {9, 11, -2, false}, {-9, -10, 0, true}, {-9, -9, 0, false}, {-9, -11, 1, true}, {-9, -11, 2, false}, {-1, 0, -1, false}, {-1, 0, -2, true}, {1, -1, 1, true}, {1, -1, 2, false},
		{1 << 32, 0, 5, true}, {1<<32 + 1, 1, 0, true}, {5, 0, 1 << 32, false}, {1 << 33, 0, 1 << 32, true}, {0, 1 << 32, 5, false}, {0, 1 << 32, -1 << 33, true}, {0, 1 << 32, -1 << 32, false},
		// the difference goes round
		{math.MinInt64, math.MaxInt64, 0, true}, {math.MinInt64, math.MaxInt64, 1, false}, {math.MinInt64 + 4, math.MaxInt64 - 4, 8, true}, {math.MinInt64 + 4, math.MaxInt64 - 4, 9, false},
		{math.MaxInt64, math.MinInt64, 0, false}, {math.MaxInt64, math.MinInt64, -1, false}, {math.MaxInt64, math.MinInt64, -2, true}, {math.MaxInt64, -1, 0, false}, {math.MaxInt64, -1, math.MinInt, false},
		{math.MinInt64, 1, 1000, true}, {math.MinInt64, 1, math.MaxInt - 1, true}, {math.MinInt64, 1, math.MaxInt, false}, {math.MinInt64, 0, 0, false}, {math.MinInt64, 0, math.MinInt, false},
		{0, math.MinInt64, 0, false}, {0, math.MinInt64 + 1, 1000, true}, {-1, math.MinInt64, math.MaxInt - 1, true}, {-1, math.MinInt64, math.MaxInt, false},
		// what is asked is the least, or the greatest
		{math.MaxInt64, 0, math.MaxInt, false}, {math.MaxInt64, 0, math.MaxInt - 1, true}, {math.MinInt64 + 1, 0, math.MinInt, true}, {0, 0, math.MinInt, true}, {0, 0, math.MaxInt, false},
	} {
		name := fmt.Sprintf("the pass %d less %d, of %d", c.pass, c.look, c.age)
		given := func(x *api.Thread) { x.Pass = c.pass }
		way{name: name, pc: 43, age: c.age, given: given, cells: map[int]int64{aged: c.look}, goes: either(c.old, seen(c.look, 44), seenPassesBy(c.look))}.try(t)
		at13 := func(x *api.Thread) { x.Pass, x.Cur = c.pass, 13 }
		way{name: name, pc: 43, age: c.age, given: at13, cells: map[int]int64{15: c.look}, goes: either(c.old, seen(c.look, 44), seenPassesBy(c.look))}.try(t)
	}
}

// TestOldByItsOwnPass is 43 where PASS is another one than the thread's Pass, and other cells of C would be older.
func TestOldByItsOwnPass(t *testing.T) {
	for _, c := range []map[int]int64{{api.Pass: 1000, aged: 120}, {api.Pass: 0, aged: 120}, {api.Pass: -1000, aged: 120}} {
		way{name: "old", pc: 43, age: 4, cells: c, goes: seen(120, 44)}.try(t)
		way{name: "not old", pc: 43, age: 5, cells: c, goes: seenPassesBy(120)}.try(t)
	}
}

func TestClose(t *testing.T) {
	for _, w := range []way{
		{name: "idle", pc: 44, cells: map[int]int64{req: 0}, goes: to(45), wrote: map[int]int64{req: -1}},
		{name: "idle, wherever Cur is", pc: 44, given: func(x *api.Thread) { x.Cur = 13 }, cells: map[int]int64{13: 0}, goes: to(45), wrote: map[int]int64{13: -1}},
		{name: "it waits", pc: 44, cells: map[int]int64{req: 77}, goes: passesBy},
		{name: "it waits with the least word", pc: 44, cells: map[int]int64{req: 1}, goes: passesBy},
		{name: "it waits with the greatest word", pc: 44, cells: map[int]int64{req: 1 << 40}, goes: passesBy},
		{name: "closed", pc: 44, cells: map[int]int64{req: -1}, goes: passesBy},
		{name: "far below 0", pc: 44, cells: map[int]int64{req: math.MinInt64}, goes: passesBy},
		{name: "0 in its low bits", pc: 44, cells: map[int]int64{req: 1 << 32}, goes: passesBy},
		{name: "REQ is Look", pc: 44, cells: map[int]int64{req: 55}, goes: passesBy},
		{name: "whatever REQ is", pc: 44, goes: passesBy},
		{name: "idle, with other cells of 0", pc: 44, cells: map[int]int64{req: 0, active: 0, aged: 0, next: 0}, goes: to(45), wrote: map[int]int64{req: -1}},
	} {
		w.try(t)
	}
}

func TestCut(t *testing.T) {
	for _, w := range []way{
		{name: "nobody behind it", pc: 45, cells: map[int]int64{next: 0}, goes: seen(0, 46)},
		{name: "somebody behind it", pc: 45, cells: map[int]int64{next: 13}, goes: seen(13, 46)},
		{name: "no address", pc: 45, cells: map[int]int64{next: -9}, goes: seen(-9, 46)},
		{name: "whatever NEXT is", pc: 45, goes: seen(112, 46)},
		{name: "wherever Cur is", pc: 45, given: func(x *api.Thread) { x.Cur = 13 }, goes: seen(117, 46)},

		{name: "nobody behind it", pc: 46, given: func(x *api.Thread) { x.Look = 0 }, goes: to(47), wrote: map[int]int64{ahead: 0}},
		{name: "somebody behind it", pc: 46, given: func(x *api.Thread) { x.Look = 13 }, goes: to(47), wrote: map[int]int64{ahead: 13}},
		{name: "whatever Look is", pc: 46, goes: to(47), wrote: map[int]int64{ahead: 55}},
		{name: "NEXT was it", pc: 46, cells: map[int]int64{ahead: 55}, goes: to(47)},
		{name: "wherever Prev is", pc: 46, given: func(x *api.Thread) { x.Prev = 13 }, goes: to(47), wrote: map[int]int64{16: 55}},
		{name: "Prev is Cur", pc: 46, given: func(x *api.Thread) { x.Prev = 8 }, goes: to(47), wrote: map[int]int64{next: 55}},

		{name: "on", pc: 47, cells: map[int]int64{active: 1}, goes: to(41), wrote: map[int]int64{active: 0}},
		{name: "off", pc: 47, cells: map[int]int64{active: 0}, goes: to(41)},
		{name: "in between", pc: 47, cells: map[int]int64{active: 2}, goes: to(41), wrote: map[int]int64{active: 0}},
		{name: "neither", pc: 47, goes: to(41), wrote: map[int]int64{active: 0}},
		{name: "wherever Cur is", pc: 47, given: func(x *api.Thread) { x.Cur = 13 }, goes: to(41), wrote: map[int]int64{14: 0}},

		{name: "its own lock", pc: 48, cells: map[int]int64{api.Lock: 5}, goes: to(11), wrote: map[int]int64{api.Lock: 0}},
		{name: "another one's lock", pc: 48, cells: map[int]int64{api.Lock: 1}, goes: to(11), wrote: map[int]int64{api.Lock: 0}},
		{name: "the lock of nobody", pc: 48, cells: map[int]int64{api.Lock: 0}, goes: to(11)},
		{name: "whatever LOCK is", pc: 48, goes: to(11), wrote: map[int]int64{api.Lock: 0}},
		{name: "without a record", pc: 48, given: func(x *api.Thread) { x.Rec, x.Word, x.Batch = 0, 0, nil }, goes: to(11), wrote: map[int]int64{api.Lock: 0}},
	} {
		w.try(t)
	}
}

func TestLookIsWhateverIsLoaded(t *testing.T) {
	for _, v := range numbers {
		name := fmt.Sprint("a cell that is ", v)
		way{name: name, pc: 40, cells: map[int]int64{api.Head: v}, goes: either(v == 0, seen(v, 48), begun(v))}.try(t)
		way{name: name, pc: 41, cells: map[int]int64{ahead: v}, goes: either(v == 0, seen(v, 48), met(v))}.try(t)
		way{name: name, pc: 42, cells: map[int]int64{active: v}, goes: either(v == 1, seen(v, 43), seenPassesBy(v))}.try(t)
		way{name: name, pc: 43, age: 4, cells: map[int]int64{aged: v}, goes: either(125-v > 4, seen(v, 44), seenPassesBy(v))}.try(t)
		way{name: name, pc: 45, cells: map[int]int64{next: v}, goes: seen(v, 46)}.try(t)
		wrote := map[int]int64{req: v}
		if v == 0 {
			wrote[req] = -1
		}
		way{name: name, pc: 44, cells: map[int]int64{req: v}, goes: either(v == 0, to(45), passesBy), wrote: wrote}.try(t)
		way{name: name, pc: 46, given: func(x *api.Thread) { x.Look = v }, goes: to(47), wrote: map[int]int64{ahead: v}}.try(t)
		way{name: name, pc: 47, cells: map[int]int64{active: v}, goes: to(41), wrote: map[int]int64{active: 0}}.try(t)
		way{name: name, pc: 48, cells: map[int]int64{api.Lock: v}, goes: to(11), wrote: map[int]int64{api.Lock: 0}}.try(t)
	}
}

// TestAgeIsAskedAt43Alone has every other place do the same whatever age is.
func TestAgeIsAskedAt43Alone(t *testing.T) {
	for pc := 40; pc <= 48; pc++ {
		if pc == 43 {
			continue
		}
		for _, l := range [][]int64{three(), make([]int64, 18), slices.Repeat([]int64{1}, 18)} {
			a, b := lay(t, 0, l...), lay(t, 0, l...)
			want := Step(a, 5, full(pc))
			for _, age := range []int{0, 1, -1, 1000, math.MaxInt, math.MinInt} {
				m := b.Copy()
				if got := Step(m, age, full(pc)); !same(got, want) || !slices.Equal(m.Cells(), a.Cells()) {
					t.Errorf("at %d, age %d: %+v, %v", pc, age, got, m.Cells())
				}
			}
		}
	}
}

func TestStepElsewhere(t *testing.T) {
	places := slices.Clone(elsewhere)
	for pc := -60; pc <= 60; pc++ {
		if pc < 40 || pc > 48 {
			places = append(places, pc)
		}
	}
	for _, pc := range places {
		for _, l := range [][]int64{nil, {0}, make([]int64, 18), slices.Repeat([]int64{1}, 18), three()} {
			m := lay(t, 10, l...)
			steps := m.Steps()
			in := full(pc)
			got := Step(m, -1, in)
			if !same(got, full(pc)) {
				t.Errorf("at %d: %+v", pc, got)
			}
			if !slices.Equal(m.Cells(), l) || m.Steps() != steps {
				t.Errorf("at %d: the cells are %v, and %d steps", pc, m.Cells(), m.Steps()-steps)
			}
			apart(t, "Batch", got.Batch, in.Batch)
		}
		if got := Step(nil, 0, full(pc)); !same(got, full(pc)) {
			t.Errorf("of a nil memory, at %d: %+v", pc, got)
		}
	}
}

// nothing is where a thread goes of whose cells none is there: each of them counts as 0, each SWAP as false.
func nothing(age int) func(*api.Thread) {
	return func(x *api.Thread) {
		switch x.Pc {
		case 40, 41:
			x.Look, x.Pc = 0, 48
		case 42:
			seenPassesBy(0)(x)
		case 43:
			either(x.Pass > int64(age), seen(0, 44), seenPassesBy(0))(x)
		case 44:
			passesBy(x)
		case 45:
			x.Look, x.Pc = 0, 46
		case 46:
			x.Pc = 47
		case 47:
			x.Pc = 41
		case 48:
			x.Pc = 11
		}
	}
}

func TestNilMemory(t *testing.T) {
	for pc := 40; pc <= 48; pc++ {
		for _, age := range []int{-1, 0, 124, 125, 1000} {
			want := full(pc)
			nothing(age)(&want)
			for _, m := range []*cells.Memory{nil, cells.New(0), cells.New(4)} {
				got := Step(m, age, full(pc))
				if !same(got, want) {
					t.Errorf("at %d: it is\n%+v, not\n%+v", pc, got, want)
				}
				if m.Steps() != 0 || m.Top() != 0 {
					t.Errorf("at %d: %d steps, %d cells", pc, m.Steps(), m.Top())
				}
			}
		}
	}
	x, places := swept(t, nil, 1, full(40))
	want := full(11)
	want.Look = 0
	if !slices.Equal(places, []int{40, 48}) || !same(x, want) {
		t.Errorf("a sweep of a nil memory: %v, then %+v", places, x)
	}
}

// away are addresses of which no record has a cell, though sums with them may go round.
var away = []int{
	18, 19, 23, 318, 1003, 5003, 1 << 20, 1 << 32, 1<<32 + 3, 1<<32 + 8, 1<<62 + 8, math.MaxInt, math.MaxInt - 1, math.MaxInt - 2, math.MaxInt - 4, math.MaxInt - 5,
	-5, -6, -13, -1000, -1<<32 + 3, -1<<32 + 8, math.MinInt, math.MinInt + 1, math.MinInt + 8,
}

func TestRecordThatIsNotThere(t *testing.T) {
	for _, a := range away {
		name := fmt.Sprint("at ", a)
		cur := func(x *api.Thread) { x.Cur = a }
		for _, pc := range []int{42, 43, 44, 45, 47} {
			for _, age := range []int{124, 125} {
				way{name: name, pc: pc, age: age, given: cur, goes: nothing(age), still: true}.try(t)
			}
		}
		prev := func(x *api.Thread) { x.Prev = a }
		for _, pc := range []int{41, 46} {
			way{name: name, pc: pc, given: prev, goes: nothing(0), still: true}.try(t)
		}
	}
}

// TestRecordThatIsThereInPart has records that begin, or end, where no cell is: of each the cells that are there are come to.
func TestRecordThatIsThereInPart(t *testing.T) {
	which := map[int]int{41: api.Next, 42: api.Active, 43: api.Age, 44: api.Req, 45: api.Next, 46: api.Next, 47: api.Active}
	for at := -5; at <= 20; at++ {
		for pc, cell := range which {
			given := func(x *api.Thread) {
				if x.Cur = at; pc == 41 || pc == 46 {
					x.Cur, x.Prev = 8, at
				}
			}
			a := at + cell
			if a < 0 || a >= 18 {
				way{name: fmt.Sprint("not there, of ", at), pc: pc, age: 4, given: given, goes: nothing(4), still: true}.try(t)
				continue
			}
			for _, v := range []int64{0, 1, 5, 121, -1} {
				w := way{name: fmt.Sprint("there, of ", at), pc: pc, age: 4, given: given, cells: map[int]int64{a: v}}
				switch pc {
				case 41:
					w.goes = either(v == 0, seen(v, 48), met(v))
				case 42:
					w.goes = either(v == 1, seen(v, 43), seenPassesBy(v))
				case 43:
					w.goes = either(v < 121, seen(v, 44), seenPassesBy(v))
				case 44:
					w.goes, w.wrote = passesBy, nil
					if v == 0 {
						w.goes, w.wrote = to(45), map[int]int64{a: -1}
					}
				case 45:
					w.goes = seen(v, 46)
				case 46:
					w.goes, w.wrote = to(47), map[int]int64{a: 55}
				case 47:
					w.goes, w.wrote = to(41), map[int]int64{a: 0}
				}
				w.try(t)
			}
		}
	}
}

func TestFirstCellsThatAreNotThere(t *testing.T) {
	for top, missing := range map[int][]int{0: {40, 48}, 1: {40}, 2: nil, 3: nil} {
		for _, pc := range []int{40, 48} {
			want := full(pc)
			nothing(0)(&want) // a HEAD of 0, and one that is not there, lead to nobody
			l := make([]int64, top)
			if top > 0 {
				l[api.Lock] = 7
			}
			m := lay(t, 9, l...)
			steps := m.Steps()
			if got := Step(m, 1, full(pc)); !same(got, want) {
				t.Errorf("at %d of %d cells: %+v", pc, top, got)
			}
			if gone := slices.Contains(missing, pc); (m.Steps() == steps) != gone || m.Top() != top {
				t.Errorf("at %d of %d cells: %d steps, %d cells", pc, top, m.Steps()-steps, m.Top())
			}
			if pc == 48 && top > 0 && load(t, m, api.Lock) != 0 {
				t.Errorf("at 48 of %d cells: LOCK is not 0", top)
			}
		}
	}
}

func TestBatchIsNeitherKeptNorShared(t *testing.T) {
	under := []api.Item{{Rec: 3, Word: 1}, {Rec: 8, Word: 2}, {Rec: 13, Word: 3}, {Rec: 18, Word: 4}}
	was := slices.Clone(under)
	for pc := 38; pc <= 50; pc++ {
		for n := range 4 {
			in := full(pc)
			in.Batch = under[:n]
			m := lay(t, 5, three()...)
			a, b, c := Step(m, 1, in), Step(m, 1, in), Step(nil, 1, in)
			for _, l := range [][]api.Item{a.Batch, b.Batch, c.Batch} {
				apart(t, fmt.Sprint("at ", pc), l, under)
				if !slices.Equal(l, was[:n]) {
					t.Errorf("at %d: the Batch that comes back is %v", pc, l)
				}
			}
			apart(t, "of two calls", a.Batch, b.Batch)
			apart(t, "of two memories", a.Batch, c.Batch)
			if !slices.Equal(in.Batch, was[:n]) || !slices.Equal(under, was) {
				t.Fatalf("at %d: what was handed in is %v now", pc, under)
			}
		}
	}
}
