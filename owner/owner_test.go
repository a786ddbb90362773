package owner

import (
	"fmt"
	"math"
	"reflect"
	"slices"
	"testing"

	"reaper/api"
	"reaper/cells"
	"reaper/record"
	"reaper/word"
)

// numbers are what a cell, or a field, may be, from the least to the greatest.
var numbers = []int64{
	math.MinInt64, math.MinInt64 + 1, -1 << 40, -1 << 32, -1 << 31, -256, -2, -1, 0, 1, 2, 3, 4, 8, 55, 77, 255, 256, 257,
	1 << 16, 1 << 31, 1 << 32, 1<<32 + 1, 1<<32 + 2, 1<<40 - 1, 1 << 40, 1<<40 + 1, 1 << 62, math.MaxInt64 - 1, math.MaxInt64,
}

// elsewhere are places at which nobody asks; some would be one at which somebody does if bits were cut off, or if signs were.
var elsewhere = []int{
	0, 17, 18, 19, 20, 21, 30, 39, 40, 41, 44, 48, 49, 50, 100, 1000, 1<<8 + 1, 1<<8 + 16, 1<<16 + 2, 1<<31 + 1, 1<<32 + 1, 1<<32 + 14, 1<<33 + 16, 1<<62 + 5, math.MaxInt - 1, math.MaxInt,
	-1, -2, -5, -14, -16, -17, -1<<8 + 1, -1<<16 + 2, -1<<31 + 3, -1<<32 + 4, -1<<32 + 16, -1<<62 + 5, math.MinInt, math.MinInt + 1, math.MinInt + 16,
}

// full is a thread of which no field is 0, so that each that changes is seen.
func full(pc int) api.Thread {
	return api.Thread{
		Id: 4, Pc: pc, Rec: 8, Seq: 6, Word: 77, Look: 55, Cur: 21, Prev: 22, Nth: 23, Many: 24, Pass: 25, Runs: 26,
		Batch: []api.Item{{Rec: 3, Word: 31, Res: 32}, {Rec: 8, Word: 33, Res: 34}},
	}
}

// lay is a memory of some numbers, one in each cell, and of room behind them.
func lay(t testing.TB, room int, numbers ...int64) *cells.Memory {
	t.Helper()
	m := cells.New(len(numbers) + room)
	if at, e := m.Alloc(len(numbers)); at != 0 || e != api.OK {
		t.Fatalf("Alloc(%d) is %d, %v", len(numbers), at, e)
	}
	for a, v := range numbers {
		store(t, m, a, v)
	}
	return m
}

// store writes a cell that is there.
func store(t testing.TB, m *cells.Memory, a int, v int64) {
	t.Helper()
	if e := m.Store(a, v); e != api.OK {
		t.Fatalf("Store(%d, %d) is %v", a, v, e)
	}
}

// load is a cell that is there.
func load(t testing.TB, m *cells.Memory, a int) int64 {
	t.Helper()
	v, e := m.Load(a)
	if e != api.OK {
		t.Fatalf("Load(%d) is %v", a, e)
	}
	return v
}

// three is LOCK, HEAD, PASS and three records, at 3, 8 and 13, whose cells are all different, and none is 0, 1 or 2.
func three() []int64 {
	l := make([]int64, 18)
	for a := range l {
		l[a] = int64(101 + a)
	}
	return l
}

// same says whether two threads are. A nil batch is an empty one.
func same(a, b api.Thread) bool {
	if !slices.Equal(a.Batch, b.Batch) {
		return false
	}
	a.Batch, b.Batch = nil, nil
	return reflect.DeepEqual(a, b)
}

// apartFrom checks that a thread's batch shares no memory with another one, and that there is nothing of it behind its length.
func apartFrom(t *testing.T, what string, a, b []api.Item) {
	t.Helper()
	for i := range a {
		was := b[i]
		a[i].Rec++
		if b[i] != was {
			t.Errorf("%s: Batch shares its memory", what)
		}
		a[i].Rec--
	}
	for _, i := range a[len(a):cap(a)] {
		if i != (api.Item{}) {
			t.Errorf("%s: %v stands behind Batch", what, i)
		}
	}
}

func TestExample(t *testing.T) {
	m := record.Open(1)
	x, is := Begin(api.Thread{}, api.Op{Kind: api.Push, Val: 7})
	if !is {
		t.Fatal("Begin is false")
	}
	var met []int
	for range 12 {
		met = append(met, x.Pc)
		if !Asks(x) {
			t.Fatalf("at %d it does not ask", x.Pc)
		}
		steps := m.Steps()
		var told bool
		x, _, told = Step(m, x)
		if told {
			t.Errorf("it is told at %d", met[len(met)-1])
		}
		if m.Steps() != steps+1 {
			t.Errorf("at %d memory counts %d steps", met[len(met)-1], m.Steps()-steps)
		}
	}
	want := []int{
		api.PcAlloc, api.PcPublish, api.PcCheck, api.PcClaim, api.PcSure, api.PcFront,
		api.PcNext, api.PcLink, api.PcMark, api.PcWait, api.PcLock, api.PcTake,
	}
	if !slices.Equal(met, want) {
		t.Errorf("the places are %v, not %v", met, want)
	}
	w := word.Op(api.Op{Kind: api.Push, Val: 7})
	if !same(x, api.Thread{Pc: api.PcPass, Rec: 3, Seq: 1, Word: w}) || Asks(x) {
		t.Errorf("then it is %+v", x)
	}
	if got := m.Cells(); !slices.Equal(got, []int64{1, 3, 0, w, 1, 0, 0, 0}) {
		t.Errorf("the cells are %v", got)
	}
}

func TestAsks(t *testing.T) {
	for pc := range 31 {
		if got, want := Asks(api.Thread{Pc: pc}), pc >= 1 && pc <= 16; got != want {
			t.Errorf("Asks at %d is %v", pc, got)
		}
		if got, want := Asks(full(pc)), pc >= 1 && pc <= 16; got != want {
			t.Errorf("Asks of a full thread at %d is %v", pc, got)
		}
	}
	for _, pc := range elsewhere {
		if Asks(api.Thread{Pc: pc}) || Asks(full(pc)) {
			t.Errorf("Asks at %d is true", pc)
		}
	}
}

func TestBeginOfWhoIsIdle(t *testing.T) {
	ops := []api.Op{
		{}, {Kind: 1, Val: 7}, {Kind: 2}, {Kind: 4, Val: -1}, {Kind: 9, Val: 1},
		{Kind: 0, Val: math.MinInt32}, {Kind: 255, Val: math.MaxInt32}, {Kind: 1, Val: math.MinInt32}, {Kind: 255, Val: 0},
	}
	recs := []struct{ rec, pc int }{
		{0, 1}, {3, 2}, {8, 2}, {318, 2}, {1, 2}, {5003, 2}, {-1, 2}, {-3, 2}, {1 << 8, 2}, {1 << 32, 2}, {1 << 62, 2}, {math.MaxInt, 2}, {math.MinInt, 2},
	}
	for _, o := range ops {
		for _, r := range recs {
			for _, seq := range []struct{ was, is int }{{0, 1}, {6, 7}, {-1, 0}, {math.MaxInt, math.MinInt}, {math.MinInt, math.MinInt + 1}} {
				in := full(0)
				in.Rec, in.Seq = r.rec, seq.was
				want := full(r.pc)
				want.Rec, want.Seq = r.rec, seq.is
				want.Word = 256*(int64(o.Val)+1<<31) + int64(o.Kind) + 1
				got, is := Begin(in, o)
				if !is || !same(got, want) {
					t.Errorf("Begin(%+v, %v) is %+v, %v", in, o, got, is)
				}
			}
		}
	}
}

func TestBeginOfAFreshOne(t *testing.T) {
	got, is := Begin(api.Thread{}, api.Op{Kind: 1, Val: math.MinInt32})
	if !is || !same(got, api.Thread{Pc: 1, Seq: 1, Word: 2}) {
		t.Errorf("Begin is %+v, %v", got, is)
	}
	got, is = Begin(api.Thread{Id: 63, Rec: 318, Seq: 9, Look: -1}, api.Op{})
	if !is || !same(got, api.Thread{Id: 63, Pc: 2, Rec: 318, Seq: 10, Word: 1<<39 + 1, Look: -1}) {
		t.Errorf("Begin is %+v, %v", got, is)
	}
}

func TestBeginElsewhere(t *testing.T) {
	places := elsewhere[1:]
	for pc := 1; pc <= 50; pc++ {
		places = append(places[:len(places):len(places)], pc)
	}
	for _, pc := range places {
		for _, rec := range []int{0, 8, -1} {
			in := full(pc)
			in.Rec = rec
			got, is := Begin(in, api.Op{Kind: 1, Val: 5})
			if is || !same(got, in) {
				t.Errorf("Begin at %d with Rec %d is %+v, %v", pc, rec, got, is)
			}
			got, is = Begin(api.Thread{Pc: pc, Rec: rec}, api.Op{Kind: 1, Val: 5})
			if is || !same(got, api.Thread{Pc: pc, Rec: rec}) {
				t.Errorf("Begin of an empty thread at %d with Rec %d is %+v, %v", pc, rec, got, is)
			}
		}
	}
}

func TestBatchIsNeitherKeptNorShared(t *testing.T) {
	under := []api.Item{{Rec: 3, Word: 1}, {Rec: 8, Word: 2}, {Rec: 13, Word: 3}, {Rec: 18, Word: 4}}
	for pc := -2; pc <= 50; pc++ {
		for n := range 4 {
			in := full(pc)
			in.Batch = under[:n]
			begun, _ := Begin(in, api.Op{Kind: 1})
			stepped, _, _ := Step(lay(t, 5, three()...), in)
			alone, _, _ := Step(nil, in)
			for _, got := range []api.Thread{begun, stepped, alone} {
				if !slices.Equal(got.Batch, under[:n]) {
					t.Errorf("at %d a Batch of %v is %v", pc, under[:n], got.Batch)
				}
				apartFrom(t, "what comes out", got.Batch, in.Batch)
			}
			apartFrom(t, "of two calls", begun.Batch, stepped.Batch)
		}
	}
	if !slices.Equal(under, []api.Item{{Rec: 3, Word: 1}, {Rec: 8, Word: 2}, {Rec: 13, Word: 3}, {Rec: 18, Word: 4}}) {
		t.Errorf("what was handed in is %v now", under)
	}
}

func TestThreadThatIsHandedInStays(t *testing.T) {
	for pc := -2; pc <= 50; pc++ {
		in, want := full(pc), full(pc)
		Begin(in, api.Op{Kind: 1, Val: 9})
		Step(lay(t, 5, three()...), in)
		Step(lay(t, 5, make([]int64, 18)...), in)
		Asks(in)
		if !reflect.DeepEqual(in, want) {
			t.Errorf("at %d: %+v", pc, in)
		}
	}
}

// way is one of a place's ways: what is otherwise ahead of the step than full and three are, and what is otherwise behind it than it was.
type way struct {
	name  string
	pc    int
	given func(*api.Thread)
	cells map[int]int64
	goes  func(*api.Thread)
	wrote map[int]int64
}

// try takes one step and checks all: the thread, what it was told, the cells, and that one step was counted.
func (w way) try(t *testing.T) {
	t.Helper()
	in := full(w.pc)
	if w.given != nil {
		w.given(&in)
	}
	ahead := three()
	for a, v := range w.cells {
		ahead[a] = v
	}
	behind := slices.Clone(ahead)
	for a, v := range w.wrote {
		behind[a] = v
	}
	want := in
	w.goes(&want)
	m := lay(t, 0, ahead...)
	steps := m.Steps()
	got, res, told := Step(m, in)
	if !same(got, want) {
		t.Errorf("%d, %s: it is\n%+v, not\n%+v", w.pc, w.name, got, want)
	}
	if told || res != (api.Res{}) {
		t.Errorf("%d, %s: it is told %v, %v", w.pc, w.name, res, told)
	}
	if all := m.Cells(); !slices.Equal(all, behind) {
		t.Errorf("%d, %s: the cells are\n%v, not\n%v", w.pc, w.name, all, behind)
	}
	if m.Steps() != steps+1 {
		t.Errorf("%d, %s: %d steps", w.pc, w.name, m.Steps()-steps)
	}
}

// to is a thread that only goes on to a place.
func to(pc int) func(*api.Thread) { return func(x *api.Thread) { x.Pc = pc } }

// seen is one that goes on, and what it loaded is Look.
func seen(v int64, pc int) func(*api.Thread) {
	return func(x *api.Thread) { x.Look, x.Pc = v, pc }
}

// asksFor is one whose Word is another one.
func asksFor(w int64) func(*api.Thread) { return func(x *api.Thread) { x.Word = w } }

// looks is one whose Look is another one.
func looks(v int64) func(*api.Thread) { return func(x *api.Thread) { x.Look = v } }

// The cells of the record at 8, which full has.
const (
	req    = 8
	active = 9
	next   = 11
	told   = 12
)

func TestWays(t *testing.T) {
	for _, w := range []way{
		{name: "nothing asked", pc: 2, cells: map[int]int64{req: 0}, goes: to(5), wrote: map[int]int64{req: 77}},
		{name: "closed", pc: 2, cells: map[int]int64{req: -1}, goes: to(3)},
		{name: "something else asked", pc: 2, goes: to(3)},
		{name: "the same asked", pc: 2, cells: map[int]int64{req: 77}, goes: to(3)},
		{name: "Word 0 and nothing asked", pc: 2, given: asksFor(0), cells: map[int]int64{req: 0}, goes: to(5)},
		{name: "Word 0 and something asked", pc: 2, given: asksFor(0), goes: to(3)},
		{name: "Word -1", pc: 2, given: asksFor(-1), cells: map[int]int64{req: 0}, goes: to(5), wrote: map[int]int64{req: -1}},

		{name: "off", pc: 3, cells: map[int]int64{active: 0}, goes: seen(0, 4)},
		{name: "on", pc: 3, cells: map[int]int64{active: 1}, goes: seen(1, 3)},
		{name: "in between", pc: 3, cells: map[int]int64{active: 2}, goes: seen(2, 3)},
		{name: "below 0", pc: 3, cells: map[int]int64{active: -1}, goes: seen(-1, 3)},
		{name: "neither", pc: 3, goes: seen(110, 3)},

		{name: "closed", pc: 4, cells: map[int]int64{req: -1}, goes: to(5), wrote: map[int]int64{req: 77}},
		{name: "nothing asked", pc: 4, cells: map[int]int64{req: 0}, goes: to(5), wrote: map[int]int64{req: 77}},
		{name: "something else asked", pc: 4, goes: to(5), wrote: map[int]int64{req: 77}},
		{name: "Word 0", pc: 4, given: asksFor(0), goes: to(5), wrote: map[int]int64{req: 0}},

		{name: "off", pc: 5, cells: map[int]int64{active: 0}, goes: seen(0, 6)},
		{name: "on", pc: 5, cells: map[int]int64{active: 1}, goes: seen(1, 11)},
		{name: "in between", pc: 5, cells: map[int]int64{active: 2}, goes: seen(2, 11)},
		{name: "below 0", pc: 5, cells: map[int]int64{active: -1}, goes: seen(-1, 11)},
		{name: "neither", pc: 5, goes: seen(110, 11)},

		{name: "off", pc: 6, cells: map[int]int64{active: 0}, goes: to(15), wrote: map[int]int64{active: 2}},
		{name: "on", pc: 6, cells: map[int]int64{active: 1}, goes: to(11)},
		{name: "in between", pc: 6, cells: map[int]int64{active: 2}, goes: to(11)},
		{name: "neither", pc: 6, goes: to(11)},

		{name: "an empty list", pc: 7, cells: map[int]int64{api.Head: 0}, goes: seen(0, 8)},
		{name: "a list", pc: 7, cells: map[int]int64{api.Head: 3}, goes: seen(3, 8)},
		{name: "itself", pc: 7, cells: map[int]int64{api.Head: 8}, goes: seen(8, 8)},
		{name: "no address", pc: 7, goes: seen(102, 8)},

		{name: "nobody behind it", pc: 8, given: looks(0), goes: to(9), wrote: map[int]int64{next: 0}},
		{name: "somebody behind it", pc: 8, given: looks(3), goes: to(9), wrote: map[int]int64{next: 3}},
		{name: "whatever Look is", pc: 8, goes: to(9), wrote: map[int]int64{next: 55}},

		{name: "the first on the list", pc: 9, given: looks(0), cells: map[int]int64{api.Head: 0}, goes: seen(1, 10), wrote: map[int]int64{api.Head: 8}},
		{name: "in front of somebody", pc: 9, given: looks(3), cells: map[int]int64{api.Head: 3}, goes: seen(1, 10), wrote: map[int]int64{api.Head: 8}},
		{name: "whatever HEAD is", pc: 9, cells: map[int]int64{api.Head: 55}, goes: seen(1, 10), wrote: map[int]int64{api.Head: 8}},
		{name: "somebody came meanwhile", pc: 9, given: looks(0), cells: map[int]int64{api.Head: 3}, goes: seen(0, 10)},
		{name: "itself is there", pc: 9, cells: map[int]int64{api.Head: 8}, goes: seen(0, 10)},
		{name: "HEAD is 1", pc: 9, cells: map[int]int64{api.Head: 1}, goes: seen(0, 10)},
		{name: "HEAD is 0", pc: 9, cells: map[int]int64{api.Head: 0}, goes: seen(0, 10)},

		{name: "linked", pc: 10, given: looks(1), cells: map[int]int64{active: 2}, goes: to(11), wrote: map[int]int64{active: 1}},
		{name: "not linked", pc: 10, given: looks(0), cells: map[int]int64{active: 2}, goes: to(11), wrote: map[int]int64{active: 0}},
		{name: "whatever Look is", pc: 10, goes: to(11), wrote: map[int]int64{active: 55}},

		{name: "still asked", pc: 11, cells: map[int]int64{req: 77}, goes: seen(77, 12)},
		{name: "served", pc: 11, cells: map[int]int64{req: 0}, goes: seen(0, 14)},
		{name: "served, and closed", pc: 11, cells: map[int]int64{req: -1}, goes: seen(-1, 14)},
		{name: "something else asked", pc: 11, goes: seen(109, 14)},
		{name: "Word but for high bits", pc: 11, cells: map[int]int64{req: 1<<32 + 77}, goes: seen(1<<32+77, 14)},
		{name: "Word 0 and nothing asked", pc: 11, given: asksFor(0), cells: map[int]int64{req: 0}, goes: seen(0, 12)},

		{name: "nobody serves", pc: 12, cells: map[int]int64{api.Lock: 0}, goes: seen(0, 13)},
		{name: "somebody serves", pc: 12, cells: map[int]int64{api.Lock: 1}, goes: seen(1, 11)},
		{name: "itself serves", pc: 12, cells: map[int]int64{api.Lock: 5}, goes: seen(5, 11)},
		{name: "below 0", pc: 12, cells: map[int]int64{api.Lock: -1}, goes: seen(-1, 11)},
		{name: "nobody of that number", pc: 12, goes: seen(101, 11)},

		{name: "nobody serves", pc: 13, cells: map[int]int64{api.Lock: 0}, goes: func(x *api.Thread) { x.Pc, x.Runs = 20, 0 }, wrote: map[int]int64{api.Lock: 5}},
		{name: "somebody serves", pc: 13, cells: map[int]int64{api.Lock: 1}, goes: to(11)},
		{name: "itself serves", pc: 13, cells: map[int]int64{api.Lock: 5}, goes: to(11)},
		{name: "nobody of that number", pc: 13, goes: to(11)},

		{name: "still asked", pc: 15, cells: map[int]int64{req: 77}, goes: seen(77, 7)},
		{name: "served", pc: 15, cells: map[int]int64{req: 0}, goes: seen(0, 16)},
		{name: "swept off", pc: 15, cells: map[int]int64{req: -1}, goes: seen(-1, 16)},
		{name: "something else asked", pc: 15, goes: seen(109, 16)},
		{name: "Word but for high bits", pc: 15, cells: map[int]int64{req: 1<<32 + 77}, goes: seen(1<<32+77, 16)},
		{name: "Word 0 and nothing asked", pc: 15, given: asksFor(0), cells: map[int]int64{req: 0}, goes: seen(0, 7)},

		{name: "in between", pc: 16, cells: map[int]int64{active: 2}, goes: to(11), wrote: map[int]int64{active: 0}},
		{name: "on", pc: 16, cells: map[int]int64{active: 1}, goes: to(11), wrote: map[int]int64{active: 0}},
		{name: "off", pc: 16, cells: map[int]int64{active: 0}, goes: to(11)},
		{name: "neither", pc: 16, goes: to(11), wrote: map[int]int64{active: 0}},
	} {
		w.try(t)
	}
}

func TestAlloc(t *testing.T) {
	for _, rec := range []int{0, 8, -1} {
		for _, c := range []struct{ top, room int }{{3, 5}, {3, 6}, {8, 320}, {18, 5}, {0, 5}, {1, 9}, {995, 5}} {
			in, want := full(1), full(2)
			in.Rec = rec
			want.Rec = c.top
			l := make([]int64, c.top)
			for a := range l {
				l[a] = int64(a + 7)
			}
			m := lay(t, c.room, l...)
			steps := m.Steps()
			got, res, is := Step(m, in)
			if !same(got, want) || res != (api.Res{}) || is {
				t.Errorf("of %d cells with room for %d: %+v, %v, %v", c.top, c.room, got, res, is)
			}
			if all := m.Cells(); !slices.Equal(all, append(l, 0, 0, 0, 0, 0)) || m.Steps() != steps+1 {
				t.Errorf("of %d cells with room for %d: %v, %d steps", c.top, c.room, all, m.Steps()-steps)
			}
		}
	}
}

func TestAllocWithoutRoom(t *testing.T) {
	for _, rec := range []int{0, 8, -1} {
		for _, c := range []struct{ top, room int }{{3, 0}, {3, 4}, {8, 1}, {18, 3}, {0, 0}, {0, 4}, {996, 4}, {1000, 0}} {
			in := full(1)
			in.Rec = rec
			m := lay(t, c.room, make([]int64, c.top)...)
			steps := m.Steps()
			got := in
			for range 3 {
				var res api.Res
				var is bool
				got, res, is = Step(m, got)
				if !same(got, in) || res != (api.Res{}) || is {
					t.Errorf("of %d cells with room for %d: %+v, %v, %v", c.top, c.room, got, res, is)
				}
			}
			if m.Top() != c.top || m.Steps() != steps {
				t.Errorf("of %d cells with room for %d: %d cells, %d steps", c.top, c.room, m.Top(), m.Steps()-steps)
			}
		}
	}
}

func TestTakePutsOneMoreThanId(t *testing.T) {
	for _, c := range []struct {
		id   int
		lock int64
	}{{0, 1}, {1, 2}, {63, 64}, {-1, 0}, {-2, -1}, {1 << 32, 1<<32 + 1}, {math.MaxInt, math.MinInt64}, {math.MinInt, math.MinInt64 + 1}} {
		way{
			name: "Id", pc: 13,
			given: func(x *api.Thread) { x.Id = c.id },
			cells: map[int]int64{api.Lock: 0},
			goes:  func(x *api.Thread) { x.Pc, x.Runs = 20, 0 },
			wrote: map[int]int64{api.Lock: c.lock},
		}.try(t)
	}
}

func TestLookIsWhateverIsLoaded(t *testing.T) {
	at := map[int]int{3: active, 5: active, 7: api.Head, 11: req, 12: api.Lock, 15: req}
	zero := map[int]int{3: 4, 5: 6, 7: 8, 12: 13}
	other := map[int]int{3: 3, 5: 11, 7: 8, 11: 14, 12: 11, 15: 16}
	mine := map[int]int{11: 12, 15: 7}
	for pc, a := range at {
		for _, v := range numbers {
			goes := other[pc]
			if to, is := zero[pc]; is && v == 0 {
				goes = to
			}
			if to, is := mine[pc]; is && v == 77 {
				goes = to
			}
			way{name: fmt.Sprint("a cell that is ", v), pc: pc, cells: map[int]int64{a: v}, goes: seen(v, goes)}.try(t)
		}
	}
}

func TestWordIsWhateverIsAsked(t *testing.T) {
	for _, v := range numbers {
		way{name: "REQ is Word", pc: 11, given: asksFor(v), cells: map[int]int64{req: v}, goes: seen(v, 12)}.try(t)
		way{name: "REQ is Word", pc: 15, given: asksFor(v), cells: map[int]int64{req: v}, goes: seen(v, 7)}.try(t)
		way{name: "REQ is not Word", pc: 11, given: asksFor(v + 1), cells: map[int]int64{req: v}, goes: seen(v, 14)}.try(t)
		way{name: "REQ is not Word", pc: 15, given: asksFor(v - 1), cells: map[int]int64{req: v}, goes: seen(v, 16)}.try(t)
		way{name: "Word is written", pc: 4, given: asksFor(v), goes: to(5), wrote: map[int]int64{req: v}}.try(t)
		way{name: "Word is written", pc: 2, given: asksFor(v), cells: map[int]int64{req: 0}, goes: to(5), wrote: map[int]int64{req: v}}.try(t)
		way{name: "Look is written", pc: 8, given: looks(v), goes: to(9), wrote: map[int]int64{next: v}}.try(t)
		way{name: "Look is written", pc: 10, given: looks(v), goes: to(11), wrote: map[int]int64{active: v}}.try(t)
		way{name: "Look is HEAD", pc: 9, given: looks(v), cells: map[int]int64{api.Head: v}, goes: seen(1, 10), wrote: map[int]int64{api.Head: 8}}.try(t)
		way{name: "Look is not HEAD", pc: 9, given: looks(v), cells: map[int]int64{api.Head: v + 1}, goes: seen(0, 10)}.try(t)
	}
}

func TestRead(t *testing.T) {
	for _, c := range []struct {
		told int64
		res  api.Res
	}{
		{1, api.Res{Code: 0, Val: math.MinInt32}},
		{2, api.Res{Code: 1, Val: math.MinInt32}},
		{113, api.Res{Code: 112, Val: math.MinInt32}},
		{256, api.Res{Code: 255, Val: math.MinInt32}},
		{257, api.Res{Code: 0, Val: math.MinInt32 + 1}},
		{1<<39 + 1, api.Res{}},
		{1<<39 + 3, api.Res{Code: api.Got}},
		{1<<39 + 7*256 + 3, api.Res{Code: api.Got, Val: 7}},
		{1<<39 - 7*256 + 3, api.Res{Code: api.Got, Val: -7}},
		{1 << 40, api.Res{Code: 255, Val: math.MaxInt32}},
		// No words: it is told nothing.
		{0, api.Res{}},
		{-1, api.Res{}},
		{-2, api.Res{}},
		{1<<40 + 1, api.Res{}},
		{1 << 41, api.Res{}},
		{1<<41 + 3, api.Res{}},
		{1<<62 + 3, api.Res{}},
		{-1<<40 + 3, api.Res{}},
		{-1<<62 + 3, api.Res{}},
		{-1 << 40, api.Res{}},
		{math.MaxInt64, api.Res{}},
		{math.MinInt64, api.Res{}},
		{math.MinInt64 + 2, api.Res{}},
	} {
		in, want := full(14), full(0)
		want.Word, want.Look = 0, c.told
		l := three()
		l[told] = c.told
		m := lay(t, 0, l...)
		steps := m.Steps()
		got, res, is := Step(m, in)
		if !same(got, want) || res != c.res || !is {
			t.Errorf("TOLD %d: %+v, %v, %v", c.told, got, res, is)
		}
		if !slices.Equal(m.Cells(), l) || m.Steps() != steps+1 {
			t.Errorf("TOLD %d: the cells are %v, and %d steps", c.told, m.Cells(), m.Steps()-steps)
		}
	}
}

func TestStepElsewhere(t *testing.T) {
	places := slices.Clone(elsewhere)
	for pc := -20; pc <= 60; pc++ {
		if pc < 1 || pc > 16 {
			places = append(places, pc)
		}
	}
	for _, pc := range places {
		for _, l := range [][]int64{nil, {0}, make([]int64, 18), three()} {
			m := lay(t, 10, l...)
			steps := m.Steps()
			got, res, is := Step(m, full(pc))
			if !same(got, full(pc)) || res != (api.Res{}) || is {
				t.Errorf("at %d: %+v, %v, %v", pc, got, res, is)
			}
			if !slices.Equal(m.Cells(), l) || m.Steps() != steps {
				t.Errorf("at %d: the cells are %v, and %d steps", pc, m.Cells(), m.Steps()-steps)
			}
		}
		got, res, is := Step(nil, full(pc))
		if !same(got, full(pc)) || res != (api.Res{}) || is {
			t.Errorf("of a nil memory, at %d: %+v, %v, %v", pc, got, res, is)
		}
	}
}

// nothing is where a thread goes of whose cells none is there: each of them counts as 0, each SWAP as false.
func nothing(in api.Thread) (api.Thread, bool) {
	want := in
	switch in.Pc {
	case 2:
		want.Pc = 3
	case 3:
		want.Pc, want.Look = 4, 0
	case 4:
		want.Pc = 5
	case 5:
		want.Pc, want.Look = 6, 0
	case 6:
		want.Pc = 11
	case 7:
		want.Pc, want.Look = 8, 0
	case 8:
		want.Pc = 9
	case 9:
		want.Pc, want.Look = 10, 0
	case 10:
		want.Pc = 11
	case 11:
		want.Pc, want.Look = 14, 0
	case 12:
		want.Pc, want.Look = 13, 0
	case 13:
		want.Pc = 11
	case 14:
		want.Pc, want.Look, want.Word = 0, 0, 0
	case 15:
		want.Pc, want.Look = 16, 0
	case 16:
		want.Pc = 11
	}
	return want, in.Pc == 14
}

func TestNilMemory(t *testing.T) {
	for pc := 1; pc <= 16; pc++ {
		want, is := nothing(full(pc))
		for _, m := range []*cells.Memory{nil, cells.New(0), cells.New(4)} {
			got, res, told := Step(m, full(pc))
			if !same(got, want) || res != (api.Res{}) || told != is {
				t.Errorf("at %d: %+v, %v, %v", pc, got, res, told)
			}
			if m.Steps() != 0 || m.Top() != 0 {
				t.Errorf("at %d: %d steps, %d cells", pc, m.Steps(), m.Top())
			}
		}
	}
	// Word 0 is what a cell that is not there counts as.
	for pc, goes := range map[int]int{11: 12, 15: 7} {
		in, want := full(pc), full(goes)
		in.Word, want.Word, want.Look = 0, 0, 0
		if got, res, told := Step(nil, in); !same(got, want) || res != (api.Res{}) || told {
			t.Errorf("at %d with Word 0: %+v, %v, %v", pc, got, res, told)
		}
	}
	for pc := range 51 {
		in := full(pc)
		for range 40 {
			in, _, _ = Step(nil, in)
		}
	}
	if x, is := Begin(api.Thread{}, api.Op{Kind: 1}); is {
		for range 40 {
			x, _, _ = Step(nil, x)
		}
		if x.Pc != 1 || x.Rec != 0 {
			t.Errorf("a fresh thread of a nil memory is %+v", x)
		}
	}
}

func TestRecordThatIsNotThere(t *testing.T) {
	for _, rec := range []int{
		18, 19, 23, 318, 1003, 5003, 1 << 20, 1 << 32, 1<<32 + 3, 1<<32 + 8, 1<<62 + 8, math.MaxInt, math.MaxInt - 1, math.MaxInt - 2, math.MaxInt - 4, math.MaxInt - 5,
		-5, -6, -13, -1000, -1<<32 + 3, -1<<32 + 8, math.MinInt, math.MinInt + 1, math.MinInt + 8,
	} {
		for pc := 2; pc <= 16; pc++ {
			if pc == 7 || pc == 9 || pc == 12 || pc == 13 {
				continue // these come to no cell of the record
			}
			in := full(pc)
			in.Rec = rec
			m := lay(t, 10, three()...)
			steps := m.Steps()
			want, is := nothing(in)
			got, res, told := Step(m, in)
			if !same(got, want) || res != (api.Res{}) || told != is {
				t.Errorf("at %d with Rec %d: %+v, %v, %v", pc, rec, got, res, told)
			}
			if !slices.Equal(m.Cells(), three()) || m.Steps() != steps {
				t.Errorf("at %d with Rec %d: the cells are %v, and %d steps", pc, rec, m.Cells(), m.Steps()-steps)
			}
		}
	}
}

func TestLinkOfAnyRec(t *testing.T) {
	for _, rec := range numbers {
		way{
			name: "Rec", pc: 9,
			given: func(x *api.Thread) { x.Rec = int(rec) },
			cells: map[int]int64{api.Head: 55},
			goes:  seen(1, 10),
			wrote: map[int]int64{api.Head: rec},
		}.try(t)
	}
}

func TestRecordThatIsThereInPart(t *testing.T) {
	which := map[int]int{2: api.Req, 3: api.Active, 4: api.Req, 5: api.Active, 6: api.Active, 8: api.Next, 10: api.Active, 11: api.Req, 14: api.Told, 15: api.Req, 16: api.Active}
	for rec := -5; rec <= 20; rec++ {
		for pc, cell := range which {
			in := full(pc)
			in.Rec = rec
			m := lay(t, 0, three()...)
			steps := m.Steps()
			got, _, _ := Step(m, in)
			there := rec+cell >= 0 && rec+cell < 18
			if is := m.Steps() == steps+1; is != there {
				t.Errorf("at %d with Rec %d: %d steps", pc, rec, m.Steps()-steps)
			}
			if want, _ := nothing(in); !there && !same(got, want) {
				t.Errorf("at %d with Rec %d: %+v", pc, rec, got)
			}
			for a, v := range m.Cells() {
				if a != rec+cell && v != int64(101+a) {
					t.Errorf("at %d with Rec %d: the cell %d is %d", pc, rec, a, v)
				}
			}
		}
	}
}

func TestFirstCellsThatAreNotThere(t *testing.T) {
	one := lay(t, 0, 0)
	in := full(7)
	if got, _, _ := Step(one, in); got.Pc != 8 || got.Look != 0 {
		t.Errorf("without HEAD: %+v", got)
	}
	in = full(9)
	in.Look = 0
	if got, _, _ := Step(one, in); got.Pc != 10 || got.Look != 0 {
		t.Errorf("without HEAD: %+v", got)
	}
	if one.Steps() != 2 || one.Top() != 1 {
		t.Errorf("%d steps, %d cells", one.Steps(), one.Top())
	}
	if got, _, _ := Step(one, full(13)); got.Pc != 20 || load(t, one, 0) != 5 {
		t.Errorf("with LOCK: %+v", got)
	}
}

// chapter is the chapter's step, over plain cells, as its text has it. It counts what was come to.
type chapter struct {
	size  int
	there []int64
	steps int
}

// is counts a step if a cell is there.
func (c *chapter) is(a int) bool {
	is := a >= 0 && a < len(c.there)
	if is {
		c.steps++
	}
	return is
}

func (c *chapter) load(a int) int64 {
	if !c.is(a) {
		return 0
	}
	return c.there[a]
}

func (c *chapter) store(a int, v int64) {
	if c.is(a) {
		c.there[a] = v
	}
}

func (c *chapter) swap(a int, old, v int64) bool {
	if !c.is(a) || c.there[a] != old {
		return false
	}
	c.there[a] = v
	return true
}

func (c *chapter) step(t api.Thread) (api.Thread, api.Res, bool) {
	req, active, next, told := t.Rec, t.Rec+1, t.Rec+3, t.Rec+4
	pick := func(is bool, yes, no int) int { return map[bool]int{true: yes, false: no}[is] }
	switch t.Pc {
	case 1:
		if c.size-len(c.there) >= 5 {
			t.Rec, t.Pc = len(c.there), 2
			c.there = append(c.there, 0, 0, 0, 0, 0)
			c.steps++
		}
	case 2:
		t.Pc = pick(c.swap(req, 0, t.Word), 5, 3)
	case 3:
		t.Look = c.load(active)
		t.Pc = pick(t.Look == 0, 4, 3)
	case 4:
		c.store(req, t.Word)
		t.Pc = 5
	case 5:
		t.Look = c.load(active)
		t.Pc = pick(t.Look == 0, 6, 11)
	case 6:
		t.Pc = pick(c.swap(active, 0, 2), 15, 11)
	case 7:
		t.Look = c.load(1)
		t.Pc = 8
	case 8:
		c.store(next, t.Look)
		t.Pc = 9
	case 9:
		t.Look = int64(pick(c.swap(1, t.Look, int64(t.Rec)), 1, 0))
		t.Pc = 10
	case 10:
		c.store(active, t.Look)
		t.Pc = 11
	case 11:
		t.Look = c.load(req)
		t.Pc = pick(t.Look == t.Word, 12, 14)
	case 12:
		t.Look = c.load(0)
		t.Pc = pick(t.Look == 0, 13, 11)
	case 13:
		t.Pc = pick(c.swap(0, 0, int64(t.Id+1)), 20, 11)
		t.Runs *= pick(t.Pc == 20, 0, 1)
	case 14:
		t.Look = c.load(told)
		res := api.Res{}
		if n := t.Look - 1; n >= 0 && n < 1<<40 {
			res = api.Res{Code: uint8(n & 255), Val: int32(n>>8 - 1<<31)}
		}
		t.Word, t.Pc = 0, 0
		return t, res, true
	case 15:
		t.Look = c.load(req)
		t.Pc = pick(t.Look == t.Word, 7, 16)
	case 16:
		c.store(active, 0)
		t.Pc = 11
	}
	return t, api.Res{}, false
}

// asChapter checks one step of a thread, of any cells, against the chapter's text.
func asChapter(t *testing.T, room int, l []int64, in api.Thread) {
	t.Helper()
	m := lay(t, room, l...)
	c := &chapter{size: len(l) + room, there: slices.Clone(l), steps: m.Steps()}
	ahead := in
	ahead.Batch = slices.Clone(in.Batch)
	want, wantRes, wantTold := c.step(in)
	got, res, told := Step(m, in)
	if !same(got, want) || res != wantRes || told != wantTold {
		t.Fatalf("of %v, %+v is\n%+v, %v, %v, not\n%+v, %v, %v", l, in, got, res, told, want, wantRes, wantTold)
	}
	if !slices.Equal(m.Cells(), c.there) || m.Steps() != c.steps {
		t.Fatalf("of %v, %+v leaves\n%v, %d, not\n%v, %d", l, in, m.Cells(), m.Steps(), c.there, c.steps)
	}
	if !reflect.DeepEqual(in, ahead) {
		t.Fatalf("of %v, %+v was %+v", l, in, ahead)
	}
}

// TestAllSmallOnes is each place at each small memory: the cells that a place comes to, and what it holds them against, are all that there may be.
func TestAllSmallOnes(t *testing.T) {
	values := []int64{-1, 0, 1, 2, 77}
	for pc := -1; pc <= 21; pc++ {
		for rec := -5; rec <= 9; rec++ {
			for top := range 10 {
				for n := range 3 * len(values) {
					in := full(pc)
					in.Rec, in.Look = rec, values[n/3]
					for shift := range values {
						l := make([]int64, top)
						for a := range l {
							l[a] = values[(a*(n%3+1)+shift)%len(values)]
						}
						asChapter(t, (n+shift)%7, l, in)
					}
				}
			}
		}
	}
}

func TestAnyNumbers(t *testing.T) {
	for pc := -1; pc <= 21; pc++ {
		for i, v := range numbers {
			for j, u := range numbers {
				l := make([]int64, 8)
				for a := range l {
					l[a] = numbers[(a*j+i)%len(numbers)]
				}
				in := full(pc)
				in.Rec, in.Word, in.Look = 3, u, v
				in.Id = int(u)
				asChapter(t, j%7, l, in)
				in.Rec = int(v)
				asChapter(t, j%7, l, in)
			}
		}
	}
}

// system is a memory and threads at it.
type system struct {
	m       *cells.Memory
	threads []api.Thread
}

// fresh is a system in which each thread has just begun, each with an operation of its own.
func fresh(t *testing.T, n int) system {
	t.Helper()
	s := system{m: record.Open(n)}
	for id := range n {
		x, is := Begin(api.Thread{Id: id}, api.Op{Kind: api.Push, Val: int32(id)})
		if !is {
			t.Fatal("Begin is false")
		}
		s.threads = append(s.threads, x)
	}
	return s
}

// after is the system in which one thread took a step. It knows nothing of the one ahead.
func (s system) after(id int) system {
	a := system{m: s.m.Copy(), threads: slices.Clone(s.threads)}
	a.threads[id], _, _ = Step(a.m, a.threads[id])
	return a
}

func (s system) String() string { return fmt.Sprint(s.m.Cells(), s.threads) }

// reached are the records from HEAD on.
func (s system) reached(t *testing.T) []int {
	t.Helper()
	l := s.m.Cells()
	var all []int
	for a := l[api.Head]; a != 0; a = l[a+api.Next] {
		if slices.Contains(all, int(a)) {
			t.Fatalf("the list goes round: %v", s)
		}
		all = append(all, int(a))
	}
	return all
}

// holds checks what must hold of threads that ask, whatever their order was, as long as nobody is served.
func (s system) holds(t *testing.T) {
	t.Helper()
	l := s.m.Cells()
	reached := s.reached(t)
	var recs, serve []int
	for _, x := range s.threads {
		if x.Pc == api.PcPass {
			serve = append(serve, x.Id)
			if l[api.Lock] != int64(x.Id)+1 {
				t.Fatalf("%d serves without the lock: %v", x.Id, s)
			}
		}
		if x.Rec == 0 {
			continue
		}
		recs = append(recs, x.Rec)
		is := l[x.Rec+api.Active]
		if is == 1 && !slices.Contains(reached, x.Rec) {
			t.Fatalf("%d is active, and cannot be come to: %v", x.Id, s)
		}
		if is == 0 && slices.Contains(reached, x.Rec) {
			t.Fatalf("%d is on the list, and not active: %v", x.Id, s)
		}
		between := slices.Contains([]int{api.PcSure, api.PcFront, api.PcNext, api.PcLink, api.PcMark}, x.Pc)
		if (is == 2) != between {
			t.Fatalf("%d is at %d with ACTIVE %d: %v", x.Id, x.Pc, is, s)
		}
		if asked := x.Pc != api.PcPublish; asked != (l[x.Rec] == x.Word) {
			t.Fatalf("%d is at %d with REQ %d: %v", x.Id, x.Pc, l[x.Rec], s)
		}
	}
	slices.Sort(recs)
	if len(slices.Compact(slices.Clone(recs))) != len(recs) || len(serve) > 1 {
		t.Fatalf("two have one record, or serve: %v", s)
	}
}

// all goes through all that some threads may come to, in whatever order they are picked.
func (s system) all(t *testing.T, each func(system)) int {
	t.Helper()
	met := map[string]bool{}
	left := []system{s}
	for len(left) > 0 {
		s := left[len(left)-1]
		left = left[:len(left)-1]
		if met[s.String()] {
			continue
		}
		met[s.String()] = true
		each(s)
		for id := range s.threads {
			left = append(left, s.after(id))
		}
	}
	return len(met)
}

func TestWhateverTheOrder(t *testing.T) {
	for n := 1; n <= 3; n++ {
		served := map[int]bool{}
		linked := map[int]bool{}
		many := fresh(t, n).all(t, func(s system) {
			s.holds(t)
			linked[len(s.reached(t))] = true
			for _, x := range s.threads {
				if x.Pc == api.PcPass {
					served[x.Id] = true
				}
			}
		})
		if len(served) != n {
			t.Errorf("of %d threads only %v ever serve", n, served)
		}
		if len(linked) != n+1 {
			t.Errorf("of %d threads there are lists of %v alone", n, linked)
		}
		t.Logf("%d threads: %d systems", n, many)
	}
}

func TestTwoSeeOneAnother(t *testing.T) {
	s := fresh(t, 2)
	for range 10 { // to 12, PcLock
		s = s.after(0)
	}
	for range 11 { // to 13, PcTake
		s = s.after(1)
	}
	if a, b := s.threads[0], s.threads[1]; a.Pc != 12 || a.Rec != 3 || b.Pc != 13 || b.Rec != 8 {
		t.Fatalf("they are %v", s.threads)
	}
	w := []int64{word.Op(api.Op{Kind: 1, Val: 0}), word.Op(api.Op{Kind: 1, Val: 1})}
	want := []int64{0, 8, 0, w[0], 1, 0, 0, 0, w[1], 1, 0, 3, 0}
	if !slices.Equal(s.m.Cells(), want) {
		t.Errorf("the cells are %v, not %v", s.m.Cells(), want)
	}
	s = s.after(0).after(0) // 12, 13: it takes the lock
	s = s.after(1)
	if a, b := s.threads[0], s.threads[1]; a.Pc != 20 || b.Pc != 11 {
		t.Errorf("they are %v", s.threads)
	}
	s = s.after(1).after(1).after(1)
	if b := s.threads[1]; b.Pc != 12 || b.Look != w[1] {
		t.Errorf("who waits is %v", b)
	}
	if v := load(t, s.m, api.Lock); v != 1 {
		t.Errorf("LOCK is %d", v)
	}
}

func TestWhoFailsWaitsToBeHelped(t *testing.T) {
	s := fresh(t, 2)
	for range 6 { // to 8, PcNext: both found the list empty
		s = s.after(0).after(1)
	}
	if a, b := s.threads[0], s.threads[1]; a.Pc != 8 || b.Pc != 8 || a.Look != 0 || b.Look != 0 {
		t.Fatalf("they are %v", s.threads)
	}
	for range 3 { // to 11, PcWait
		s = s.after(1).after(0)
	}
	a, b := s.threads[0], s.threads[1]
	if a.Pc != 11 || a.Look != 0 || b.Pc != 11 || b.Look != 1 {
		t.Errorf("they are %v", s.threads)
	}
	l := s.m.Cells()
	if l[api.Head] != int64(b.Rec) || l[a.Rec+api.Active] != 0 || l[b.Rec+api.Active] != 1 || l[a.Rec] != a.Word {
		t.Errorf("the cells are %v", l)
	}
}

func TestWhoIsServedAsksAgain(t *testing.T) {
	s := fresh(t, 1)
	for range 11 { // to 13, PcTake
		s = s.after(0)
	}
	store(t, s.m, 3+api.Told, word.Res(api.Res{Code: api.Done}))
	store(t, s.m, 3+api.Req, 0)
	store(t, s.m, api.Lock, 2)
	s = s.after(0).after(0) // 13: somebody else has the lock; 11: it was served
	x, res, is := Step(s.m, s.threads[0])
	if !same(x, api.Thread{Rec: 3, Seq: 1, Look: word.Res(api.Res{Code: api.Done})}) || res != (api.Res{Code: api.Done}) || !is {
		t.Fatalf("it is %+v, told %v, %v", x, res, is)
	}
	if y, res, is := Step(s.m, x); !same(y, x) || res != (api.Res{}) || is {
		t.Errorf("who is idle is %+v, told %v, %v", y, res, is)
	}
	x, is = Begin(x, api.Op{Kind: api.Pop})
	if !is || x.Pc != api.PcPublish || x.Seq != 2 || x.Rec != 3 {
		t.Fatalf("it is %+v, %v", x, is)
	}
	var met []int
	for range 5 { // it is still on the list, and the lock is not free
		met = append(met, x.Pc)
		x, _, _ = Step(s.m, x)
	}
	if !slices.Equal(met, []int{2, 5, 11, 12, 11}) {
		t.Errorf("its places are %v", met)
	}
	if s.m.Top() != 8 || load(t, s.m, 3) != word.Op(api.Op{Kind: api.Pop}) {
		t.Errorf("the cells are %v", s.m.Cells())
	}
}

func TestWhoIsSweptOffComesBack(t *testing.T) {
	m := lay(t, 0, 9, 3, 4, 55, 1, 2, 0, 7, -1, 1, 2, 0, 7) // the record at 8 is closed, and not off the list yet
	x, _ := Begin(api.Thread{Id: 1, Rec: 8}, api.Op{Kind: 1, Val: 5})
	var met []int
	for n := range 12 {
		if n == 3 {
			store(t, m, 8+api.Active, 0)
		}
		met = append(met, x.Pc)
		x, _, _ = Step(m, x)
	}
	if !slices.Equal(met, []int{2, 3, 3, 3, 4, 5, 6, 15, 7, 8, 9, 10}) || x.Pc != 11 {
		t.Errorf("its places are %v, and %d", met, x.Pc)
	}
	want := []int64{9, 8, 4, 55, 1, 2, 0, 7, x.Word, 1, 2, 3, 7}
	if !slices.Equal(m.Cells(), want) {
		t.Errorf("the cells are %v, not %v", m.Cells(), want)
	}
}

func TestWhoIsServedMeanwhileDropsItsClaim(t *testing.T) {
	m := lay(t, 0, 9, 3, 4, 55, 1, 2, 0, 7, 0, 0, 2, 0, 7)
	x, _ := Begin(api.Thread{Id: 1, Rec: 8}, api.Op{Kind: 1, Val: 5})
	var met []int
	for n := range 6 {
		if n == 2 { // it was put on the list, served, swept off and closed
			store(t, m, 8+api.Told, word.Res(api.Res{Code: api.Full}))
			store(t, m, 8+api.Req, api.Closed)
		}
		met = append(met, x.Pc)
		x, _, _ = Step(m, x)
	}
	if !slices.Equal(met, []int{2, 5, 6, 15, 16, 11}) {
		t.Errorf("its places are %v", met)
	}
	if v := load(t, m, 8+api.Active); v != 0 {
		t.Errorf("ACTIVE is %d", v)
	}
	if x, res, is := Step(m, x); x.Pc != 0 || res != (api.Res{Code: api.Full}) || !is {
		t.Errorf("it is %+v, told %v, %v", x, res, is)
	}
}

func TestTwoMemories(t *testing.T) {
	a, b := fresh(t, 1), fresh(t, 1)
	for range 12 {
		b = b.after(0)
	}
	if got := a.m.Cells(); !slices.Equal(got, []int64{0, 0, 0}) || a.m.Steps() != 1 {
		t.Errorf("the one is %v, %d steps", got, a.m.Steps())
	}
	for range 12 {
		a = a.after(0)
	}
	if !slices.Equal(a.m.Cells(), b.m.Cells()) || !same(a.threads[0], b.threads[0]) {
		t.Errorf("the one is %v, the other %v", a, b)
	}
}

func FuzzStep(f *testing.F) {
	f.Add(1, 0, int64(7), int64(0), []byte{0, 0, 0}, 5)
	f.Add(2, 3, int64(7), int64(0), []byte{0, 0, 0, 0, 0, 0, 0, 0}, 0)
	f.Add(9, 3, int64(7), int64(3), []byte{0, 3, 0, 7, 2, 0, 3, 0}, 0)
	f.Add(14, 3, int64(7), int64(3), []byte{0, 3, 0, 7, 2, 0, 3, 99}, 0)
	f.Add(13, -3, int64(-1), int64(3), []byte{0, 3, 255}, 4)
	f.Add(15, math.MaxInt, int64(-1), int64(math.MinInt64), []byte{}, 4)
	f.Fuzz(func(t *testing.T, pc, rec int, w, look int64, l []byte, room int) {
		all := make([]int64, min(len(l), 100))
		for a := range all {
			all[a] = int64(int8(l[a]))
		}
		if len(all) > 0 && look%3 == 0 {
			all[int(uint64(look)%uint64(len(all)))] = w
		}
		in := full(pc)
		in.Rec, in.Word, in.Look = rec, w, look
		in.Id = rec - pc
		asChapter(t, int(uint(room)%20), all, in)
		in.Pc = int(uint(pc) % 24)
		asChapter(t, int(uint(room)%20), all, in)
		in.Rec = rec % 20
		asChapter(t, int(uint(room)%20), all, in)
	})
}
