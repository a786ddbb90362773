package record

import (
	"math"
	"slices"
	"testing"

	"reaper/api"
	"reaper/cells"
)

// far are addresses, numbers of records and of threads that are none anywhere; some would be one if bits were cut off, or if sums went round.
var far = []int{
	math.MinInt, math.MinInt + 1, math.MinInt + 3, math.MinInt + 8, -1 << 62, -1<<32 + 1, -1<<32 + 3, -1<<32 + 8, -5003, -1001, -1000, -65, -64,
	5008, 1<<16 + 1, 1<<16 + 3, 1<<32 + 1, 1<<32 + 3, 1<<32 + 8, 1 << 62, 1<<62 + 1, 1<<62 + 3,
	math.MaxInt/5 - 1, math.MaxInt / 5, math.MaxInt/5 + 1, math.MaxInt - 7, math.MaxInt - 4, math.MaxInt - 1, math.MaxInt,
}

// number is what stands in a cell of a laid memory: another one in each, below 0 in every second one.
func number(a int) int64 {
	n := int64(a+1) << 33
	if a%2 == 1 {
		return -n - 1
	}
	return n + 1
}

// laid is a memory with room for size cells, of which top are there, each with its number.
func laid(t *testing.T, size, top int) *cells.Memory {
	t.Helper()
	m := cells.New(size)
	if at, e := m.Alloc(top); at != 0 || e != api.OK {
		t.Fatalf("Alloc(%d) of a memory of %d is %d, %v", top, size, at, e)
	}
	for a := range top {
		store(t, m, a, number(a))
	}
	return m
}

// store writes a cell that is there.
func store(t *testing.T, m *cells.Memory, a int, v int64) {
	t.Helper()
	if e := m.Store(a, v); e != api.OK {
		t.Fatalf("Store(%d, %d) is %v", a, v, e)
	}
}

// more lays cells and checks where they begin.
func more(t *testing.T, m *cells.Memory, n, at int) {
	t.Helper()
	if got, e := m.Alloc(n); got != at || e != api.OK {
		t.Fatalf("Alloc(%d) is %d, %v, not %d, OK", n, got, e, at)
	}
}

// noRoom checks that so many cells may not be had.
func noRoom(t *testing.T, m *cells.Memory, n int) {
	t.Helper()
	if at, e := m.Alloc(n); at != 0 || e != api.ErrRoom {
		t.Errorf("Alloc(%d) is %d, %v, not 0, ErrRoom", n, at, e)
	}
}

// holds checks all that a memory shows of itself.
func holds(t *testing.T, m *cells.Memory, steps int, values ...int64) {
	t.Helper()
	if got := m.Top(); got != len(values) {
		t.Errorf("Top is %d, not %d", got, len(values))
	}
	if got := m.Steps(); got != steps {
		t.Errorf("Steps is %d, not %d", got, steps)
	}
	if got := m.Cells(); !slices.Equal(got, values) {
		t.Errorf("Cells are %v, not %v", got, values)
	}
}

// begins are the addresses of the whole records of top cells, walked from the first one on.
func begins(top int) []int {
	var l []int
	for a := 3; a+5 <= top; a += 5 {
		l = append(l, a)
	}
	return l
}

// isNone checks an address at which no record begins.
func isNone(t *testing.T, m *cells.Memory, a int) {
	t.Helper()
	if k, is := Nth(m, a); k != 0 || is {
		t.Errorf("top %d: Nth(%d) is %d, %v, not 0, false", m.Top(), a, k, is)
	}
	if r, is := See(m, a); r != (api.Rec{}) || is {
		t.Errorf("top %d: See(%d) is %v, %v, not nothing, false", m.Top(), a, r, is)
	}
}

// isRecord checks the address of the k-th record, whose cells are these.
func isRecord(t *testing.T, m *cells.Memory, a, k int, r api.Rec) {
	t.Helper()
	if got, is := Nth(m, a); got != k || !is {
		t.Errorf("top %d: Nth(%d) is %d, %v, not %d, true", m.Top(), a, got, is, k)
	}
	if got, is := See(m, a); got != r || !is {
		t.Errorf("top %d: See(%d) is %v, %v, not %v, true", m.Top(), a, got, is, r)
	}
}

// numbered is the record at a of a laid memory.
func numbered(a int) api.Rec {
	return api.Rec{Req: number(a), Active: number(a + 1), Age: number(a + 2), Next: number(a + 3), Told: number(a + 4)}
}

func TestExamples(t *testing.T) {
	if m := Open(2); m.Top() != 3 {
		t.Errorf("Open of 2 has %d cells there, not 3", m.Top())
	}
	if a := Base(1); a != 8 {
		t.Errorf("Base of 1 is %d, not 8", a)
	}
}

func TestOpenHasTheFirstThreeCells(t *testing.T) {
	for threads := 1; threads <= 64; threads++ {
		m := Open(threads)
		if m == nil {
			t.Fatalf("Open(%d) is nil", threads)
		}
		holds(t, m, 1, 0, 0, 0)
		if n := Many(m); n != 0 {
			t.Errorf("Open(%d) has %d records", threads, n)
		}
	}
}

func TestOpenHasRoomForARecordOfEachThread(t *testing.T) {
	for _, c := range []struct{ threads, room int }{
		{1, 5}, {2, 10}, {3, 15}, {7, 35}, {32, 160}, {63, 315}, {64, 320},
	} {
		m := Open(c.threads)
		noRoom(t, m, c.room+1)
		more(t, m, c.room, 3)
		noRoom(t, m, 1)
		holds(t, m, 2, make([]int64, 3+c.room)...)
	}
}

// TestNoMoreRecordsThanThreads lays records till there is no room: there are as many as threads, each where Base says.
func TestNoMoreRecordsThanThreads(t *testing.T) {
	for threads := 1; threads <= 64; threads++ {
		m := Open(threads)
		for k := range threads {
			more(t, m, 5, Base(k))
			if n := Many(m); n != k+1 {
				t.Errorf("threads %d: Many is %d, not %d", threads, n, k+1)
			}
			isRecord(t, m, 3+5*k, k, api.Rec{})
			isNone(t, m, 8+5*k)
		}
		noRoom(t, m, 5)
		noRoom(t, m, 1)
		if n := Many(m); n != threads {
			t.Errorf("Many is %d for %d threads", n, threads)
		}
	}
}

func TestOpenOfNoSuchThreads(t *testing.T) {
	for _, threads := range append([]int{-2, -1, 0, 65, 66, 128, 199, 320, 323, 1000, 1001, 5003}, far...) {
		if m := Open(threads); m != nil {
			t.Errorf("Open(%d) is not nil: Cells %v", threads, m.Cells())
		}
	}
}

func TestBase(t *testing.T) {
	for _, c := range []struct{ k, a int }{
		{0, 3}, {1, 8}, {2, 13}, {3, 18}, {10, 53}, {63, 318}, {64, 323}, {65, 328},
		{198, 993}, {199, 998}, {200, 1003}, {999, 4998}, {1000, 5003},
	} {
		if a := Base(c.k); a != c.a {
			t.Errorf("Base(%d) is %d, not %d", c.k, a, c.a)
		}
	}
}

func TestBaseOfEach(t *testing.T) {
	a := 3
	for k := 0; k <= 1000; k++ {
		if got := Base(k); got != a {
			t.Errorf("Base(%d) is %d, not %d", k, got, a)
		}
		a += 5
	}
}

func TestBaseOfNone(t *testing.T) {
	for _, k := range append([]int{-3, -2, -1, 1001, 1002, 1005, 4096, 5003}, far...) {
		if a := Base(k); a != 0 {
			t.Errorf("Base(%d) is %d, not 0", k, a)
		}
	}
}

func TestMany(t *testing.T) {
	for _, c := range []struct{ top, many int }{
		{0, 0}, {1, 0}, {2, 0}, {3, 0}, {4, 0}, {5, 0}, {6, 0}, {7, 0}, {8, 1}, {9, 1}, {10, 1}, {11, 1}, {12, 1}, {13, 2},
		{17, 2}, {18, 3}, {317, 62}, {318, 63}, {322, 63}, {323, 64}, {327, 64}, {328, 65}, {992, 197}, {993, 198}, {997, 198}, {998, 199}, {999, 199}, {1000, 199},
	} {
		if n := Many(laid(t, c.top, c.top)); n != c.many {
			t.Errorf("top %d: Many is %d, not %d", c.top, n, c.many)
		}
		if n := Many(laid(t, 1000, c.top)); n != c.many {
			t.Errorf("top %d, and room behind it: Many is %d, not %d", c.top, n, c.many)
		}
	}
}

func TestManyOfEachTop(t *testing.T) {
	m := cells.New(1000)
	for top := 1; top <= 1000; top++ {
		more(t, m, 1, top-1)
		if n, want := Many(m), len(begins(top)); n != want {
			t.Errorf("top %d: Many is %d, not %d", top, n, want)
		}
	}
}

// TestRecordsAreWhereTheyBegin asks each address of memories that end everywhere within a record, with and without room behind them.
func TestRecordsAreWhereTheyBegin(t *testing.T) {
	for _, top := range []int{0, 1, 2, 3, 4, 5, 6, 7, 8, 9, 10, 11, 12, 13, 14, 18, 322, 323, 324, 995, 998, 999, 1000} {
		for _, size := range []int{top, min(top+3, 1000), 1000} {
			m := laid(t, size, top)
			there := begins(top)
			for a := -10; a <= 1010; a++ {
				if k := slices.Index(there, a); k >= 0 {
					isRecord(t, m, a, k, numbered(a))
				} else {
					isNone(t, m, a)
				}
			}
			for _, a := range far {
				isNone(t, m, a)
			}
		}
	}
}

// TestBaseAndNth holds them to one another: the address of the k-th record is the k-th one's.
func TestBaseAndNth(t *testing.T) {
	m := laid(t, 1000, 1000)
	for k := range 199 {
		isRecord(t, m, Base(k), k, numbered(3+5*k))
	}
	for k := 199; k <= 1001; k++ {
		isNone(t, m, Base(k))
	}
}

// TestNoRecordAtNought: the first cells are no record, whatever they hold and however many cells there are.
func TestNoRecordAtNought(t *testing.T) {
	for _, top := range []int{0, 3, 5, 8, 1000} {
		m := laid(t, 1000, top)
		for a := range 3 {
			isNone(t, m, a)
		}
	}
}

// TestRecordThatIsNotThereYet comes with its last cell, not sooner.
func TestRecordThatIsNotThereYet(t *testing.T) {
	m := Open(2)
	for n := range 4 {
		isNone(t, m, 3)
		isNone(t, m, 8)
		more(t, m, 1, 3+n)
		store(t, m, 3+n, int64(70+n))
	}
	isNone(t, m, 3)
	more(t, m, 1, 7)
	isRecord(t, m, 3, 0, api.Rec{Req: 70, Active: 71, Age: 72, Next: 73})
	isNone(t, m, 8)
	more(t, m, 5, 8)
	isRecord(t, m, 8, 1, api.Rec{})
	isNone(t, m, 13)
}

// TestEachCellIsItsField writes one cell at a time, of one record of three.
func TestEachCellIsItsField(t *testing.T) {
	for _, v := range []int64{1, -1, 7, math.MinInt64, math.MaxInt64, 1 << 40, 1<<32 + 5} {
		for a, want := range map[int]api.Rec{
			7: {}, 8: {Req: v}, 9: {Active: v}, 10: {Age: v}, 11: {Next: v}, 12: {Told: v}, 13: {},
		} {
			m := Open(3)
			more(t, m, 15, 3)
			store(t, m, a, v)
			isRecord(t, m, 8, 1, want)
		}
	}
}

func TestSeeOfAllCells(t *testing.T) {
	m := Open(2)
	more(t, m, 10, 3)
	for a, v := range []int64{1, 8, 4, 549755815682, 1, 3, 0, 549755813890, api.Closed, 2, -4, 3, math.MinInt64} {
		store(t, m, a, v)
	}
	isRecord(t, m, 3, 0, api.Rec{Req: 549755815682, Active: 1, Age: 3, Next: 0, Told: 549755813890})
	isRecord(t, m, 8, 1, api.Rec{Req: -1, Active: 2, Age: -4, Next: 3, Told: math.MinInt64})
}

func TestWaits(t *testing.T) {
	for _, c := range []struct {
		req   int64
		waits bool
	}{
		{math.MinInt64, false}, {math.MinInt64 + 1, false}, {-1 << 40, false}, {-1 << 32, false}, {-549755815682, false}, {-2, false}, {api.Closed, false}, {0, false},
		{1, true}, {2, true}, {256, true}, {1 << 32, true}, {549755815682, true}, {549755813889, true}, {1 << 40, true},
		{1<<40 + 1, true}, {1 << 62, true}, {math.MaxInt64, true},
	} {
		if got := Waits(api.Rec{Req: c.req}); got != c.waits {
			t.Errorf("Waits of REQ %d is %v", c.req, got)
		}
		for _, v := range []int64{-1, 0, 1, 2, math.MaxInt64} {
			if got := Waits(api.Rec{Req: c.req, Active: v, Age: v, Next: v, Told: v}); got != c.waits {
				t.Errorf("Waits of REQ %d is %v if all else is %d", c.req, got, v)
			}
		}
	}
}

// told are words and what they tell, worked out by hand from layer 1's rule, and numbers that are no words.
var told = []struct {
	told int64
	res  api.Res
	is   bool
}{
	{1, api.Res{Code: api.None, Val: math.MinInt32}, true},
	{2, api.Res{Code: api.Done, Val: math.MinInt32}, true},
	{256, api.Res{Code: 255, Val: math.MinInt32}, true},
	{257, api.Res{Code: api.None, Val: math.MinInt32 + 1}, true},
	{549755813886, api.Res{Code: 253, Val: -1}, true},
	{549755813889, api.Res{}, true},
	{549755813890, api.Res{Code: api.Done}, true},
	{549755813891, api.Res{Code: api.Got}, true},
	{549755815683, api.Res{Code: api.Got, Val: 7}, true},
	{549755812099, api.Res{Code: api.Got, Val: -7}, true},
	{549755813892, api.Res{Code: api.Full}, true},
	{549755813893, api.Res{Code: api.Empty}, true},
	{549755813894, api.Res{Code: api.Bad}, true},
	{549755813895, api.Res{Code: 6}, true},
	{549756070143, api.Res{Code: 254, Val: 1000}, true},
	{1099511627521, api.Res{Code: api.None, Val: math.MaxInt32}, true},
	{1 << 40, api.Res{Code: 255, Val: math.MaxInt32}, true},
	{0, api.Res{}, false},
	{api.Closed, api.Res{}, false},
	{-2, api.Res{}, false},
	{-256, api.Res{}, false},
	{-549755815683, api.Res{}, false},
	{-1 << 40, api.Res{}, false},
	{1<<40 + 1, api.Res{}, false},
	{1<<40 + 2, api.Res{}, false},
	{1<<41 + 2, api.Res{}, false},
	{1 << 62, api.Res{}, false},
	{math.MinInt64, api.Res{}, false},
	{math.MinInt64 + 2, api.Res{}, false},
	{math.MaxInt64, api.Res{}, false},
}

func TestTold(t *testing.T) {
	for _, c := range told {
		if r, is := Told(api.Rec{Told: c.told}); r != c.res || is != c.is {
			t.Errorf("Told of TOLD %d is %v, %v, not %v, %v", c.told, r, is, c.res, c.is)
		}
		for _, v := range []int64{-1, 0, 1, 549755815682, math.MaxInt64} {
			if r, is := Told(api.Rec{Req: v, Active: v, Age: v, Next: v, Told: c.told}); r != c.res || is != c.is {
				t.Errorf("Told of TOLD %d is %v, %v if all else is %d", c.told, r, is, v)
			}
		}
	}
}

// TestWaitsAndToldOfWhatIsSeen: REQ and TOLD come from their own cells, which hold what the other one must not tell.
func TestWaitsAndToldOfWhatIsSeen(t *testing.T) {
	m := Open(2)
	more(t, m, 10, 3)
	store(t, m, 3, 549755815682)
	store(t, m, 12, 549755815683)
	if r, _ := See(m, 3); !Waits(r) {
		t.Errorf("%v does not wait", r)
	} else if res, is := Told(r); res != (api.Res{}) || is {
		t.Errorf("%v was told %v, %v", r, res, is)
	}
	if r, _ := See(m, 8); Waits(r) {
		t.Errorf("%v waits", r)
	} else if res, is := Told(r); res != (api.Res{Code: api.Got, Val: 7}) || !is {
		t.Errorf("%v was told %v, %v", r, res, is)
	}
}

func TestLooksLeaveTheMemory(t *testing.T) {
	for _, top := range []int{0, 3, 7, 8, 20, 323, 1000} {
		m := laid(t, 1000, top)
		was, steps := m.Cells(), m.Steps()
		for range 3 {
			Many(m)
			for _, a := range append([]int{-1, 0, 2, 3, 4, 7, 8, 13, 318, 323, 993, 998, top - 5, top - 1, top, top + 1}, far...) {
				Nth(m, a)
				if r, is := See(m, a); is {
					Waits(r)
					Told(r)
				}
				Base(a)
			}
		}
		holds(t, m, steps, was...)
		if at, e := m.Alloc(1000 - top); at != top || e != api.OK {
			t.Errorf("top %d: the room behind it is another: %d, %v", top, at, e)
		}
	}
}

func TestTwoMemoriesKnowNothingOfOneAnother(t *testing.T) {
	a, b := Open(2), Open(2)
	more(t, a, 10, 3)
	store(t, a, 0, 5)
	store(t, a, 3, 6)
	store(t, a, 12, 7)
	holds(t, b, 1, 0, 0, 0)
	isNone(t, b, 3)
	if n, k := Many(a), Many(b); n != 2 || k != 0 {
		t.Errorf("Many is %d and %d, not 2 and 0", n, k)
	}
	more(t, b, 5, 3)
	store(t, b, 4, 8)
	isRecord(t, b, 3, 0, api.Rec{Active: 8})
	isRecord(t, a, 3, 0, api.Rec{Req: 6})
	isRecord(t, a, 8, 1, api.Rec{Told: 7})
	isNone(t, b, 8)
	holds(t, Open(2), 1, 0, 0, 0)
	holds(t, a, 5, 5, 0, 0, 6, 0, 0, 0, 0, 0, 0, 0, 0, 7)
	holds(t, b, 3, 0, 0, 0, 0, 8, 0, 0, 0)
	more(t, b, 5, 8)
	noRoom(t, b, 1)
}

func TestCopiesKnowNothingOfOneAnother(t *testing.T) {
	m := laid(t, 18, 13)
	c := m.Copy()
	store(t, m, 8, 1)
	more(t, c, 5, 13)
	store(t, c, 3, 2)
	isRecord(t, m, 3, 0, numbered(3))
	isNone(t, m, 13)
	isRecord(t, c, 8, 1, numbered(8))
	isRecord(t, c, 13, 2, api.Rec{})
}

func TestWhatIsSeenStays(t *testing.T) {
	m := laid(t, 20, 13)
	was, is := See(m, 8)
	for a := range 13 {
		store(t, m, a, 99)
	}
	more(t, m, 5, 13)
	if was != numbered(8) || !is {
		t.Errorf("what was seen became %v, %v", was, is)
	}
	same := api.Rec{Req: 99, Active: 99, Age: 99, Next: 99, Told: 99}
	isRecord(t, m, 8, 1, same)
	now, _ := See(m, 8)
	now.Req, now.Told = 1, 2
	isRecord(t, m, 8, 1, same)
}

func TestNilMemory(t *testing.T) {
	if n := Many(nil); n != 0 {
		t.Errorf("Many of nil is %d", n)
	}
	for a := -10; a <= 1010; a++ {
		isNone(t, nil, a)
	}
	for _, a := range far {
		isNone(t, nil, a)
	}
	isNone(t, (*cells.Memory)(nil).Copy(), 3)
}

// FuzzRecords holds a memory of any size, laid piece by piece, to records that are walked one by one.
func FuzzRecords(f *testing.F) {
	f.Add(18, []byte{3, 5, 1, 4, 200}, 8)
	f.Add(1000, []byte{255, 255, 255, 231}, 998)
	f.Add(2, []byte{1, 1}, 3)
	f.Fuzz(func(t *testing.T, size int, pieces []byte, a int) {
		m := cells.New(size)
		for _, n := range pieces {
			m.Alloc(int(n))
		}
		for at := range m.Top() {
			store(t, m, at, number(at))
		}
		there, steps := begins(m.Top()), m.Steps()
		if n := Many(m); n != len(there) {
			t.Errorf("top %d: Many is %d, not %d", m.Top(), n, len(there))
		}
		for k, at := range there {
			isRecord(t, m, at, k, numbered(at))
		}
		if !slices.Contains(there, a) {
			isNone(t, m, a)
		}
		if m.Steps() != steps {
			t.Errorf("%d steps were counted", m.Steps()-steps)
		}
	})
}
