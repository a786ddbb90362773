package cells

import (
	"math"
	"slices"
	"testing"

	"reaper/api"
)

// filled is a memory with room for size cells, of which those of values are there.
func filled(t *testing.T, size int, values ...int64) *Memory {
	t.Helper()
	m := New(size)
	if at, e := m.Alloc(len(values)); at != 0 || e != api.OK {
		t.Fatalf("Alloc(%d) of a fresh memory of %d is %d, %v", len(values), size, at, e)
	}
	for a, v := range values {
		if e := m.Store(a, v); e != api.OK {
			t.Fatalf("Store(%d, %d) is %v", a, v, e)
		}
	}
	return m
}

// holds checks all that a memory shows of itself.
func holds(t *testing.T, m *Memory, steps int, values ...int64) {
	t.Helper()
	if got := m.Top(); got != len(values) {
		t.Errorf("Top is %d, not %d", got, len(values))
	}
	if got := m.Steps(); got != steps {
		t.Errorf("Steps is %d, not %d", got, steps)
	}
	if got := m.Cells(); !slices.Equal(got, values) {
		t.Errorf("Cells are %v, not %v", got, values)
	}
}

func TestExample(t *testing.T) {
	m := New(2)
	if at, e := m.Alloc(2); at != 0 || e != api.OK {
		t.Errorf("Alloc(2) is %d, %v", at, e)
	}
	if is, e := m.Swap(1, 0, 5); !is || e != api.OK {
		t.Errorf("Swap(1, 0, 5) is %v, %v", is, e)
	}
	if v, e := m.Load(1); v != 5 || e != api.OK {
		t.Errorf("Load(1) is %d, %v", v, e)
	}
	holds(t, m, 3, 0, 5)
}

func TestNewSize(t *testing.T) {
	for _, c := range []struct{ size, room int }{
		{math.MinInt, 0}, {-1000, 0}, {-1, 0}, {0, 0}, {1, 1}, {2, 2}, {7, 7},
		{999, 999}, {1000, 1000}, {1001, 1000}, {5000, 1000}, {math.MaxInt, 1000},
	} {
		m := New(c.size)
		if m == nil {
			t.Fatalf("New(%d) is nil", c.size)
		}
		holds(t, m, 0)
		if at, e := m.Alloc(c.room + 1); at != 0 || e != api.ErrRoom {
			t.Errorf("size %d: Alloc(%d) is %d, %v, not ErrRoom", c.size, c.room+1, at, e)
		}
		holds(t, m, 0)
		if at, e := m.Alloc(c.room); at != 0 || e != api.OK {
			t.Errorf("size %d: Alloc(%d) is %d, %v", c.size, c.room, at, e)
		}
		holds(t, m, 1, make([]int64, c.room)...)
	}
}

func TestAllocOrder(t *testing.T) {
	m := New(6)
	for _, c := range []struct {
		n, at int
		e     api.Errno
		top   int
		steps int
	}{
		{0, 0, api.OK, 0, 1},
		{2, 0, api.OK, 2, 2},
		{0, 2, api.OK, 2, 3},
		{5, 0, api.ErrRoom, 2, 3},
		{3, 2, api.OK, 5, 4},
		{2, 0, api.ErrRoom, 5, 4},
		{-1, 0, api.ErrArg, 5, 4},
		{1, 5, api.OK, 6, 5},
		{1, 0, api.ErrRoom, 6, 5},
		{0, 6, api.OK, 6, 6},
		{-1, 0, api.ErrArg, 6, 6},
		{math.MinInt, 0, api.ErrArg, 6, 6},
		{math.MaxInt, 0, api.ErrRoom, 6, 6},
	} {
		if at, e := m.Alloc(c.n); at != c.at || e != c.e {
			t.Errorf("Alloc(%d) is %d, %v, not %d, %v", c.n, at, e, c.at, c.e)
		}
		if m.Top() != c.top || m.Steps() != c.steps {
			t.Errorf("behind Alloc(%d): Top %d, Steps %d, not %d, %d", c.n, m.Top(), m.Steps(), c.top, c.steps)
		}
	}
}

func TestAllocLeavesCellsAndBringsNoughts(t *testing.T) {
	m := filled(t, 10, 7, -7, 9)
	if at, e := m.Alloc(4); at != 3 || e != api.OK {
		t.Errorf("Alloc(4) is %d, %v", at, e)
	}
	holds(t, m, 5, 7, -7, 9, 0, 0, 0, 0)
	for a := 3; a < 7; a++ {
		if v, e := m.Load(a); v != 0 || e != api.OK {
			t.Errorf("Load(%d) is %d, %v", a, v, e)
		}
		if is, e := m.Swap(a, 0, int64(a)); !is || e != api.OK {
			t.Errorf("Swap(%d, 0, %d) is %v, %v", a, a, is, e)
		}
	}
	holds(t, m, 13, 7, -7, 9, 3, 4, 5, 6)
}

func TestLoadAndStore(t *testing.T) {
	m := filled(t, 3, 0, 0, 0)
	steps := m.Steps()
	for _, v := range []int64{1, -1, 0, math.MinInt64, math.MaxInt64, 1 << 40, 5} {
		for a := range 3 {
			if e := m.Store(a, v+int64(a)); e != api.OK {
				t.Errorf("Store(%d, %d) is %v", a, v+int64(a), e)
			}
			steps++
		}
		for a := range 3 {
			if got, e := m.Load(a); got != v+int64(a) || e != api.OK {
				t.Errorf("Load(%d) is %d, %v, not %d", a, got, e, v+int64(a))
			}
			steps++
		}
		holds(t, m, steps, v, v+1, v+2)
	}
}

func TestSwap(t *testing.T) {
	m := filled(t, 3, 4, 5, 6)
	for _, c := range []struct {
		a      int
		old, v int64
		is     bool
		then   []int64
	}{
		{1, 5, 8, true, []int64{4, 8, 6}},
		{1, 5, 9, false, []int64{4, 8, 6}},
		{0, 6, 9, false, []int64{4, 8, 6}},
		{0, 4, 4, true, []int64{4, 8, 6}},
		{0, 3, 4, false, []int64{4, 8, 6}},
		{2, 6, math.MinInt64, true, []int64{4, 8, math.MinInt64}},
		{2, math.MinInt64, math.MaxInt64, true, []int64{4, 8, math.MaxInt64}},
		{2, -1, 0, false, []int64{4, 8, math.MaxInt64}},
		{0, 4 + 1<<32, 0, false, []int64{4, 8, math.MaxInt64}},
	} {
		steps := m.Steps()
		if is, e := m.Swap(c.a, c.old, c.v); is != c.is || e != api.OK {
			t.Errorf("Swap(%d, %d, %d) is %v, %v, not %v, OK", c.a, c.old, c.v, is, e, c.is)
		}
		holds(t, m, steps+1, c.then...)
	}
}

// TestNoCell: there is room behind TOP, and yet no cell.
func TestNoCell(t *testing.T) {
	for _, m := range []*Memory{New(0), New(5), filled(t, 1, 3), filled(t, 2, 3, 4), filled(t, 1000, 3, 0)} {
		was, steps := m.Cells(), m.Steps()
		for _, a := range []int{math.MinInt, -1000, -1, m.Top(), m.Top() + 1, 1000, 1001, math.MaxInt} {
			if v, e := m.Load(a); v != 0 || e != api.ErrCell {
				t.Errorf("Load(%d) of %v is %d, %v", a, was, v, e)
			}
			if e := m.Store(a, 9); e != api.ErrCell {
				t.Errorf("Store(%d) of %v is %v", a, was, e)
			}
			for _, old := range []int64{0, 3, 9} {
				if is, e := m.Swap(a, old, 9); is || e != api.ErrCell {
					t.Errorf("Swap(%d, %d) of %v is %v, %v", a, old, was, is, e)
				}
			}
			holds(t, m, steps, was...)
		}
	}
}

func TestFirstAndLastCell(t *testing.T) {
	m := filled(t, 1000, 1, 2, 3, 4)
	for a, v := range []int64{1, 2, 3, 4} {
		if got, e := m.Load(a); got != v || e != api.OK {
			t.Errorf("Load(%d) is %d, %v, not %d", a, got, e, v)
		}
	}
	if is, e := m.Swap(0, 1, 10); !is || e != api.OK {
		t.Errorf("Swap of the first cell is %v, %v", is, e)
	}
	if is, e := m.Swap(3, 4, 40); !is || e != api.OK {
		t.Errorf("Swap of the last cell is %v, %v", is, e)
	}
	holds(t, m, 11, 10, 2, 3, 40)
}

// TestNoCellIsMadeByStore: what was refused is not there when the cell comes.
func TestNoCellIsMadeByStore(t *testing.T) {
	m := filled(t, 4, 1)
	m.Store(1, 9)
	m.Swap(2, 0, 9)
	if at, e := m.Alloc(3); at != 1 || e != api.OK {
		t.Errorf("Alloc(3) is %d, %v", at, e)
	}
	holds(t, m, 3, 1, 0, 0, 0)
}

func TestLooksAreNoSteps(t *testing.T) {
	m := filled(t, 3, 1, 2)
	for range 3 {
		m.Top()
		m.Steps()
		m.Cells()
		m.Copy()
	}
	holds(t, m, 3, 1, 2)
}

func TestCellsAreNewMemory(t *testing.T) {
	m := filled(t, 6, 1, 2, 3)
	l, k := m.Cells(), m.Cells()
	l[0] = 9
	_ = append(l[:1], 8, 8, 8, 8, 8)
	if !slices.Equal(k, []int64{1, 2, 3}) {
		t.Errorf("two answers of Cells share memory: %v", k)
	}
	holds(t, m, 4, 1, 2, 3)
	k = m.Cells()
	_ = append(k, 7, 7, 7)
	if at, e := m.Alloc(3); at != 3 || e != api.OK {
		t.Errorf("Alloc(3) is %d, %v", at, e)
	}
	m.Store(0, 5)
	if !slices.Equal(k, []int64{1, 2, 3}) {
		t.Errorf("Cells changed with the memory: %v", k)
	}
	holds(t, m, 6, 5, 2, 3, 0, 0, 0)
}

func TestCellsHandOutNothingBehindTheirLength(t *testing.T) {
	m := filled(t, 9, 1, 2, 3, 4, 5)
	for _, l := range [][]int64{m.Cells(), m.Copy().Cells(), New(9).Cells(), (*Memory)(nil).Cells()} {
		for i, v := range l[:cap(l)][len(l):] {
			if v != 0 {
				t.Errorf("behind the %d cells stands %d at %d", len(l), v, i)
			}
		}
	}
}

func TestCopyIsTheSame(t *testing.T) {
	m := filled(t, 5, 1, 2, 3)
	c := m.Copy()
	holds(t, c, 4, 1, 2, 3)
	if at, e := c.Alloc(3); at != 0 || e != api.ErrRoom {
		t.Errorf("the copy has another size: Alloc(3) is %d, %v", at, e)
	}
	if at, e := c.Alloc(2); at != 3 || e != api.OK {
		t.Errorf("the copy has another size: Alloc(2) is %d, %v", at, e)
	}
	for _, size := range []int{-5, 0, 1000, 2000} {
		c := New(size).Copy()
		holds(t, c, 0)
		if _, e := c.Alloc(min(max(size, 0), 1000)); e != api.OK {
			t.Errorf("the copy of New(%d) has not its size: %v", size, e)
		}
		if _, e := c.Alloc(1); e != api.ErrRoom {
			t.Errorf("the copy of New(%d) has more than its size: %v", size, e)
		}
	}
}

func TestCopyKnowsNothingOfTheOther(t *testing.T) {
	m := filled(t, 8, 1, 2, 3)
	c := m.Copy()
	m.Store(0, 10)
	m.Swap(1, 2, 20)
	m.Alloc(2)
	m.Store(3, 30)
	holds(t, c, 4, 1, 2, 3)
	c.Store(2, 7)
	c.Alloc(1)
	c.Store(3, 8)
	c.Load(0)
	holds(t, m, 8, 10, 20, 3, 30, 0)
	holds(t, c, 8, 1, 2, 7, 8)
	d := c.Copy()
	d.Store(0, 9)
	holds(t, c, 8, 1, 2, 7, 8)
	holds(t, d, 9, 9, 2, 7, 8)
}

func TestTwoMemoriesKnowNothingOfOneAnother(t *testing.T) {
	a, b := New(4), New(4)
	a.Alloc(2)
	a.Store(0, 5)
	holds(t, b, 0)
	b.Alloc(3)
	b.Store(0, 6)
	holds(t, a, 2, 5, 0)
	holds(t, b, 2, 6, 0, 0)
}

func TestNilMemory(t *testing.T) {
	var m *Memory
	for _, c := range []struct {
		n int
		e api.Errno
	}{
		{math.MinInt, api.ErrArg}, {-1, api.ErrArg}, {0, api.OK}, {1, api.ErrRoom}, {1000, api.ErrRoom}, {math.MaxInt, api.ErrRoom},
	} {
		if at, e := m.Alloc(c.n); at != 0 || e != c.e {
			t.Errorf("Alloc(%d) of nil is %d, %v, not 0, %v", c.n, at, e, c.e)
		}
	}
	for _, a := range []int{math.MinInt, -1, 0, 1, 1000, math.MaxInt} {
		if v, e := m.Load(a); v != 0 || e != api.ErrCell {
			t.Errorf("Load(%d) of nil is %d, %v", a, v, e)
		}
		if e := m.Store(a, 1); e != api.ErrCell {
			t.Errorf("Store(%d) of nil is %v", a, e)
		}
		if is, e := m.Swap(a, 0, 1); is || e != api.ErrCell {
			t.Errorf("Swap(%d) of nil is %v, %v", a, is, e)
		}
	}
	holds(t, m, 0)
}

func TestCopyOfNil(t *testing.T) {
	var m *Memory
	c := m.Copy()
	if c == nil {
		t.Fatal("the copy of nil is nil, not New of 0")
	}
	holds(t, c, 0)
	if at, e := c.Alloc(1); at != 0 || e != api.ErrRoom {
		t.Errorf("Alloc(1) of the copy of nil is %d, %v", at, e)
	}
	if at, e := c.Alloc(0); at != 0 || e != api.OK {
		t.Errorf("Alloc(0) of the copy of nil is %d, %v", at, e)
	}
	holds(t, c, 1)
}

// model is the chapter's memory without pointers or deferred counting.
type model struct {
	size, steps int
	cells       []int64
}

// told is what one call may tell: the number is where cells begin, or what a cell is.
type told struct {
	v  int64
	is bool
	e  api.Errno
}

// alloc is Alloc as the chapter says it.
func (k *model) alloc(n int) told {
	if n < 0 {
		return told{e: api.ErrArg}
	}
	if n > k.size-len(k.cells) {
		return told{e: api.ErrRoom}
	}
	k.steps++
	at := len(k.cells)
	k.cells = append(k.cells, make([]int64, n)...)
	return told{v: int64(at)}
}

// come is Load, Store or Swap as the chapter says it.
func (k *model) come(call byte, a int, old, v int64) told {
	if a < 0 || a >= len(k.cells) {
		return told{e: api.ErrCell}
	}
	k.steps++
	was := k.cells[a]
	switch {
	case call == 1:
		return told{v: was}
	case call == 3 && was != old:
		return told{}
	}
	k.cells[a] = v
	return told{is: call == 3}
}

// do does one call on both, and is what the memory told and what the model told.
func (k *model) do(m *Memory, call byte, a int, old, v int64) (got, want told) {
	if call == 0 {
		at, e := m.Alloc(a)
		return told{v: int64(at), e: e}, k.alloc(a)
	}
	switch call {
	case 1:
		got.v, got.e = m.Load(a)
	case 2:
		got.e = m.Store(a, v)
	case 3:
		got.is, got.e = m.Swap(a, old, v)
	}
	return got, k.come(call, a, old, v)
}

// FuzzMemory holds a memory to the model, call by call: a cell is what was written last.
func FuzzMemory(f *testing.F) {
	f.Add(8, []byte{0, 4, 0, 0, 2, 1, 0, 5, 3, 1, 5, 6, 1, 1, 0, 0, 0, 9, 0, 0, 1, 200, 0, 0})
	f.Add(-1, []byte{0, 0, 0, 0, 0, 1, 0, 0, 1, 0, 0, 0})
	f.Fuzz(func(t *testing.T, size int, calls []byte) {
		m, k := New(size), &model{size: min(max(size, 0), 1000)}
		for ; len(calls) >= 4; calls = calls[4:] {
			a := int(int8(calls[1]))
			got, want := k.do(m, calls[0]%4, a, int64(int8(calls[2]))%4, int64(int8(calls[3]))%4)
			if got != want {
				t.Fatalf("call %d of %d is %v, not %v", calls[0]%4, a, got, want)
			}
			holds(t, m, k.steps, k.cells...)
			if calls[0] >= 128 {
				m = m.Copy()
			}
		}
	})
}
