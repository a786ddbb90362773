package sweep

import (
	"math"
	"reflect"
	"slices"
	"testing"

	"reaper/api"
)

// chapter is the chapter's step, over plain cells, as its text has it. It counts what was come to.
type chapter struct {
	there []int64
	steps int
}

// is counts a step if a cell is there.
func (c *chapter) is(a int) bool {
	is := a >= 0 && a < len(c.there)
	if is {
		c.steps++
	}
	return is
}

func (c *chapter) load(a int) int64 {
	if !c.is(a) {
		return 0
	}
	return c.there[a]
}

func (c *chapter) store(a int, v int64) {
	if c.is(a) {
		c.there[a] = v
	}
}

func (c *chapter) swap(a int, old, v int64) bool {
	if !c.is(a) || c.there[a] != old {
		return false
	}
	c.there[a] = v
	return true
}

func (c *chapter) step(age int, t api.Thread) api.Thread {
	passBy := func() { t.Prev, t.Pc = t.Cur, 41 }
	switch t.Pc {
	case 40:
		if t.Look = c.load(1); t.Look == 0 {
			t.Pc = 48
		} else {
			t.Prev, t.Pc = int(t.Look), 41
		}
	case 41:
		if t.Look = c.load(t.Prev + 3); t.Look == 0 {
			t.Pc = 48
		} else {
			t.Cur, t.Pc = int(t.Look), 42
		}
	case 42:
		if t.Look = c.load(t.Cur + 1); t.Look == 1 {
			t.Pc = 43
		} else {
			passBy()
		}
	case 43:
		if t.Look = c.load(t.Cur + 2); t.Pass-t.Look > int64(age) {
			t.Pc = 44
		} else {
			passBy()
		}
	case 44:
		if c.swap(t.Cur, 0, -1) {
			t.Pc = 45
		} else {
			passBy()
		}
	case 45:
		t.Look, t.Pc = c.load(t.Cur+3), 46
	case 46:
		c.store(t.Prev+3, t.Look)
		t.Pc = 47
	case 47:
		c.store(t.Cur+1, 0)
		t.Pc = 41
	case 48:
		c.store(0, 0)
		t.Pc = 11
	}
	return t
}

// asChapter checks one step of a thread, of any cells and any age, against the chapter's text.
func asChapter(t *testing.T, l []int64, age int, in api.Thread) {
	t.Helper()
	m := lay(t, 3, l...)
	c := &chapter{there: slices.Clone(l), steps: m.Steps()}
	was := in
	was.Batch = slices.Clone(in.Batch)
	want := c.step(age, in)
	got := Step(m, age, in)
	if !same(got, want) {
		t.Fatalf("of %v, %d, %+v is\n%+v, not\n%+v", l, age, was, got, want)
	}
	if !slices.Equal(m.Cells(), c.there) || m.Steps() != c.steps {
		t.Fatalf("of %v, %d, %+v leaves\n%v, %d, not\n%v, %d", l, age, was, m.Cells(), m.Steps(), c.there, c.steps)
	}
	if !reflect.DeepEqual(in, was) {
		t.Fatalf("of %v, %d, %+v is %+v now", l, age, was, in)
	}
	if want := was.Pc >= 40 && was.Pc <= 48; Sweeps(was) != want {
		t.Fatalf("Sweeps of %+v is not %v", was, want)
	}
}

// draws tells numbers, the same ones each time.
type draws uint64

func (d *draws) below(n int) int {
	*d = *d*6364136223846793005 + 1442695040888963407
	return int(uint64(*d) >> 33 % uint64(n))
}

func (d *draws) of(l []int64) int64 { return l[d.below(len(l))] }

// small are the numbers that a place may hold something against, words of operations, and addresses of small memories.
var small = []int64{-1, 0, 0, 0, 0, 1, 1, 1, 2, 3, 4, 8, 13, 18, w(1, 5), w(2, 0)}

func (d *draws) thread(l []int64) api.Thread {
	x := api.Thread{
		Id: int(d.of(l)), Pc: 38 + d.below(13), Rec: int(d.of(l)), Seq: int(d.of(l)), Word: d.of(l), Look: d.of(l),
		Cur: int(d.of(l)), Prev: int(d.of(l)), Nth: int(d.of(l)), Many: int(d.of(l)), Pass: d.of(l), Runs: int(d.of(l)),
	}
	for range d.below(4) {
		x.Batch = append(x.Batch, api.Item{Rec: int(d.of(l)), Word: d.of(l), Res: d.of(l)})
	}
	return x
}

func (d *draws) cells(l []int64) []int64 {
	all := make([]int64, d.below(24))
	for a := range all {
		all[a] = d.of(l)
	}
	return all
}

// list is a memory whose list goes through most of its records, in any order, and that order.
func (d *draws) list(n int) ([]int64, []int) {
	l := []int64{1, 0, int64(d.below(5))}
	var order []int
	for k := range n {
		l = append(l, d.of([]int64{0, 0, 0, 0, -1, 5, 9}), d.of([]int64{1, 1, 1, 1, 0, 2}), int64(d.below(5)), 0, d.of(small))
		if d.below(6) > 0 {
			order = slices.Insert(order, d.below(len(order)+1), 3+5*k)
		}
	}
	at := api.Head
	for _, a := range order {
		l[at] = int64(a)
		at = a + api.Next
	}
	return l, order
}

func TestAsChapter(t *testing.T) {
	d := draws(16)
	for range 60000 {
		asChapter(t, d.cells(small), d.below(6)-2, d.thread(small))
	}
	for range 20000 {
		asChapter(t, d.cells(numbers), int(d.of(numbers)), d.thread(numbers))
		asChapter(t, d.cells(small), int(d.of(numbers)), d.thread(numbers))
		asChapter(t, d.cells(numbers), int(d.of(numbers)), d.thread(small))
	}
}

func FuzzStep(f *testing.F) {
	f.Add(40, 8, 3, int64(4), int64(9), 1, []byte{0, 3, 4}, uint64(1))
	f.Add(41, 8, 3, int64(4), int64(9), 1, []byte{0, 3, 4, 9, 1, 0, 8, 0}, uint64(2))
	f.Add(43, 3, 3, int64(4), int64(9), 1, []byte{0, 3, 4, 9, 1, 8, 8, 0}, uint64(3))
	f.Add(44, 3, 8, int64(4), int64(9), 1, []byte{0, 3, 4, 0, 1, 8, 8, 0}, uint64(4))
	f.Add(46, 8, 3, int64(13), int64(9), 0, []byte{0, 3, 4, 9, 1, 0, 0, 0, 9, 2, 0, 0, 0}, uint64(5))
	f.Add(43, -8, math.MaxInt, int64(math.MinInt64), int64(math.MinInt64), math.MinInt, []byte{}, uint64(6))
	f.Fuzz(func(t *testing.T, pc, cur, prev int, look, pass int64, age int, l []byte, seed uint64) {
		d := draws(seed)
		in := d.thread(small)
		in.Pc, in.Cur, in.Prev, in.Look, in.Pass = pc, cur, prev, look, pass
		all := make([]int64, min(len(l), 100))
		for a := range all {
			all[a] = int64(int8(l[a]))
		}
		asChapter(t, all, age, in)
		in.Pc = 38 + int(uint(pc)%13)
		asChapter(t, all, age, in)
		in.Cur, in.Prev = cur%20, prev%20
		asChapter(t, all, age%10, in)
	})
}
