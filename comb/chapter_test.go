package comb

import (
	"math"
	"reflect"
	"slices"
	"testing"

	"reaper/api"
	"reaper/object"
	"reaper/spec"
)

// chapter is the chapter's step, over plain cells and plain items, as its text has it. It counts what was come to.
type chapter struct {
	there  []int64
	steps  int
	object uint8 // 0 is none
	most   int
	items  []int32
}

// is counts a step if a cell is there.
func (c *chapter) is(a int) bool {
	is := a >= 0 && a < len(c.there)
	if is {
		c.steps++
	}
	return is
}

func (c *chapter) load(a int) int64 {
	if !c.is(a) {
		return 0
	}
	return c.there[a]
}

func (c *chapter) store(a int, v int64) {
	if c.is(a) {
		c.there[a] = v
	}
}

func (c *chapter) swap(a int, old, v int64) bool {
	if !c.is(a) || c.there[a] != old {
		return false
	}
	c.there[a] = v
	return true
}

// ofWord is an operation, or what is told, in a word.
func ofWord(w int64) (uint8, int32) {
	if w < 1 || w > 1<<40 {
		return 0, 0
	}
	return uint8((w - 1) % 256), int32((w-1)/256 - 1<<31)
}

func (c *chapter) do(batch []api.Item) []api.Item {
	var ops []api.Op
	for _, i := range batch {
		kind, val := ofWord(i.Word)
		ops = append(ops, api.Op{Kind: kind, Val: val})
	}
	told := make([]api.Res, len(ops))
	if c.object != 0 {
		c.items, told = spec.Batch(c.object, c.most, c.items, ops)
	}
	batch = slices.Clone(batch)
	for i := range batch {
		batch[i].Res = 256*(int64(told[i].Val)+1<<31) + int64(told[i].Code) + 1
	}
	return batch
}

func (c *chapter) step(passes int, t api.Thread) (api.Thread, []api.Item) {
	pick := func(is bool, yes, no int) int { return map[bool]int{true: yes, false: no}[is] }
	on := func() {
		t.Nth++
		t.Pc = pick(t.Nth < t.Many, 23, 33)
	}
	item := func() (api.Item, bool) {
		if t.Nth >= 0 && t.Nth < len(t.Batch) {
			return t.Batch[t.Nth], true
		}
		return api.Item{}, false
	}
	switch t.Pc {
	case 20:
		t.Look, t.Pc = c.load(2), 21
	case 21:
		t.Pass = t.Look + 1
		c.store(2, t.Pass)
		t.Runs, t.Pc = t.Runs+1, 22
	case 22:
		t.Many, t.Nth, t.Batch = 0, 0, nil
		for a := 8; a <= len(c.there); a += 5 {
			t.Many++
		}
		t.Pc = pick(t.Many == 0, 33, 23)
	case 23:
		t.Cur = 0
		if t.Nth >= 0 && t.Nth <= 1000 {
			t.Cur = 3 + 5*t.Nth
		}
		if t.Look = c.load(t.Cur + 1); t.Look != 0 {
			on()
		} else {
			t.Pc = 24
		}
	case 24:
		if t.Look = c.load(t.Cur); t.Look <= 0 {
			on()
		} else {
			t.Pc = 25
		}
	case 25:
		if c.swap(t.Cur+1, 0, 2) {
			t.Pc = 26
		} else {
			on()
		}
	case 26:
		if t.Look = c.load(1); t.Look == 0 {
			t.Pc = 27
		} else {
			t.Prev, t.Pc = int(t.Look), 29
		}
	case 27:
		c.store(t.Cur+3, 0)
		t.Pc = 28
	case 28:
		t.Pc = pick(c.swap(1, 0, int64(t.Cur)), 32, 26)
	case 29:
		t.Look, t.Pc = c.load(t.Prev+3), 30
	case 30:
		c.store(t.Cur+3, t.Look)
		t.Pc = 31
	case 31:
		c.store(t.Prev+3, int64(t.Cur))
		t.Pc = 32
	case 32:
		c.store(t.Cur+1, 1)
		on()
	case 33:
		if t.Look = c.load(1); t.Look == 0 {
			t.Pc = 40
		} else {
			t.Cur, t.Pc = int(t.Look), 34
		}
	case 34:
		if t.Look = c.load(t.Cur); t.Look > 0 {
			t.Batch = append(slices.Clone(t.Batch), api.Item{Rec: t.Cur, Word: t.Look})
		}
		t.Pc = 35
	case 35:
		if t.Look = c.load(t.Cur + 3); t.Look != 0 {
			t.Cur, t.Pc = int(t.Look), 34
		} else {
			t.Pc = pick(len(t.Batch) == 0, 40, 36)
		}
	case 36:
		t.Batch = c.do(t.Batch)
		t.Nth, t.Pc = 0, 37
		return t, t.Batch
	case 37:
		if i, is := item(); is {
			c.store(i.Rec+4, i.Res)
		}
		t.Pc = 38
	case 38:
		if i, is := item(); is {
			c.store(i.Rec+2, t.Pass)
		}
		t.Pc = 39
	case 39:
		i, is := item()
		if is {
			c.store(i.Rec, 0)
		}
		t.Nth++
		_, more := item()
		t.Pc = pick(is && more, 37, pick(t.Runs < passes, 20, 40))
	}
	return t, nil
}

// given is an object, from its items on, and how many passes there are.
type given struct {
	object uint8
	most   int
	items  []int32
	plain  bool
	passes int
}

// made is the object.
func (g given) made() *object.Object {
	o := object.New(g.object, g.most, g.plain)
	for _, v := range g.items {
		o.Do(api.Op{Kind: 1, Val: v})
	}
	return o
}

// asChapter checks one step of a thread, of any cells and any object, against the chapter's text.
func asChapter(t *testing.T, g given, l []int64, in api.Thread) {
	t.Helper()
	m, o := lay(t, 3, l...), g.made()
	c := &chapter{there: slices.Clone(l), steps: m.Steps(), object: g.object, most: g.most, items: o.Items()}
	was := in
	was.Batch = slices.Clone(in.Batch)
	want, wantItems := c.step(g.passes, in)
	got, items := Step(m, o, g.passes, in)
	if !same(got, want) || !slices.Equal(items, wantItems) {
		t.Fatalf("of %v, %+v, %+v is\n%+v, %v, not\n%+v, %v", l, g, was, got, items, want, wantItems)
	}
	if !slices.Equal(m.Cells(), c.there) || m.Steps() != c.steps || !slices.Equal(o.Items(), c.items) {
		t.Fatalf("of %v, %+v, %+v leaves\n%v, %d, %v, not\n%v, %d, %v", l, g, was, m.Cells(), m.Steps(), o.Items(), c.there, c.steps, c.items)
	}
	if !reflect.DeepEqual(in, was) {
		t.Fatalf("of %v, %+v, %+v is %+v now", l, g, was, in)
	}
	if want := was.Pc >= 20 && was.Pc <= 39; Serves(was) != want {
		t.Fatalf("Serves of %+v is not %v", was, want)
	}
}

// draws tells numbers, the same ones each time.
type draws uint64

func (d *draws) below(n int) int {
	*d = *d*6364136223846793005 + 1442695040888963407
	return int(uint64(*d) >> 33 % uint64(n))
}

func (d *draws) of(l []int64) int64 { return l[d.below(len(l))] }

// small are the numbers that a place may hold something against, words of operations, and addresses of small memories.
var small = []int64{-1, 0, 0, 0, 0, 1, 1, 2, 3, 8, 13, 18, w(1, 5), w(2, 0), w(3, 0), w(1, -9)}

func (d *draws) thread(l []int64) api.Thread {
	x := api.Thread{
		Id: int(d.of(l)), Pc: 18 + d.below(24), Rec: int(d.of(l)), Seq: int(d.of(l)), Word: d.of(l), Look: d.of(l),
		Cur: int(d.of(l)), Prev: int(d.of(l)), Nth: d.below(7) - 2, Many: d.below(6) - 1, Pass: d.of(l), Runs: d.below(6) - 2,
	}
	if d.below(10) == 0 {
		x.Nth, x.Many, x.Runs = int(d.of(l)), int(d.of(l)), int(d.of(l))
	}
	for range d.below(5) {
		x.Batch = append(x.Batch, api.Item{Rec: int(d.of(l)), Word: d.of(l), Res: d.of(l)})
	}
	return x
}

func (d *draws) cells(l []int64) []int64 {
	all := make([]int64, d.below(24))
	for a := range all {
		all[a] = d.of(l)
	}
	return all
}

func (d *draws) given() given {
	g := given{object: uint8(d.below(4)), most: 1 + d.below(4), plain: d.below(2) == 0, passes: d.below(6) - 2}
	for range d.below(4) {
		g.items = append(g.items, int32(d.below(20)-5))
	}
	if g.object == 0 {
		g.items = nil
	}
	return g
}

func TestAsChapter(t *testing.T) {
	d := draws(16)
	for range 60000 {
		asChapter(t, d.given(), d.cells(small), d.thread(small))
	}
	for range 20000 {
		asChapter(t, d.given(), d.cells(numbers), d.thread(numbers))
		asChapter(t, d.given(), d.cells(small), d.thread(numbers))
	}
}

func FuzzStep(f *testing.F) {
	f.Add(20, 8, 3, 0, int64(4), []byte{0, 3, 4}, []byte{}, uint64(1))
	f.Add(25, 3, 3, 0, int64(4), []byte{0, 0, 4, 9, 0, 0, 0, 0}, []byte{}, uint64(2))
	f.Add(31, 8, 3, 0, int64(4), []byte{0, 3, 4, 9, 1, 0, 0, 0, 9, 2, 0, 0, 0}, []byte{3, 1}, uint64(3))
	f.Add(36, 8, 3, 0, int64(4), []byte{0, 3, 4}, []byte{3, 2, 8, 3}, uint64(4))
	f.Add(39, 8, 3, -1, int64(4), []byte{0, 3, 4}, []byte{3, 2}, uint64(5))
	f.Add(23, -8, math.MaxInt, math.MaxInt, int64(math.MinInt64), []byte{}, []byte{}, uint64(6))
	f.Fuzz(func(t *testing.T, pc, cur, prev, nth int, look int64, l, batch []byte, seed uint64) {
		d := draws(seed)
		in := d.thread(small)
		in.Pc, in.Cur, in.Prev, in.Nth, in.Look, in.Batch = pc, cur, prev, nth, look, nil
		for i := 0; i+1 < min(len(batch), 40); i += 2 {
			in.Batch = append(in.Batch, api.Item{Rec: int(int8(batch[i])), Word: w(batch[i+1], 5)})
		}
		all := make([]int64, min(len(l), 100))
		for a := range all {
			all[a] = int64(int8(l[a]))
		}
		g := d.given()
		asChapter(t, g, all, in)
		in.Pc = 18 + int(uint(pc)%24)
		asChapter(t, g, all, in)
		in.Cur, in.Prev, in.Nth = cur%20, prev%20, nth%5
		asChapter(t, g, all, in)
	})
}
