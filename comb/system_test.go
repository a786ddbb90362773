package comb

import (
	"fmt"
	"slices"
	"testing"

	"reaper/api"
	"reaper/cells"
	"reaper/list"
	"reaper/object"
	"reaper/owner"
	"reaper/record"
	"reaper/spec"
	"reaper/word"
)

// kind is what a system is of: an object, how many passes there are, and what each thread asks for, one behind the other.
type kind struct {
	object uint8
	most   int
	passes int
	ops    [][]api.Op
}

// system is threads that ask and serve at one memory. Nobody sweeps: who has served gives the lock back at once.
// It keeps an object that is plain, and the specification's items, to hold the object against.
type system struct {
	kind
	m       *cells.Memory
	o       *object.Object
	plain   *object.Object
	items   []int32
	threads []api.Thread
	done    [][]api.Res // of each thread's operations, in order
	due     []int       // the records that this pass has to serve
	went    int         // how many steps who serves took
	met     map[string]bool
}

func fresh(k kind) *system {
	s := &system{kind: k, m: record.Open(len(k.ops)), met: map[string]bool{}}
	s.o, s.plain = object.New(k.object, k.most, false), object.New(k.object, k.most, true)
	for id := range k.ops {
		s.threads = append(s.threads, api.Thread{Id: id})
	}
	s.done = make([][]api.Res, len(k.ops))
	return s
}

// copied is one that knows nothing of this one, but what both met.
func (s *system) copied() *system {
	c := *s
	c.m, c.o, c.plain = s.m.Copy(), s.o.Copy(), s.plain.Copy()
	c.items, c.threads, c.due = slices.Clone(s.items), slices.Clone(s.threads), slices.Clone(s.due)
	c.done = nil
	for _, l := range s.done {
		c.done = append(c.done, slices.Clone(l))
	}
	return &c
}

func (s *system) String() string {
	return fmt.Sprint(s.m.Cells(), s.threads, s.items, s.done, s.due)
}

// waits are the records that can be come to, and wait.
func (s *system) waits(t *testing.T) []int {
	t.Helper()
	reached, is := list.Reach(s.m)
	if !is {
		t.Fatalf("the list is lost: %v", s)
	}
	waiting := list.Waiting(s.m)
	return slices.DeleteFunc(reached, func(a int) bool { return !slices.Contains(waiting, a) })
}

// pick takes one step of a thread, and checks what must hold of it. It is false if there is nothing for it to do.
func (s *system) pick(t *testing.T, id int) bool {
	t.Helper()
	x := s.threads[id]
	waited := s.waits(t)
	switch {
	case x.Pc == api.PcIdle:
		if x.Seq == len(s.ops[id]) {
			return false
		}
		s.threads[id], _ = owner.Begin(x, s.ops[id][x.Seq])
	case owner.Asks(x):
		y, res, told := owner.Step(s.m, x)
		if s.threads[id] = y; told {
			s.told(t, y, res)
		}
	case Serves(x):
		s.serve(t, x)
	case x.Pc == api.PcSweep:
		store(t, s.m, api.Lock, 0)
		s.threads[id].Pc = api.PcWait
	default:
		t.Fatalf("%d is at no place: %v", id, s)
	}
	reached, _ := list.Reach(s.m)
	for _, a := range waited {
		if !slices.Contains(reached, a) {
			t.Fatalf("%d is taken off: %v", a, s)
		}
	}
	if e := list.Sound(s.m); e != api.OK {
		t.Fatalf("it is not sound, %v: %v", e, s)
	}
	return true
}

// told checks that a thread is told what was done, once.
func (s *system) told(t *testing.T, x api.Thread, res api.Res) {
	t.Helper()
	if len(s.done[x.Id]) != x.Seq || s.done[x.Id][x.Seq-1] != res {
		t.Fatalf("%d is told %v of its operation %d: %v", x.Id, res, x.Seq, s)
	}
}

func (s *system) serve(t *testing.T, x api.Thread) {
	t.Helper()
	if v := load(t, s.m, api.Lock); v != int64(x.Id)+1 {
		t.Fatalf("%d serves, and LOCK is %d: %v", x.Id, v, s)
	}
	if x.Pc == api.PcPass || x.Pc == api.PcScan {
		due := s.waits(t)
		for _, a := range s.due {
			if !slices.Contains(due, a) {
				t.Fatalf("%d waited when the pass began: %v", a, s)
			}
		}
		s.due = due
	}
	y, items := Step(s.m, s.o, s.passes, x)
	s.threads[x.Id] = y
	if x.Pc == api.PcPass && x.Runs == 0 {
		s.went = 0
	}
	if s.went++; s.went > s.passes*(13*len(s.threads)+8) {
		t.Fatalf("%d took %d steps: %v", x.Id, s.went, s)
	}
	s.met[fmt.Sprint(x.Pc, " to ", y.Pc)] = true
	if len(items) > 0 && x.Pc != api.PcDo {
		t.Fatalf("items at %d: %v", x.Pc, s)
	}
	if x.Pc == api.PcDo {
		s.log(t, items)
		s.met[fmt.Sprint("batch of ", len(items))] = true
	}
	if y.Pc == api.PcPass || y.Pc == api.PcSweep {
		for _, a := range s.due {
			if r, _ := record.See(s.m, a); r.Age != y.Pass {
				t.Fatalf("%d was not served by the pass %d: %v", a, y.Pass, s)
			}
		}
		s.due = nil
	}
}

// load is a cell that is there.
func load(t testing.TB, m *cells.Memory, a int) int64 {
	t.Helper()
	v, e := m.Load(a)
	if e != api.OK {
		t.Fatalf("Load(%d) is %v", a, e)
	}
	return v
}

// log checks that items are operations that wait, done once, and are told what the specification tells.
func (s *system) log(t *testing.T, items []api.Item) {
	t.Helper()
	var ops []api.Op
	var told []api.Res
	for _, i := range items {
		id := slices.IndexFunc(s.threads, func(x api.Thread) bool { return x.Rec == i.Rec })
		if id < 0 {
			t.Fatalf("%v is nobody's: %v", i, s)
		}
		x := s.threads[id]
		if x.Word != i.Word || len(s.done[id]) != x.Seq-1 {
			t.Fatalf("%v is not what %d waits for: %v", i, id, s)
		}
		op, _ := word.OfOp(i.Word)
		res, _ := word.OfRes(i.Res)
		ops, told = append(ops, op), append(told, res)
		s.done[id] = append(s.done[id], res)
	}
	var want []api.Res
	s.items, want = spec.Batch(s.object, s.most, s.items, ops)
	plain := s.plain.Do(ops...)
	if !slices.Equal(told, want) || !slices.Equal(told, plain) {
		t.Fatalf("%v are told %v, by the specification %v, plain %v: %v", ops, told, want, plain, s)
	}
	if !slices.Equal(s.o.Items(), s.items) || !slices.Equal(s.plain.Items(), s.items) {
		t.Fatalf("the items are %v, by the specification %v, plain %v", s.o.Items(), s.items, s.plain.Items())
	}
}

// ended says whether all that is asked for was told.
func (s *system) ended() bool {
	for id, x := range s.threads {
		if x.Pc != api.PcIdle || x.Seq != len(s.ops[id]) {
			return false
		}
	}
	return true
}

// all goes through all that the threads may come to, in whatever order they are picked, and tells how many ends there are, and how much there is.
func (s *system) all(t *testing.T) (int, int) {
	t.Helper()
	been := map[string]bool{}
	left := []*system{s}
	ends := 0
	for len(left) > 0 {
		s := left[len(left)-1]
		left = left[:len(left)-1]
		if been[s.String()] {
			continue
		}
		been[s.String()] = true
		if s.ended() {
			ends++
		}
		for id := range s.threads {
			if c := s.copied(); c.pick(t, id) {
				left = append(left, c)
			}
		}
	}
	return ends, len(been)
}

func op(kind uint8, val int32) api.Op { return api.Op{Kind: kind, Val: val} }

func TestWhateverTheOrder(t *testing.T) {
	for _, k := range []kind{
		{api.Stack, 1, 1, [][]api.Op{{op(1, 5)}}},
		{api.Stack, 1, 1, [][]api.Op{{op(1, 5)}, {op(1, 6)}}},
		{api.Stack, 1, 2, [][]api.Op{{op(1, 5)}, {op(2, 0)}}},
		{api.Deque, 2, 1, [][]api.Op{{op(1, 5), op(4, 0)}, {op(2, 6)}}},
		{api.Heap, 2, 1, [][]api.Op{{op(2, 0)}, {op(1, 6), op(9, 0)}}},
	} {
		s := fresh(k)
		ends, many := s.all(t)
		t.Logf("%v: %d ends of %d", k, ends, many)
		if ends == 0 {
			t.Errorf("%v: nobody comes to an end", k)
		}
		if len(k.ops) < 2 {
			continue
		}
		for _, way := range []string{
			"23 to 24", "24 to 25", "25 to 26", "25 to 23", "25 to 33", "26 to 29", "32 to 33", "33 to 34", "35 to 36", "35 to 40", "39 to 37", "39 to 40", "batch of 1", "batch of 2",
		} {
			if !s.met[way] {
				t.Errorf("%v: nobody met %q", k, way)
			}
		}
	}
}

// ops are some operations of an object, and some that are none.
func (d *draws) ops(object uint8, n int) []api.Op {
	kinds := map[uint8]int{api.Stack: 2, api.Deque: 4, api.Heap: 2}[object]
	var ops []api.Op
	for range n {
		k := 1 + d.below(kinds)
		if d.below(20) == 0 {
			k = 9
		}
		ops = append(ops, op(uint8(k), int32(d.below(9)-4)))
	}
	return ops
}

// TestManyThreads has more threads than can be picked in each order. First they are picked as it comes, then round by round, till all were told: each in time.
func TestManyThreads(t *testing.T) {
	d := draws(48)
	met := map[string]bool{}
	for run := range 120 {
		n := 2 + run%6
		k := kind{object: uint8(1 + run%3), most: 1 + d.below(3), passes: 1 + d.below(3)}
		for range n {
			k.ops = append(k.ops, d.ops(k.object, 1+d.below(4)))
		}
		s := fresh(k)
		s.met = met
		lazy := d.below(n)
		for range d.below(600) {
			if id := d.below(n); id != lazy || d.below(3) == 0 {
				s.pick(t, id)
			}
		}
		since := make([]int, n) // how many picks each has waited for
		bound := n * (3*(k.passes*(13*n+8)+7*n+3) + 32)
		for !s.ended() {
			for id := range n {
				s.pick(t, id)
				for i := range since {
					if since[i]++; s.threads[i].Pc == api.PcIdle {
						since[i] = 0
					}
					if since[i] > bound {
						t.Fatalf("%d waited for %d picks: %v", i, since[i], s)
					}
				}
			}
		}
		for id, l := range s.done {
			if len(l) != len(k.ops[id]) {
				t.Errorf("%d was told %v of %v", id, l, k.ops[id])
			}
		}
		if record.Many(s.m) != n {
			t.Errorf("there are %d records of %d threads", record.Many(s.m), n)
		}
	}
	for _, way := range []string{"25 to 26", "25 to 23", "26 to 29", "32 to 23", "35 to 40", "39 to 37", "39 to 20", "batch of 3", "batch of 4", "batch of 5"} {
		if !met[way] {
			t.Errorf("nobody met %q", way)
		}
	}
}
