package sweep

import (
	"fmt"
	"slices"
	"testing"

	"reaper/api"
	"reaper/cells"
	"reaper/comb"
	"reaper/list"
	"reaper/object"
	"reaper/owner"
	"reaper/record"
	"reaper/spec"
	"reaper/word"
)

// kind is what a system is of: how many items a stack may hold, how many passes there are, how old a record may be, and what each thread asks for, one behind the other.
type kind struct {
	most   int
	passes int
	age    int
	ops    [][]api.Op
}

// system is threads that ask, serve and sweep at one memory, and the specification's items.
type system struct {
	kind
	m       *cells.Memory
	o       *object.Object
	items   []int32
	threads []api.Thread
	done    [][]api.Res // of each thread's operations, in order
	due     []int       // the records that this sweep has to have off the list
	went    int         // how many steps were taken with the lock
	once    bool        // whether it ends where the first thread has swept
	met     map[string]bool
}

func fresh(k kind) *system {
	s := &system{kind: k, m: record.Open(len(k.ops)), o: object.New(api.Stack, k.most, false), met: map[string]bool{}}
	for id := range k.ops {
		s.threads = append(s.threads, api.Thread{Id: id})
	}
	s.done = make([][]api.Res, len(k.ops))
	return s
}

// inTheMidst is a system whose threads have records, on the list as order has it, all served in the pass 5, and of which the first one begins a sweep.
func inTheMidst(t *testing.T, k kind, order ...int) *system {
	t.Helper()
	s := fresh(k)
	for id := range s.threads {
		if at, e := s.m.Alloc(api.Size); at != record.Base(id) || e != api.OK {
			t.Fatalf("Alloc is %d, %v", at, e)
		}
		s.threads[id].Rec = record.Base(id)
		store(t, s.m, record.Base(id)+api.Age, 5)
	}
	at := api.Head
	for _, id := range order {
		store(t, s.m, at, int64(record.Base(id)))
		store(t, s.m, record.Base(id)+api.Active, on)
		at = record.Base(id) + api.Next
	}
	store(t, s.m, api.Lock, 1)
	store(t, s.m, api.Pass, 9)
	x, _ := owner.Begin(s.threads[0], k.ops[0][0])
	x.Pc, x.Pass = api.PcSweep, 9
	store(t, s.m, x.Rec+api.Req, x.Word)
	s.threads[0] = x
	return s
}

// copied is one that knows nothing of this one, but what both met.
func (s *system) copied() *system {
	c := *s
	c.m, c.o = s.m.Copy(), s.o.Copy()
	c.items, c.threads, c.due = slices.Clone(s.items), slices.Clone(s.threads), slices.Clone(s.due)
	c.done = nil
	for _, l := range s.done {
		c.done = append(c.done, slices.Clone(l))
	}
	return &c
}

func (s *system) String() string {
	return fmt.Sprint(s.m.Cells(), s.threads, s.items, s.done, s.due)
}

// waits are the records that can be come to, and wait.
func (s *system) waits(t *testing.T) []int {
	t.Helper()
	reached, is := list.Reach(s.m)
	if !is {
		t.Fatalf("the list is lost: %v", s)
	}
	waiting := list.Waiting(s.m)
	return slices.DeleteFunc(reached, func(a int) bool { return !slices.Contains(waiting, a) })
}

// pick takes one step of a thread, and checks what must hold of it. It is false if there is nothing for it to do.
func (s *system) pick(t *testing.T, id int) bool {
	t.Helper()
	x := s.threads[id]
	waited := s.waits(t)
	switch {
	case x.Pc == api.PcIdle:
		if x.Seq == len(s.ops[id]) {
			return false
		}
		s.threads[id], _ = owner.Begin(x, s.ops[id][x.Seq])
	case owner.Asks(x):
		y, res, told := owner.Step(s.m, x)
		if s.threads[id] = y; told {
			s.told(t, y, res)
		}
		s.met[fmt.Sprint(x.Pc, " to ", y.Pc)] = true
	case comb.Serves(x):
		s.owns(t, x)
		y, items := comb.Step(s.m, s.o, s.passes, x)
		if s.threads[id] = y; x.Pc == api.PcDo {
			s.log(t, items)
		}
	case Sweeps(x):
		s.owns(t, x)
		s.sweep(t, x)
	default:
		t.Fatalf("%d is at no place: %v", id, s)
	}
	s.sound(t, waited)
	return true
}

// sound checks what holds of a memory, whatever was done last: who waited on the list is there, or was served, but not taken off.
func (s *system) sound(t *testing.T, waited []int) {
	t.Helper()
	reached, _ := list.Reach(s.m)
	for _, a := range waited {
		if !slices.Contains(reached, a) {
			t.Fatalf("%d is taken off: %v", a, s)
		}
	}
	for _, x := range s.threads {
		if r, is := record.See(s.m, x.Rec); is && record.Waits(r) && r.Active == on && !slices.Contains(reached, x.Rec) {
			t.Fatalf("%d waits, and can't be found: %v", x.Id, s)
		}
	}
	if e := list.Sound(s.m); e != api.OK {
		t.Fatalf("it is not sound, %v: %v", e, s)
	}
	if n := record.Many(s.m); n > len(s.threads) {
		t.Fatalf("there are %d records: %v", n, s)
	}
	s.due = slices.DeleteFunc(s.due, func(a int) bool { return load(t, s.m, a+api.Req) > 0 }) // not idle any more
}

// owns checks that who serves or sweeps has the lock, and not for too long.
func (s *system) owns(t *testing.T, x api.Thread) {
	t.Helper()
	if v := load(t, s.m, api.Lock); v != int64(x.Id)+1 {
		t.Fatalf("%d has the lock, but LOCK is %d: %v", x.Id, v, s)
	}
	if x.Pc == api.PcPass && x.Runs == 0 {
		s.went = 0
	}
	n := len(s.threads)
	if s.went++; s.went > s.passes*(13*n+8)+7*n+3 {
		t.Fatalf("%d took %d steps: %v", x.Id, s.went, s)
	}
}

// sweep is one step of who sweeps: HEAD is as it was ahead of it, and at the end those are off the list that were idle for long at the beginning.
func (s *system) sweep(t *testing.T, x api.Thread) {
	t.Helper()
	head := load(t, s.m, api.Head)
	if x.Pc == api.PcSweep {
		s.due = list.Stale(s.m, s.age)
		s.met[fmt.Sprint(len(s.due), " due")] = true
	}
	y := Step(s.m, s.age, x)
	s.threads[x.Id] = y
	s.met[fmt.Sprint(x.Pc, " to ", y.Pc)] = true
	if now := load(t, s.m, api.Head); now != head {
		t.Fatalf("HEAD was %d, and is %d: %v", head, now, s)
	}
	if x.Pc != api.PcRelease {
		return
	}
	reached, _ := list.Reach(s.m)
	for _, a := range s.due {
		if slices.Contains(reached, a) {
			t.Fatalf("%d was idle for long, and is on the list: %v", a, s)
		}
	}
	s.due = nil
}

// told checks that a thread is told what was done, once.
func (s *system) told(t *testing.T, x api.Thread, res api.Res) {
	t.Helper()
	if len(s.done[x.Id]) != x.Seq || s.done[x.Id][x.Seq-1] != res {
		t.Fatalf("%d is told %v of its operation %d: %v", x.Id, res, x.Seq, s)
	}
}

// log checks that items are operations that wait, done once, and are told what the specification tells.
func (s *system) log(t *testing.T, items []api.Item) {
	t.Helper()
	var ops []api.Op
	var told []api.Res
	for _, i := range items {
		id := slices.IndexFunc(s.threads, func(x api.Thread) bool { return x.Rec == i.Rec })
		if id < 0 || s.threads[id].Word != i.Word || len(s.done[id]) != s.threads[id].Seq-1 {
			t.Fatalf("%v is not what %d waits for: %v", i, id, s)
		}
		op, _ := word.OfOp(i.Word)
		res, _ := word.OfRes(i.Res)
		ops, told = append(ops, op), append(told, res)
		s.done[id] = append(s.done[id], res)
	}
	var want []api.Res
	s.items, want = spec.Batch(api.Stack, s.most, s.items, ops)
	if !slices.Equal(told, want) {
		t.Fatalf("%v are told %v, by the specification %v: %v", ops, told, want, s)
	}
}

// ended says whether all that is asked for was told, or the one sweep is done.
func (s *system) ended() bool {
	if s.once {
		return s.threads[0].Pc == api.PcWait
	}
	for id, x := range s.threads {
		if x.Pc != api.PcIdle || x.Seq != len(s.ops[id]) {
			return false
		}
	}
	return true
}

// all goes through all that the threads may come to, in whatever order they are picked, and tells how many ends there are, and how much there is.
func (s *system) all(t *testing.T) (int, int) {
	t.Helper()
	been := map[string]bool{}
	left := []*system{s}
	ends := 0
	for len(left) > 0 {
		s := left[len(left)-1]
		left = left[:len(left)-1]
		if been[s.String()] {
			continue
		}
		been[s.String()] = true
		if s.ended() {
			ends++
			continue
		}
		for id := range s.threads {
			if c := s.copied(); c.pick(t, id) {
				left = append(left, c)
			}
		}
	}
	return ends, len(been)
}

func op(kind uint8, val int32) api.Op { return api.Op{Kind: kind, Val: val} }

// asks checks which ways were met.
func (s *system) asks(t *testing.T, ways ...string) {
	t.Helper()
	for _, way := range ways {
		if !s.met[way] {
			t.Errorf("%v: nobody met %q", s.kind, way)
		}
	}
}

// common are the ways that each system of two threads and more meets, in whatever order they are picked.
var common = []string{"0 due", "1 due", "40 to 41", "41 to 42", "41 to 48", "42 to 43", "43 to 44", "44 to 45", "45 to 46", "46 to 47", "47 to 41", "48 to 11", "11 to 12", "11 to 14", "5 to 6", "5 to 11"}

func TestWhateverTheOrder(t *testing.T) {
	for _, c := range []struct {
		kind
		ways []string
	}{
		{kind{1, 1, 0, [][]api.Op{{op(1, 5)}, {op(1, 6)}}}, []string{"42 to 41", "43 to 41"}},
		{kind{1, 1, -1, [][]api.Op{{op(1, 5)}, {op(2, 0)}}}, []string{"42 to 41", "15 to 16"}},
		{kind{1, 1, 0, [][]api.Op{{op(1, 5), op(2, 0)}, {op(1, 6)}}}, []string{"42 to 41", "43 to 41", "44 to 41", "2 to 3", "3 to 3", "3 to 4", "15 to 16"}},
		{kind{1, 2, 0, [][]api.Op{{op(1, 5), op(2, 0)}, {op(1, 6)}}}, []string{"42 to 41", "43 to 41", "44 to 41", "2 to 3", "3 to 3", "3 to 4", "15 to 16"}},
		{kind{1, 1, -1, [][]api.Op{{op(1, 5), op(2, 0)}, {op(1, 6)}}}, []string{"42 to 41", "44 to 41", "2 to 3", "3 to 3", "3 to 4", "15 to 16"}},
	} {
		s := fresh(c.kind)
		ends, many := s.all(t)
		t.Logf("%v: %d ends of %d", c.kind, ends, many)
		if ends == 0 {
			t.Errorf("%v: nobody comes to an end", c.kind)
		}
		s.asks(t, common...)
		s.asks(t, c.ways...)
	}
}

// TestWhateverTheOrderInTheMidst begins with a sweep of records that are all idle for long, while their owners come to ask for something.
func TestWhateverTheOrderInTheMidst(t *testing.T) {
	one, two := [][]api.Op{{op(1, 5)}, {op(1, 6)}}, [][]api.Op{{op(1, 5)}, {op(1, 6)}, nil}
	for _, c := range []struct {
		kind
		order []int
		ways  []string
	}{
		{kind{2, 1, 3, one}, []int{0, 1}, []string{"1 due", "2 to 3", "3 to 3", "3 to 4", "44 to 41"}},
		{kind{2, 1, 3, one}, []int{1, 0}, []string{"0 due", "2 to 5", "44 to 41"}},
		{kind{2, 1, 4, one}, []int{0, 1}, []string{"0 due", "43 to 41"}},
		{kind{2, 1, 3, two}, []int{2, 1, 0}, []string{"1 due", "2 to 3", "3 to 3", "3 to 4", "44 to 41"}},
		{kind{2, 1, 3, two}, []int{0, 1, 2}, []string{"2 due", "2 to 3", "3 to 3", "3 to 4", "44 to 41"}},
		{kind{2, 1, 3, two}, []int{0, 2}, []string{"1 due", "2 to 5", "15 to 7", "9 to 10"}},
	} {
		s := inTheMidst(t, c.kind, c.order...)
		ends, many := s.all(t)
		t.Logf("%v of %v: %d ends of %d", c.kind, c.order, ends, many)
		if ends == 0 {
			t.Errorf("%v of %v: nobody comes to an end", c.kind, c.order)
		}
		s.asks(t, c.ways...)
	}
}

// TestWhateverTheOrderOfOneSweep has more threads, till the sweep is done.
func TestWhateverTheOrderOfOneSweep(t *testing.T) {
	three, four := [][]api.Op{{op(1, 5)}, {op(1, 6)}, {op(2, 0)}}, [][]api.Op{{op(1, 5)}, {op(1, 6)}, nil, {op(2, 0)}}
	for _, c := range []struct {
		kind
		order []int
		due   string
	}{
		{kind{2, 1, 3, three}, []int{0, 1, 2}, "2 due"},
		{kind{2, 1, 3, three}, []int{1, 0, 2}, "1 due"},
		{kind{2, 1, 3, three}, []int{2, 1}, "1 due"},
		{kind{2, 1, 3, four}, []int{0, 1, 2, 3}, "3 due"},
		{kind{2, 1, 3, four}, []int{3, 0, 2, 1}, "2 due"},
		{kind{2, 1, 3, four}, []int{0, 2, 1}, "2 due"},
	} {
		s := inTheMidst(t, c.kind, c.order...)
		s.once = true
		ends, many := s.all(t)
		t.Logf("%v of %v: %d ends of %d", c.kind, c.order, ends, many)
		if ends == 0 {
			t.Errorf("%v of %v: nobody comes to an end", c.kind, c.order)
		}
		s.asks(t, c.due, "44 to 45", "47 to 41")
	}
}

// ops are some operations of a stack, and some that are none.
func (d *draws) ops(n int) []api.Op {
	var ops []api.Op
	for range n {
		k := 1 + d.below(2)
		if d.below(20) == 0 {
			k = 9
		}
		ops = append(ops, op(uint8(k), int32(d.below(9)-4)))
	}
	return ops
}

// TestManyThreads has more threads than can be picked in each order. First they are picked as it comes, then round by round, till all were told: each in time.
func TestManyThreads(t *testing.T) {
	d := draws(51)
	met := map[string]bool{}
	for run := range 150 {
		n := 2 + run%6
		k := kind{most: 1 + d.below(3), passes: 1 + d.below(3), age: run % 4}
		for range n {
			k.ops = append(k.ops, d.ops(1+d.below(6)))
		}
		s := fresh(k)
		s.met = met
		lazy := d.below(n)
		for range d.below(900) {
			if id := d.below(n); id != lazy || d.below(5) == 0 {
				s.pick(t, id)
			}
		}
		s.rounds(t)
		for id, l := range s.done {
			if len(l) != len(k.ops[id]) {
				t.Errorf("%d was told %v of %v", id, l, k.ops[id])
			}
		}
	}
	for _, way := range []string{"2 due", "3 due", "43 to 41", "44 to 41", "44 to 45", "47 to 41", "2 to 3", "3 to 4"} {
		if !met[way] {
			t.Errorf("nobody met %q", way)
		}
	}
}

// rounds picks all threads, round by round, till all were told.
func (s *system) rounds(t *testing.T) {
	t.Helper()
	n := len(s.threads)
	since := make([]int, n) // how many picks each has waited for
	bound := n * (3*(s.passes*(13*n+8)+7*n+3) + 32)
	for !s.ended() {
		for id := range n {
			s.pick(t, id)
			for i := range since {
				if since[i]++; s.threads[i].Pc == api.PcIdle {
					since[i] = 0
				}
				if since[i] > bound {
					t.Fatalf("%d waited for %d picks: %v", i, since[i], s)
				}
			}
		}
	}
}
