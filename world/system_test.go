package world

import (
	"fmt"
	"maps"
	"slices"
	"strings"
	"testing"

	"reaper/api"
	"reaper/cells"
	"reaper/list"
	"reaper/record"
	"reaper/script"
	"reaper/spec"
)

// watch is a world of which what must hold is checked behind each entry.
type watch struct {
	*World
	c     api.Config
	due   []int       // the records that are idle for long as a sweep begins, and have to be off the list as it ends
	since map[int]int // of each thread that waits, how many picks there were as it began
	b     int         // in how many picks in a row each thread that waits is picked; 0, if nobody knows
	met   map[string]bool
}

func watched(t testing.TB, c api.Config, b int) *watch {
	t.Helper()
	return &watch{World: fresh(t, c), c: c, b: b, since: map[int]int{}, met: map[string]bool{}}
}

// copied is one that knows nothing of this one, but what both met.
func (w *watch) copied() *watch {
	c := *w
	c.World = w.Copy()
	c.due = slices.Clone(w.due)
	c.since = map[int]int{}
	for id, at := range w.since {
		c.since[id] = at
	}
	return &c
}

// do does an entry, and checks what holds of the world behind it, however it was ahead of it.
func (w *watch) do(t *testing.T, e api.Entry) bool {
	t.Helper()
	m, threads, events, log, picks := w.Memory(), w.Threads(), w.Events(), w.Log(), w.Picks()
	is := w.Do(e)
	w.oneStep(t, e, m, threads)
	w.onlyMore(t, events, log, picks)
	w.sound(t, m)
	w.swept(t, e, m, threads)
	w.inTime(t)
	return is
}

// oneStep checks that nobody but who was picked goes on, and that he comes to one cell at most.
func (w *watch) oneStep(t *testing.T, e api.Entry, m *cells.Memory, threads []api.Thread) {
	t.Helper()
	for id, x := range w.Threads() {
		if id == e.Thread && (e.Kind == api.Pick || e.Kind == api.Call) {
			continue
		}
		if fmt.Sprint(x) != fmt.Sprint(threads[id]) {
			t.Fatalf("%+v has %d, %+v, be %+v", e, id, threads[id], x)
		}
	}
	if n := w.Memory().Steps() - m.Steps(); n < 0 || n > 1 || n > 0 && e.Kind != api.Pick {
		t.Fatalf("%+v takes %d steps", e, n)
	}
}

// onlyMore checks that what happened stays, and that what is new fits it.
func (w *watch) onlyMore(t *testing.T, events []api.Event, log []api.Applied, picks []int) {
	t.Helper()
	if l := w.Picks(); len(l) < len(picks) || !slices.Equal(l[:len(picks)], picks) {
		t.Fatalf("Picks were %v, and are %v", picks, l)
	}
	now := w.Log()
	if len(now) < len(log) || !slices.Equal(now[:len(log)], log) {
		t.Fatalf("Log was %v, and is %v", log, now)
	}
	for _, a := range now[len(log):] {
		w.isDone(t, a, log)
	}
	l := w.Events()
	if len(l) < len(events) || len(l) > len(events)+1 || !slices.Equal(l[:len(events)], events) {
		t.Fatalf("Events were %v, and are %v", events, l)
	}
	for _, e := range l[len(events):] {
		w.happened(t, e, len(picks))
	}
	w.proves(t, len(log))
}

// isDone checks that an operation was asked for, and neither done already nor told yet.
func (w *watch) isDone(t *testing.T, a api.Applied, ahead []api.Applied) {
	t.Helper()
	if slices.ContainsFunc(ahead, func(b api.Applied) bool { return a.Thread == b.Thread && a.Seq == b.Seq }) {
		t.Fatalf("%+v was done twice: %v", a, ahead)
	}
	asked := func(e api.Event) bool {
		return e.Kind == api.Invoke && e.Thread == a.Thread && e.Seq == a.Seq && e.Op == a.Op
	}
	told := func(e api.Event) bool { return e.Kind == api.Return && e.Thread == a.Thread && e.Seq == a.Seq }
	if l := w.Events(); !slices.ContainsFunc(l, asked) || slices.ContainsFunc(l, told) {
		t.Fatalf("%+v is not what is asked for: %v", a, l)
	}
	if n := 1; len(ahead) > 0 {
		if n = ahead[len(ahead)-1].Batch + 1; a.Batch != n {
			t.Fatalf("%+v is not of the batch %d", a, n)
		}
	}
}

// happened checks an event behind so many picks: who is told is told what was done.
func (w *watch) happened(t *testing.T, e api.Event, picks int) {
	t.Helper()
	if e.At != picks {
		t.Fatalf("%+v is at %d", e, picks)
	}
	if e.Kind == api.Invoke {
		w.since[e.Thread] = picks
		return
	}
	delete(w.since, e.Thread)
	is := func(a api.Applied) bool { return a.Thread == e.Thread && a.Seq == e.Seq && a.Res == e.Res }
	if !slices.ContainsFunc(w.Log(), is) {
		t.Fatalf("%+v was not done so: %v", e, w.Log())
	}
}

// proves checks that the log, as far as it is new, tells what the specification tells, and leaves the same items.
func (w *watch) proves(t *testing.T, ahead int) {
	t.Helper()
	l := w.Log()
	if len(l) == ahead {
		return
	}
	var ops []api.Op
	for _, a := range l {
		ops = append(ops, a.Op)
	}
	items, told := spec.Run(w.c.Object, w.c.Cap, nil, ops...)
	for i, res := range told {
		if res != l[i].Res {
			t.Fatalf("%+v, which is %d of the log, is told %v by the specification: %v", l[i], i, res, l)
		}
	}
	if !slices.Equal(items, w.Items()) {
		t.Fatalf("Items are %v, by the specification %v: %v", w.Items(), items, l)
	}
	w.met[fmt.Sprint("a batch of ", len(l)-ahead)] = true
}

// waits are the records that can be come to, and wait.
func waits(t *testing.T, m *cells.Memory) []int {
	t.Helper()
	reached, is := list.Reach(m)
	if !is {
		t.Fatalf("the list is lost: %v", m.Cells())
	}
	waiting := list.Waiting(m)
	return slices.DeleteFunc(reached, func(a int) bool { return !slices.Contains(waiting, a) })
}

// sound checks the memory: who waited on the list is on it, nobody is lost, and there are no more records than threads.
func (w *watch) sound(t *testing.T, before *cells.Memory) {
	t.Helper()
	m := w.Memory()
	reached, _ := list.Reach(m)
	for _, a := range waits(t, before) {
		if !slices.Contains(reached, a) {
			t.Fatalf("%d is taken off: %v", a, m.Cells())
		}
	}
	if e := list.Sound(m); e != api.OK {
		t.Fatalf("it is not sound, %v: %v", e, m.Cells())
	}
	if n := record.Many(m); n > w.c.Threads {
		t.Fatalf("there are %d records: %v", n, m.Cells())
	}
}

// swept checks at the end of a sweep that those are off the list that were idle for long at its beginning, and did not ask meanwhile.
func (w *watch) swept(t *testing.T, e api.Entry, before *cells.Memory, threads []api.Thread) {
	t.Helper()
	if e.Kind != api.Pick || e.Thread < 0 || e.Thread >= len(threads) {
		return
	}
	now := w.Threads()[e.Thread].Pc
	w.met[fmt.Sprint(threads[e.Thread].Pc, " to ", now)] = true
	m := w.Memory()
	switch threads[e.Thread].Pc {
	case api.PcSweep:
		w.due = list.Stale(before, w.c.Age)
		w.met[fmt.Sprint(len(w.due), " due")] = true
	case api.PcRelease:
		for _, a := range list.Stale(m, w.c.Age) {
			if slices.Contains(w.due, a) {
				t.Fatalf("%d was idle for long, and is on the list: %v", a, m.Cells())
			}
		}
		w.due = nil
	}
}

// inTime checks that nobody has waited longer than the bound.
func (w *watch) inTime(t *testing.T) {
	t.Helper()
	if w.b == 0 {
		return
	}
	n := w.c.Threads
	bound := w.b * (3*(w.c.Passes*(13*n+8)+7*n+3) + 32)
	for id, from := range w.since {
		if now := len(w.Picks()); now-from > bound {
			t.Fatalf("%d waits since %d, now it is %d, and the bound is %d", id, from, now, bound)
		}
	}
}

// ended says whether all are idle.
func (w *watch) ended() bool {
	return !slices.ContainsFunc(w.Threads(), func(x api.Thread) bool { return x.Pc != api.PcIdle })
}

// rounds picks all threads, round by round, till all are idle.
func (w *watch) rounds(t *testing.T) {
	t.Helper()
	for range 10000 {
		if w.ended() {
			return
		}
		for _, e := range script.Rounds(w.c.Threads, 1) {
			w.do(t, e)
		}
	}
	t.Fatalf("they do not come to be idle: %+v", w.Threads())
}

// settled checks that who asked was told, each once.
func (w *watch) settled(t *testing.T) {
	t.Helper()
	asked, told := 0, 0
	for _, e := range w.Events() {
		if e.Kind == api.Invoke {
			asked++
		} else {
			told++
		}
	}
	if asked != told || asked != len(w.Log()) {
		t.Fatalf("%d were asked for, %d told, and %d done", asked, told, len(w.Log()))
	}
}

// asks checks which ways were met.
func (w *watch) asks(t *testing.T, ways ...string) {
	t.Helper()
	for _, way := range ways {
		if !w.met[way] {
			t.Errorf("%+v: nobody met %q", w.c, way)
		}
	}
}

// place is where a world is, but for when what happened there.
func (w *watch) place() string {
	var told []api.Event
	for _, e := range w.Events() {
		if e.Kind == api.Return {
			told = append(told, api.Event{Thread: e.Thread, Seq: e.Seq, Res: e.Res})
		}
	}
	return fmt.Sprint(w.Threads(), w.Memory().Cells(), w.Items(), w.Log(), told, w.due)
}

// all goes through all that a world may come to, in whatever order its threads are picked, where each asks for some operations, one behind the other. It tells how many ends there are.
func (w *watch) all(t *testing.T, asked [][]api.Op) int {
	t.Helper()
	been := map[string]bool{}
	left := []*watch{w}
	ends := 0
	for len(left) > 0 {
		w := left[len(left)-1]
		left = left[:len(left)-1]
		if place := w.place(); been[place] {
			continue
		} else {
			been[place] = true
		}
		end := true
		for id, x := range w.Threads() {
			e := pick(id)
			if x.Pc == api.PcIdle && x.Seq == len(asked[id]) {
				continue
			}
			if x.Pc == api.PcIdle {
				e = api.Entry{Kind: api.Call, Thread: id, Op: asked[id][x.Seq]}
			}
			end = false
			c := w.copied()
			if !c.do(t, e) {
				t.Fatalf("Do of %+v is false", e)
			}
			left = append(left, c)
		}
		if end {
			ends++
			w.settled(t)
		}
	}
	t.Logf("%+v: %d ends of %d", w.c, ends, len(been))
	return ends
}

func TestWhateverTheOrder(t *testing.T) {
	for _, c := range []struct {
		api.Config
		asked [][]api.Op
		ways  []string
	}{
		{api.Config{Object: api.Stack, Threads: 2, Cap: 1, Age: 1, Passes: 1}, [][]api.Op{{op(1, 5)}, {op(2, 6)}}, nil},
		{api.Config{Object: api.Deque, Threads: 2, Cap: 1, Age: 1, Passes: 1}, [][]api.Op{{op(1, 5)}, {op(4, 6)}}, nil},
		{api.Config{Object: api.Heap, Threads: 2, Cap: 1, Age: 1, Passes: 1, Plain: true}, [][]api.Op{{op(2, 5)}, {op(1, 6)}}, nil},
		{api.Config{Object: api.Heap, Threads: 2, Cap: 1, Age: 1, Passes: 2}, [][]api.Op{{op(1, 6), op(2, 1)}, {op(1, 5)}}, []string{"1 due", "44 to 45", "15 to 16", "2 to 3", "3 to 3"}},
	} {
		w := watched(t, c.Config, 0)
		if ends := w.all(t, c.asked); ends < 2 {
			t.Errorf("%+v: there are %d ends", c.Config, ends)
		}
		w.asks(t, "0 due", "a batch of 1", "a batch of 2", "2 to 5", "5 to 11", "6 to 11", "9 to 10", "13 to 11", "25 to 23", "48 to 11")
		w.asks(t, c.ways...)
	}
}

// TestManyThreads has more threads than can be picked in each order: as it comes, then round by round, till all are idle.
func TestManyThreads(t *testing.T) {
	met := map[string]bool{}
	for i, c := range configs(23, 54) {
		c.Threads = 2 + i%5
		w := watched(t, c, 0)
		w.met = met
		for _, e := range drawn(uint64(100+i), c, 600) {
			w.do(t, e)
		}
		w.rounds(t)
		w.settled(t)
	}
	w := watch{met: met}
	w.asks(t, "0 due", "1 due", "2 due", "a batch of 1", "a batch of 2", "a batch of 3", "2 to 3", "3 to 4", "25 to 26", "29 to 30", "43 to 41", "44 to 45", "47 to 41")
	for pc := 1; pc <= api.PcRelease; pc++ {
		if pc >= api.PcDrop && pc < api.PcPass || pc == api.PcBare || pc == api.PcSolo {
			continue // between who asks and who serves is nothing, and who serves finds that somebody is on the list
		}
		if !slices.ContainsFunc(slices.Collect(maps.Keys(met)), func(way string) bool { return strings.HasPrefix(way, fmt.Sprint(pc, " to ")) }) {
			t.Errorf("nobody came to %d", pc)
		}
	}
}

// TestInTime picks each thread at least once in each b picks in a row, else as it comes, and has some ask whenever they are idle.
func TestInTime(t *testing.T) {
	d := draws(5)
	for i, c := range configs(41, 24) {
		c.Threads = 1 + i%4
		b := c.Threads * (1 + i%3)
		w := watched(t, c, b)
		last := slices.Repeat([]int{-1}, c.Threads) // when each was picked last
		for now := range 1500 {
			id := d.below(1 + d.below(c.Threads))
			if oldest := slices.Index(last, slices.Min(last)); now-last[oldest] >= b-c.Threads {
				id = oldest
			}
			if now-last[id] > b {
				t.Fatalf("%d is not picked in %d picks", id, b)
			}
			last[id] = now
			w.do(t, pick(id))
			w.do(t, api.Entry{Kind: api.Call, Thread: d.below(c.Threads), Op: d.op()})
		}
		w.b += c.Threads // as the rounds begin with another thread than the one whose turn it is
		w.rounds(t)
		w.settled(t)
	}
}

// TestPlainOrNot checks that with operations that meet, or batches that are sorted, and with none of these, all is the same.
func TestPlainOrNot(t *testing.T) {
	for i, c := range configs(61, 54) {
		c.Plain = false
		other := c
		other.Plain = true
		v, w := fresh(t, c), fresh(t, other)
		for _, e := range drawn(uint64(i), c, 900) {
			if v.Do(e) != w.Do(e) {
				t.Fatalf("%+v: %+v does something in one of two worlds", c, e)
			}
		}
		alike(t, fmt.Sprintf("%+v, plain or not,", c), whole(v), whole(w))
	}
}

// TestFull checks that who is told Full changes no items.
func TestFull(t *testing.T) {
	for _, object := range objects {
		for _, plain := range plains {
			c := config(object, 3)
			c.Cap, c.Plain = 1, plain
			w := fresh(t, c)
			together(t, w, op(1, 7), op(1, 8), op(1, 9))
			idle(t, w)
			was, levels := w.Items(), w.Level(1)
			does(t, w, call(0, 1, 1), call(1, 1, 2), call(2, 1, 3))
			idle(t, w)
			for _, a := range w.Log()[3:] {
				alike(t, "what it is told", a.Res, api.Res{Code: api.Full})
			}
			alike(t, "Items", w.Items(), was)
			alike(t, "the level 1", w.Level(1), levels)
		}
	}
}

// TestAsManyThreadsAsMayBe has all of them ask at once, and be told in time.
func TestAsManyThreadsAsMayBe(t *testing.T) {
	for _, object := range objects {
		for _, passes := range []int{1, 2} {
			c := api.Config{Object: object, Threads: 64, Cap: 1000, Age: 1, Passes: passes}
			w := watched(t, c, 64)
			for id := range 64 {
				does(t, w.World, call(id, 1, int32(id)))
				w.since[id] = 0
			}
			idle(t, w.World)
			w.inTime(t)
			w.settled(t)
			w.proves(t, 0)
			w.sound(t, w.Memory())
			alike(t, "how many items there are", len(w.Items()), 64)
			alike(t, "how many records there are", record.Many(w.Memory()), 64)
		}
	}
}

// TestServedAndSweptOffMeanwhile has a thread stop ahead of its claim, while another one puts its record on the list, serves it, and takes it off.
func TestServedAndSweptOffMeanwhile(t *testing.T) {
	for _, object := range objects {
		w := watched(t, api.Config{Object: object, Threads: 2, Cap: 2, Age: 1, Passes: 2}, 0)
		does(t, w.World, call(0, 1, 7))
		to(t, w.World, 0, api.PcClaim)
		for range 2 { // behind the second one it has been idle for more than one pass
			does(t, w.World, call(1, 1, 8))
			for w.Threads()[1].Pc != api.PcIdle {
				w.do(t, pick(1))
			}
		}
		w.asks(t, "25 to 26", "1 due", "47 to 41", "a batch of 2")
		w.rounds(t)
		w.asks(t, "6 to 15", "15 to 16", "16 to 11", "11 to 14")
		w.settled(t)
	}
}
