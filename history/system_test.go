package history

import (
	"fmt"
	"slices"
	"testing"

	"reaper/api"
	"reaper/script"
	"reaper/world"
)

// configs are worlds of each object, plain or not, of few threads and little room.
func configs() []api.Config {
	var l []api.Config
	for i := range 36 {
		l = append(l, api.Config{
			Object: objects[i%3], Threads: 2 + i/3%3, Cap: 1 + i/6%4, Age: 1 + i%2, Passes: 1 + i/4%3, Plain: i%2 == 0,
		})
	}
	return l
}

// entry is one of a world of so many threads: most are picks.
func (d *draws) entry(n int) api.Entry {
	switch d.below(9) {
	case 0, 1:
		return api.Entry{Kind: api.Call, Thread: d.below(n), Op: op(uint8(1+d.below(4)), int32(d.below(5)))}
	case 2:
		return api.Entry{Kind: api.Draw, Bits: uint8(d.below(256))}
	}
	return api.Entry{Kind: api.Pick, Thread: d.below(n)}
}

// proves checks that a world's log is an order that tells what its spans are.
func proves(t *testing.T, c api.Config, w *world.World) {
	t.Helper()
	if e := Check(c.Object, c.Cap, Spans(w.Events()), w.Log()); e != api.OK {
		t.Fatalf("%+v: Check is %d of\n%+v,\n%+v", c, e, w.Events(), w.Log())
	}
}

// come is a world behind so many entries, of which what proves it is checked behind each; then all are picked till each was told.
func come(t *testing.T, c api.Config, seed uint64, entries int) *world.World {
	t.Helper()
	d := draws(seed)
	w := world.New(c)
	for range entries {
		w.Do(d.entry(c.Threads))
		proves(t, c, w)
	}
	for _, e := range script.Rounds(c.Threads, 300) {
		w.Do(e)
	}
	proves(t, c, w)
	if n := Pending(Spans(w.Events())); n != 0 {
		t.Fatalf("%+v: %d pend, though all were picked: %+v", c, n, w.Threads())
	}
	return w
}

// TestLogOfAWorld checks that some order proves whatever a world comes to, behind each entry, and that the log is one.
func TestLogOfAWorld(t *testing.T) {
	batches := map[int]int{}
	for i, c := range configs() {
		w := come(t, c, uint64(i), 400)
		s, log := Spans(w.Events()), w.Log()
		if len(s) != len(log) || len(s) < 5 {
			t.Errorf("%+v: %d spans, and %d in the log", c, len(s), len(log))
		}
		number := map[int]int{}
		for _, a := range log {
			number[a.Batch]++
		}
		for _, n := range number {
			batches[n]++
		}
	}
	if batches[1] == 0 || batches[2] == 0 || batches[3] == 0 {
		t.Errorf("how many batches there were of how many: %v", batches)
	}
}

// TestLogOfAWorldThatIsHarmed changes one thing of a world's log, wherever it is. What an order that is another one comes to hangs on what took place at once.
func TestLogOfAWorldThatIsHarmed(t *testing.T) {
	met := map[api.Errno]int{}
	for i, c := range configs() {
		w := come(t, c, uint64(100+i), 300)
		s, log := Spans(w.Events()), w.Log()
		for at := range log {
			harmed := func(what string, want api.Errno, harm func(*api.Applied)) {
				t.Helper()
				l := slices.Clone(log)
				harm(&l[at])
				checksOf(t, what, c.Object, c.Cap, s, l, want)
			}
			harmed("another Res", api.ErrTold, func(a *api.Applied) { a.Res.Val++ })
			harmed("another Seq", api.ErrLost, func(a *api.Applied) { a.Seq += 1000 })
			harmed("another Op", api.ErrLost, func(a *api.Applied) { a.Op.Kind += 9 })
			harmed("another Batch", api.OK, func(a *api.Applied) { a.Batch = 0 })
			checksOf(t, "twice", c.Object, c.Cap, s, append(slices.Clone(log), log[at]), api.ErrTwice)
			checksOf(t, "not at all", c.Object, c.Cap, s, slices.Delete(slices.Clone(log), at, at+1), api.ErrLost)
			last := append(slices.Delete(slices.Clone(log), at, at+1), log[at])
			want := checkAs(c.Object, c.Cap, s, last)
			checksOf(t, "last of all", c.Object, c.Cap, s, last, want)
			met[want]++
		}
		slices.Reverse(log)
		checksOf(t, "the other way around", c.Object, c.Cap, s, log, checkAs(c.Object, c.Cap, s, log))
	}
	if met[api.OK] == 0 || met[api.ErrOrder] == 0 || met[api.ErrTold] == 0 || len(met) != 3 {
		t.Errorf("one that is last of all comes to %v", met)
	}
}

// TestSpansInTime picks all threads round by round, of which each asks whenever it is idle: none waits longer than the bound.
func TestSpansInTime(t *testing.T) {
	for i, c := range configs() {
		d := draws(i)
		w := world.New(c)
		for _, e := range script.Rounds(c.Threads, 400) {
			w.Do(api.Entry{Kind: api.Call, Thread: e.Thread, Op: op(uint8(1+d.below(4)), int32(d.below(5)))})
			w.Do(e)
		}
		n := c.Threads
		bound := n * (3*(c.Passes*(13*n+8)+7*n+3) + 32)
		for _, s := range Spans(w.Events()) {
			if s.To >= 0 && s.To-s.From > bound || s.To < 0 && len(w.Picks())-s.From > bound {
				t.Errorf("%+v: %+v waits longer than %d", c, s, bound)
			}
		}
	}
}

// TestSpansPlainOrNot checks that what meets, and what is sorted, changes neither spans nor what proves them.
func TestSpansPlainOrNot(t *testing.T) {
	for i, c := range configs() {
		other := c
		other.Plain = !c.Plain
		v, w := come(t, c, uint64(200+i), 150), come(t, other, uint64(200+i), 150)
		if !slices.Equal(Spans(v.Events()), Spans(w.Events())) {
			t.Errorf("%+v: Spans are\n%+v, and\n%+v", c, Spans(v.Events()), Spans(w.Events()))
		}
		checksOf(t, "one's spans with the other one's log", c.Object, c.Cap, Spans(v.Events()), w.Log(), api.OK)
	}
}

func ExampleCheck() {
	c := api.Config{Object: api.Stack, Threads: 2, Cap: 4, Age: 2, Passes: 2}
	w := world.New(c)
	for _, e := range script.Calls([]int{0, 1}, op(api.Push, 7), op(api.Pop, 0)) {
		w.Do(e)
	}
	for _, e := range script.Rounds(2, 60) {
		w.Do(e)
	}
	s, log := Spans(w.Events()), w.Log()
	fmt.Println(Pending(s), Before(s[0], s[1]), Check(c.Object, c.Cap, s, log) == api.OK)
	fmt.Println(Check(c.Object, c.Cap, s, log[:1]) == api.ErrLost)
	// Output:
	// 0 false true
	// true
}
