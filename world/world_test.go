package world

import (
	"fmt"
	"math"
	"reflect"
	"slices"
	"testing"

	"reaper/api"
	"reaper/object"
	"reaper/record"
	"reaper/script"
)

// objects are all there are.
var objects = []uint8{api.Stack, api.Deque, api.Heap}

// plains are both ways in which an object does a batch.
var plains = []bool{false, true}

func op(kind uint8, val int32) api.Op { return api.Op{Kind: kind, Val: val} }

func call(id int, kind uint8, val int32) api.Entry {
	return api.Entry{Kind: api.Call, Thread: id, Op: op(kind, val)}
}

func pick(id int) api.Entry { return api.Entry{Kind: api.Pick, Thread: id} }

func draw(bits uint8) api.Entry { return api.Entry{Kind: api.Draw, Bits: bits} }

// config is one of small numbers, of some object.
func config(object uint8, threads int) api.Config {
	return api.Config{Object: object, Threads: threads, Cap: 4, Age: 2, Passes: 2}
}

// fresh is a world that has to be there.
func fresh(t testing.TB, c api.Config) *World {
	t.Helper()
	w := New(c)
	if w == nil {
		t.Fatalf("New of %+v is nil", c)
	}
	return w
}

// does has a world do entries, each of which has to do something.
func does(t testing.TB, w *World, l ...api.Entry) {
	t.Helper()
	for i, e := range l {
		if !w.Do(e) {
			t.Fatalf("Do of %+v, the entry %d, is false", e, i)
		}
	}
}

// picks is a thread picked so many times.
func picks(id, times int) []api.Entry { return slices.Repeat([]api.Entry{pick(id)}, times) }

// to picks a thread till it is at a place.
func to(t testing.TB, w *World, id, pc int) {
	t.Helper()
	for range 1000 {
		if w.Threads()[id].Pc == pc {
			return
		}
		does(t, w, pick(id))
	}
	t.Fatalf("%d does not come to %d: %+v", id, pc, w.Threads())
}

// idle picks all threads, round by round, till all are idle.
func idle(t testing.TB, w *World) {
	t.Helper()
	n := len(w.Threads())
	for range 10000 {
		if !slices.ContainsFunc(w.Threads(), func(x api.Thread) bool { return x.Pc != api.PcIdle }) {
			return
		}
		for _, e := range script.Rounds(n, 1) {
			w.Do(e)
		}
	}
	t.Fatalf("they do not come to be idle: %+v", w.Threads())
}

// seen is all that a world tells, but its picks, and the same for two worlds that are the same.
func seen(w *World) string {
	s := fmt.Sprint(w.Threads(), w.Memory().Cells(), w.Memory().Steps(), w.Events(), w.Log(), w.Items())
	for k := -1; k <= api.MaxLevel+1; k++ {
		s += fmt.Sprint(w.Level(k))
	}
	return s
}

// whole is all that a world tells.
func whole(w *World) string { return seen(w) + fmt.Sprint(w.Picks()) }

// alike checks that two things are the same; a list that is nil is one that is empty.
func alike[T any](t testing.TB, what string, got, want T) {
	t.Helper()
	if g, w := fmt.Sprintf("%+v", got), fmt.Sprintf("%+v", want); g != w {
		t.Errorf("%s is\n%s, not\n%s", what, g, w)
	}
}

func TestExample(t *testing.T) {
	w := fresh(t, config(api.Stack, 1))
	does(t, w, call(0, api.Push, 7))
	for range 50 {
		w.Do(pick(0))
	}
	alike(t, "Items", w.Items(), []int32{7})
	alike(t, "Events", w.Events(), []api.Event{
		{Kind: api.Invoke, Thread: 0, Seq: 1, Op: op(api.Push, 7)},
		{Kind: api.Return, Thread: 0, Seq: 1, Res: api.Res{Code: api.Done}, At: 34},
	})
	alike(t, "Log", w.Log(), []api.Applied{{Thread: 0, Seq: 1, Op: op(api.Push, 7), Res: api.Res{Code: api.Done}, Batch: 1}})
	alike(t, "Picks", w.Picks(), slices.Concat(make([]int, 35), slices.Repeat([]int{-1}, 15)))
}

// numbered is a config that differs from another one in one number alone.
func numbered(c api.Config, field string, n int) api.Config {
	reflect.ValueOf(&c).Elem().FieldByName(field).SetInt(int64(n))
	return c
}

func TestRightOfEachNumber(t *testing.T) {
	for _, object := range objects {
		for _, plain := range plains {
			c := config(object, 2)
			c.Plain = plain
			right(t, c, api.OK)
			for field, most := range map[string]int{"Threads": 64, "Cap": 1000, "Age": 1000, "Passes": 1000} {
				for _, n := range []int{1, 2, 3, most / 2, most - 1, most} {
					right(t, numbered(c, field, n), api.OK)
				}
				for _, n := range []int{0, -1, -2, -most, most + 1, most + 2, 2 * most, 1<<8 + 1 + most, 1<<16 + 1, 1<<31 + 1, 1 << 32, 1<<32 + 1, math.MaxInt, math.MaxInt - 1, math.MinInt, math.MinInt + 1} {
					right(t, numbered(c, field, n), api.ErrArg)
				}
			}
		}
	}
}

func TestRightOfEachObject(t *testing.T) {
	for object := range 256 {
		for _, plain := range plains {
			c := config(uint8(object), 2)
			c.Plain = plain
			want := api.ErrArg
			if object >= 1 && object <= 3 {
				want = api.OK
			}
			right(t, c, want)
		}
	}
}

func TestRightAtAllBounds(t *testing.T) {
	for _, object := range objects {
		right(t, api.Config{Object: object, Threads: 1, Cap: 1, Age: 1, Passes: 1}, api.OK)
		right(t, api.Config{Object: object, Threads: 64, Cap: 1000, Age: 1000, Passes: 1000, Plain: true}, api.OK)
	}
	right(t, api.Config{}, api.ErrArg)
	right(t, api.Config{Object: 4, Threads: 65, Cap: 1001, Age: 1001, Passes: 1001, Plain: true}, api.ErrArg)
}

// right checks what is wrong with a config, and that there is a world of it just if nothing is.
func right(t *testing.T, c api.Config, want api.Errno) {
	t.Helper()
	if got := Right(c); got != want {
		t.Errorf("Right of %+v is %v, not %v", c, got, want)
	}
	if w := New(c); (w != nil) != (want == api.OK) {
		t.Errorf("New of %+v is %v", c, w)
	}
}

func TestNew(t *testing.T) {
	for _, object := range objects {
		for _, n := range []int{1, 2, 3, 63, 64} {
			for _, plain := range plains {
				c := config(object, n)
				c.Plain = plain
				isNew(t, fresh(t, c), n)
			}
		}
	}
}

// isNew checks that nothing was done yet in a world of so many threads.
func isNew(t *testing.T, w *World, n int) {
	t.Helper()
	threads := make([]api.Thread, n)
	for id := range threads {
		threads[id].Id = id
	}
	alike(t, "Threads", w.Threads(), threads)
	want := record.Open(n)
	m := w.Memory()
	alike(t, "the cells", m.Cells(), []int64{0, 0, 0})
	alike(t, "how many steps there were", m.Steps(), want.Steps())
	if at, e := m.Alloc(5*n + 1); at != 0 || e != api.ErrRoom {
		t.Errorf("there is room for more than %d records: %d, %v", n, at, e)
	}
	if at, e := m.Alloc(5 * n); at != 3 || e != api.OK {
		t.Errorf("there is no room for %d records: %d, %v", n, at, e)
	}
	if l := w.Events(); len(l) != 0 {
		t.Errorf("there are events: %v", l)
	}
	if l := w.Log(); len(l) != 0 {
		t.Errorf("there is a log: %v", l)
	}
	if l := w.Picks(); len(l) != 0 {
		t.Errorf("there are picks: %v", l)
	}
	if l := w.Items(); len(l) != 0 {
		t.Errorf("there are items: %v", l)
	}
	for k := -1; k < 10; k++ {
		if l := w.Level(k); len(l) != 0 {
			t.Errorf("there are items at the level %d: %v", k, l)
		}
	}
}

// TestNewsObject checks that it is the one of the config, as nothing that a world tells says whether it is plain.
func TestNewsObject(t *testing.T) {
	for _, kind := range objects {
		for _, plain := range plains {
			w := fresh(t, api.Config{Object: kind, Threads: 1, Cap: 7, Age: 1, Passes: 1, Plain: plain})
			if !reflect.DeepEqual(w.object, object.New(kind, 7, plain)) || !reflect.DeepEqual(w.Copy().object, object.New(kind, 7, plain).Copy()) {
				t.Errorf("the object %d, plain %v, is another one", kind, plain)
			}
			if reflect.DeepEqual(w.object, object.New(kind, 7, !plain)) {
				t.Errorf("the object %d is the same, plain %v or not", kind, plain)
			}
		}
	}
}

// TestNewEach checks that each world is one of its own.
func TestNewEach(t *testing.T) {
	v, w := fresh(t, config(api.Stack, 2)), fresh(t, config(api.Stack, 2))
	does(t, v, call(1, api.Push, 7), draw(5))
	idle(t, v)
	isNew(t, w, 2)
}

// TestNumbers checks that a world's Cap, Age and Passes are those of its config.
func TestNumbers(t *testing.T) {
	for _, most := range []int{1, 2, 3} {
		c := config(api.Stack, 1)
		c.Cap = most
		w := fresh(t, c)
		for v := range int32(4) {
			does(t, w, call(0, api.Push, v))
			idle(t, w)
			want := uint8(api.Done)
			if int(v) >= most {
				want = api.Full
			}
			if l := w.Log(); l[v].Res != (api.Res{Code: want}) {
				t.Errorf("of %d at most, Push of %d is told %v", most, v, l[v].Res)
			}
		}
	}
	for _, passes := range []int{1, 2, 5, 1000} {
		c := config(api.Stack, 1)
		c.Passes = passes
		w := fresh(t, c)
		does(t, w, call(0, api.Push, 7))
		to(t, w, 0, api.PcSweep)
		if got, _ := w.Memory().Load(api.Pass); got != int64(min(passes, 2)) {
			t.Errorf("with %d passes at most there were %d", passes, got)
		}
	}
	for _, age := range []int{1, 2, 3, 1000} {
		c := config(api.Stack, 2)
		c.Age = age
		c.Passes = 1
		w := fresh(t, c)
		does(t, w, call(0, api.Push, 7))
		idle(t, w) // served in the pass 1
		for n := range 5 {
			does(t, w, call(1, api.Push, 8))
			idle(t, w)
			m := w.Memory()
			pass, _ := m.Load(api.Pass)
			active, _ := m.Load(w.Threads()[0].Rec + api.Active)
			alike(t, "PASS", pass, int64(n+2))
			alike(t, fmt.Sprintf("with an age of %d, in the pass %d, whether who was served in the first is off", age, pass), active == 0, n+1 > age)
		}
	}
}

func TestNil(t *testing.T) {
	var w *World
	for kind := range 256 {
		for _, id := range []int{-1, 0, 1} {
			if w.Do(api.Entry{Kind: uint8(kind), Thread: id, Op: op(1, 7), Bits: 5}) {
				t.Errorf("Do of the kind %d is true", kind)
			}
		}
	}
	if l := w.Threads(); len(l) != 0 {
		t.Errorf("Threads are %v", l)
	}
	if m := w.Memory(); m != nil {
		t.Errorf("Memory is %v", m)
	}
	if l := w.Events(); len(l) != 0 {
		t.Errorf("Events are %v", l)
	}
	if l := w.Log(); len(l) != 0 {
		t.Errorf("Log is %v", l)
	}
	if l := w.Picks(); len(l) != 0 {
		t.Errorf("Picks are %v", l)
	}
	if l := w.Items(); len(l) != 0 {
		t.Errorf("Items are %v", l)
	}
	for _, k := range []int{math.MinInt, -1, 0, 1, 8, 9, math.MaxInt} {
		if l := w.Level(k); len(l) != 0 {
			t.Errorf("Level of %d is %v", k, l)
		}
	}
	if c := w.Copy(); c != nil {
		t.Errorf("Copy is %v", c)
	}
}

// inTheMidst is a world of three threads of which one is idle, and has been told, one waits on the list, and one serves, with items gathered but not told.
func inTheMidst(t testing.TB, object uint8) *World {
	t.Helper()
	w := fresh(t, config(object, 3))
	does(t, w, draw(5), call(0, 1, 4))
	idle(t, w)
	does(t, w, call(1, 1, 7), call(2, 1, 6))
	to(t, w, 1, api.PcWait)
	to(t, w, 2, api.PcTell)
	return w
}

// TestWhatIsToldIsACopy writes all that is told, and what lies behind its length.
func TestWhatIsToldIsACopy(t *testing.T) {
	for _, object := range objects {
		w := inTheMidst(t, object)
		was := whole(w)
		for _, x := range w.Threads() {
			scribble(x.Batch)
		}
		scribble(w.Threads())
		scribble(w.Events())
		scribble(w.Log())
		scribble(w.Picks())
		scribble(w.Items())
		for k := range 10 {
			scribble(w.Level(k))
		}
		alike(t, "the world behind it", whole(w), was)
		does(t, w, pick(2), pick(2))
	}
}

// scribble writes over a list, and over what lies behind it in its memory.
func scribble[T any](l []T) {
	l = l[:cap(l)]
	for i := range l {
		v := reflect.ValueOf(&l[i]).Elem()
		if v.Kind() == reflect.Struct {
			v = v.Field(0)
		}
		if v.CanInt() {
			v.SetInt(99)
		} else {
			v.SetUint(99)
		}
	}
}

// TestWhatIsToldStays checks that what was told once does not change as the world goes on.
func TestWhatIsToldStays(t *testing.T) {
	for _, object := range objects {
		w := inTheMidst(t, object)
		threads, events, log, picks, items, level, m := w.Threads(), w.Events(), w.Log(), w.Picks(), w.Items(), w.Level(1), w.Memory()
		was := fmt.Sprint(threads, events, log, picks, items, level, m.Cells(), m.Steps())
		does(t, w, call(0, 2, 0))
		idle(t, w)
		alike(t, "what was told", fmt.Sprint(threads, events, log, picks, items, level, m.Cells(), m.Steps()), was)
	}
}

// TestNothingIsToldTwice checks that two calls' answers share nothing either.
func TestNothingIsToldTwice(t *testing.T) {
	w := inTheMidst(t, api.Heap)
	threads, events, log, picks := w.Threads(), w.Events(), w.Log(), w.Picks()
	was := fmt.Sprint(threads, events, log, picks)
	for _, x := range w.Threads() {
		scribble(x.Batch)
	}
	scribble(w.Threads())
	scribble(w.Events())
	scribble(w.Log())
	scribble(w.Picks())
	alike(t, "what was told", fmt.Sprint(threads, events, log, picks), was)
}

func TestMemoryIsACopy(t *testing.T) {
	w := inTheMidst(t, api.Deque)
	was := whole(w)
	m := w.Memory()
	for a := range m.Top() {
		m.Store(a, 99)
	}
	m.Alloc(1)
	alike(t, "the world behind it", whole(w), was)
	other := w.Memory()
	if slices.Equal(m.Cells(), other.Cells()) || m.Steps() == other.Steps() {
		t.Error("two that were told are one")
	}
	at, e := other.Load(api.Lock)
	alike(t, "LOCK", at, 3)
	alike(t, "its error", e, api.OK)
}

// TestAnEntryIsNotKept changes a list of entries behind their being done.
func TestAnEntryIsNotKept(t *testing.T) {
	l := append([]api.Entry{call(0, 1, 7), draw(3)}, picks(0, 20)...)
	was := slices.Clone(l)
	w := fresh(t, config(api.Heap, 1))
	does(t, w, l...)
	alike(t, "what was handed in", l, was)
	told := whole(w)
	for i := range l {
		l[i] = api.Entry{Kind: 9, Thread: 9, Op: op(9, 9), Bits: 9}
	}
	alike(t, "the world behind it", whole(w), told)
}

func TestCopy(t *testing.T) {
	for _, object := range objects {
		for _, plain := range plains {
			c := config(object, 3)
			c.Plain = plain
			l := drawn(71, c, 600)
			for at := 0; at <= len(l); at += 40 {
				w := fresh(t, c)
				for _, e := range l[:at] {
					w.Do(e)
				}
				for _, n := range []int{0, 1, 5, 30, 120, len(l)} {
					goesOnAlike(t, w.Copy(), l[at:min(at+n, len(l))])
					goesOnAlike(t, w, l[at:min(at+n, len(l))])
				}
			}
		}
	}
}

// goesOnAlike checks that a copy is the same, that neither knows of the other, whatever they do, and that both go on alike.
func goesOnAlike(t *testing.T, w *World, l []api.Entry) {
	t.Helper()
	c, d := w.Copy(), w.Copy()
	was := whole(w)
	alike(t, "the copy", whole(c), was)
	for _, e := range l {
		c.Do(e)
	}
	then := whole(c)
	if len(l) > 20 && then == was {
		t.Errorf("%v change nothing", l)
	}
	alike(t, "the world behind what the copy does", whole(w), was)
	for _, e := range slices.Backward(l) {
		d.Do(e)
	}
	alike(t, "the copy behind what another one does", whole(c), then)
	for _, e := range l {
		w.Do(e)
	}
	alike(t, "what the world goes on to", whole(w), then)
	w.Do(pick(9))
	does(t, w, draw(1))
	alike(t, "the copy behind what the world does", whole(c), then)
}
