package world

import (
	"fmt"
	"math"
	"testing"

	"reaper/api"
	"reaper/cells"
	"reaper/comb"
	"reaper/object"
	"reaper/owner"
	"reaper/sweep"
)

// nowhere are numbers of which no world of three threads has a thread; some would be one's if bits were cut off.
var nowhere = []int{-1, -2, -3, 3, 4, 63, 64, 65, 1 << 8, 1<<16 + 1, 1 << 32, 1<<32 + 2, math.MaxInt, math.MaxInt - 1, math.MinInt, math.MinInt + 1}

// nothing checks that an entry does nothing; what it does to the picks is asked elsewhere.
func nothing(t *testing.T, w *World, e api.Entry) {
	t.Helper()
	was := seen(w)
	if w.Do(e) {
		t.Errorf("Do of %+v is true", e)
	}
	alike(t, fmt.Sprintf("the world behind %+v", e), seen(w), was)
}

func TestCallOfEachThread(t *testing.T) {
	for _, object := range objects {
		w := fresh(t, config(object, 3))
		var events []api.Event
		threads := w.Threads()
		for i, id := range []int{2, 0, 1} {
			does(t, w, api.Entry{Kind: api.Call, Thread: id, Op: op(1, 7), Bits: 255})
			events = append(events, api.Event{Kind: api.Invoke, Thread: id, Seq: 1, Op: op(1, 7), At: i})
			threads[id] = api.Thread{Id: id, Pc: api.PcAlloc, Seq: 1, Word: 549755815682}
			alike(t, "Threads", w.Threads(), threads)
			alike(t, "Events", w.Events(), events)
			w.Do(pick(9))
		}
		alike(t, "the cells", w.Memory().Cells(), []int64{0, 0, 0})
		alike(t, "Items", w.Items(), nil)
		alike(t, "Log", w.Log(), nil)
		alike(t, "Picks", w.Picks(), []int{-1, -1, -1})
	}
}

func TestCallOfNoThread(t *testing.T) {
	for _, w := range []*World{fresh(t, config(api.Stack, 3)), inTheMidst(t, api.Heap)} {
		was := w.Picks()
		for _, id := range nowhere {
			nothing(t, w, call(id, 1, 7))
		}
		alike(t, "Picks", w.Picks(), was)
	}
}

// TestCallOfWhoAsksAlready calls a thread at each place that it comes to, till it is told. Only then it begins anew, and keeps its record.
func TestCallOfWhoAsksAlready(t *testing.T) {
	w := fresh(t, config(api.Stack, 2))
	does(t, w, call(1, api.Push, 7))
	places := 0
	for w.Threads()[1].Pc != api.PcIdle {
		was := w.Picks()
		nothing(t, w, call(1, api.Push, 8))
		nothing(t, w, call(1, api.Pop, 0))
		alike(t, "Picks", w.Picks(), was)
		does(t, w, pick(1))
		places++
	}
	alike(t, "how many steps it took", places, 35)
	does(t, w, call(1, api.Pop, 0))
	x := w.Threads()[1]
	alike(t, "Seq, Rec and Pc", []int{x.Seq, x.Rec, x.Pc}, []int{2, 3, api.PcPublish})
	alike(t, "its event", w.Events()[2], api.Event{Kind: api.Invoke, Thread: 1, Seq: 2, Op: op(api.Pop, 0), At: 35})
}

// TestCallOfEachKind has every kind of operation asked, with each value that is at an end of something.
func TestCallOfEachKind(t *testing.T) {
	for _, object := range objects {
		for kind := range 256 {
			for _, v := range []int32{math.MinInt32, math.MinInt32 + 1, -1, 0, 1, math.MaxInt32 - 1, math.MaxInt32} {
				asked(t, object, op(uint8(kind), v))
			}
		}
	}
}

// asked checks what an operation comes to, of a world without items.
func asked(t *testing.T, object uint8, o api.Op) {
	t.Helper()
	w := fresh(t, config(object, 1))
	does(t, w, api.Entry{Kind: api.Call, Op: o})
	alike(t, "Events", w.Events(), []api.Event{{Kind: api.Invoke, Seq: 1, Op: o}})
	idle(t, w)
	res, items := api.Res{Code: api.Bad}, []int32(nil)
	switch puts, takes := o.Kind == 1 || object == api.Deque && o.Kind == 2, o.Kind == 2 || object == api.Deque && (o.Kind == 3 || o.Kind == 4); {
	case puts:
		res, items = api.Res{Code: api.Done}, []int32{o.Val}
	case takes:
		res = api.Res{Code: api.Empty}
	}
	what := fmt.Sprintf(" behind %+v of the object %d", o, object)
	alike(t, "Log"+what, w.Log(), []api.Applied{{Seq: 1, Op: o, Res: res, Batch: 1}})
	alike(t, "Events"+what, w.Events()[1:], []api.Event{{Kind: api.Return, Seq: 1, Res: res, At: w.Events()[1].At}})
	alike(t, "Items"+what, w.Items(), items)
}

func TestPickOfNoThread(t *testing.T) {
	for _, w := range []*World{fresh(t, config(api.Stack, 3)), inTheMidst(t, api.Heap)} {
		want := w.Picks()
		for _, id := range nowhere {
			nothing(t, w, pick(id))
			want = append(want, -1)
			alike(t, "Picks", w.Picks(), want)
		}
	}
}

func TestPickOfWhoIsIdle(t *testing.T) {
	w := fresh(t, config(api.Stack, 3))
	for id := range 3 {
		nothing(t, w, pick(id))
	}
	alike(t, "Picks", w.Picks(), []int{-1, -1, -1})
	w = inTheMidst(t, api.Deque)
	want := append(w.Picks(), -1, -1)
	nothing(t, w, pick(0))
	nothing(t, w, pick(0))
	alike(t, "Picks", w.Picks(), want)
}

// stepped is what a step of a thread comes to, at a memory and an object of its own, by the layer that its place is of.
func stepped(t *testing.T, c api.Config, m *cells.Memory, o *object.Object, x api.Thread) (api.Thread, api.Res, bool) {
	t.Helper()
	switch {
	case x.Pc >= 1 && x.Pc <= 16:
		return owner.Step(m, x)
	case x.Pc >= 20 && x.Pc <= 39:
		x, _ = comb.Step(m, o, c.Passes, x)
		return x, api.Res{}, false
	case x.Pc >= 40 && x.Pc <= 48:
		return sweep.Step(m, c.Age, x), api.Res{}, false
	}
	t.Fatalf("%+v is at no place", x)
	return x, api.Res{}, false
}

// TestPickOfEachPlace picks threads one by one, so that each of them asks, serves and sweeps, and checks each step.
func TestPickOfEachPlace(t *testing.T) {
	for _, kind := range objects {
		c := api.Config{Object: kind, Threads: 3, Cap: 2, Age: 1, Passes: 2}
		w := fresh(t, c)
		o := object.New(kind, 2, false)
		places := map[int]bool{}
		for turn := range 12 {
			id := turn % 2
			if turn == 11 {
				id = 2
			}
			does(t, w, call(id, 1+uint8(turn)%3, int32(turn)))
			for w.Threads()[id].Pc != api.PcIdle {
				threads, events, picks, m := w.Threads(), w.Events(), w.Picks(), w.Memory()
				places[threads[id].Pc] = true
				x, res, told := stepped(t, c, m, o, threads[id])
				does(t, w, api.Entry{Kind: api.Pick, Thread: id, Op: op(1, 1), Bits: 1})
				if threads[id] = x; told {
					events = append(events, api.Event{Kind: api.Return, Thread: id, Seq: x.Seq, Res: res, At: len(picks)})
				}
				alike(t, "Threads", w.Threads(), threads)
				alike(t, "Events", w.Events(), events)
				alike(t, "Picks", w.Picks(), append(picks, id))
				alike(t, "the cells", w.Memory().Cells(), m.Cells())
				alike(t, "how many steps there were", w.Memory().Steps(), m.Steps())
				alike(t, "Items", w.Items(), o.Items())
			}
		}
		for _, pc := range []int{1, 2, 3, 4, 5, 6, 7, 8, 9, 10, 11, 12, 13, 14, 15, 20, 21, 22, 23, 33, 34, 35, 36, 37, 38, 39, 40, 41, 42, 43, 44, 45, 46, 47, 48} {
			if !places[pc] {
				t.Errorf("nobody came to %d: %v", pc, places)
			}
		}
	}
}

// TestEvents has two threads ask, be told, and ask again, with picks of nobody in between.
func TestEvents(t *testing.T) {
	w := fresh(t, config(api.Stack, 2))
	does(t, w, call(1, api.Push, 7)) // at 0
	to(t, w, 1, api.PcWait)          // 9 picks
	w.Do(pick(9))
	does(t, w, call(0, api.Pop, 3)) // at 10
	to(t, w, 0, api.PcRead)         // it serves both
	ahead := len(w.Picks())
	does(t, w, pick(0))
	w.Do(pick(0)) // it is idle
	to(t, w, 1, api.PcRead)
	does(t, w, pick(1), call(1, api.Pop, 0))
	behind := len(w.Picks())
	alike(t, "Events", w.Events(), []api.Event{
		{Kind: api.Invoke, Thread: 1, Seq: 1, Op: op(api.Push, 7), At: 0},
		{Kind: api.Invoke, Thread: 0, Seq: 1, Op: op(api.Pop, 3), At: 10},
		{Kind: api.Return, Thread: 0, Seq: 1, Res: api.Res{Code: api.Empty}, At: ahead}, // it is first on the list
		{Kind: api.Return, Thread: 1, Seq: 1, Res: api.Res{Code: api.Done}, At: ahead + 3},
		{Kind: api.Invoke, Thread: 1, Seq: 2, Op: op(api.Pop, 0), At: behind},
	})
	alike(t, "how many picks there were", behind, ahead+4)
}

// together has each of some operations asked by a thread of its own, so that they stand on the list in order, and has the first thread serve them in one batch.
func together(t *testing.T, w *World, ops ...api.Op) {
	t.Helper()
	for id := len(ops) - 1; id >= 0; id-- {
		does(t, w, api.Entry{Kind: api.Call, Thread: id, Op: ops[id]})
		to(t, w, id, api.PcWait)
	}
	to(t, w, 0, api.PcSweep)
}

// line is one of a log.
func line(id, seq int, o api.Op, code uint8, val int32, batch int) api.Applied {
	return api.Applied{Thread: id, Seq: seq, Op: o, Res: api.Res{Code: code, Val: val}, Batch: batch}
}

func TestLogOfOneBatch(t *testing.T) {
	for _, plain := range plains {
		for _, c := range []struct {
			object uint8
			most   int
			ops    []api.Op
			want   []api.Applied
			items  []int32
		}{
			{api.Stack, 4, []api.Op{op(1, 7)}, []api.Applied{line(0, 1, op(1, 7), api.Done, 0, 1)}, []int32{7}},
			{api.Stack, 1, []api.Op{op(1, 7), op(1, 8), op(2, 5), op(9, 6), op(2, 4)}, []api.Applied{
				line(0, 1, op(1, 7), api.Done, 0, 1), line(1, 1, op(1, 8), api.Full, 0, 1), line(2, 1, op(2, 5), api.Got, 7, 1), line(3, 1, op(9, 6), api.Bad, 0, 1), line(4, 1, op(2, 4), api.Empty, 0, 1),
			}, nil},
			{api.Deque, 2, []api.Op{op(1, 7), op(2, 8), op(1, 9), op(4, 0), op(3, 0), op(3, 0)}, []api.Applied{
				line(0, 1, op(1, 7), api.Done, 0, 1), line(1, 1, op(2, 8), api.Done, 0, 1), line(2, 1, op(1, 9), api.Full, 0, 1), line(3, 1, op(4, 0), api.Got, 8, 1), line(4, 1, op(3, 0), api.Got, 7, 1), line(5, 1, op(3, 0), api.Empty, 0, 1),
			}, nil},
			{api.Deque, 4, []api.Op{op(2, 8), op(1, 7), op(5, 3), op(0, 3)}, []api.Applied{
				line(0, 1, op(2, 8), api.Done, 0, 1), line(1, 1, op(1, 7), api.Done, 0, 1), line(2, 1, op(5, 3), api.Bad, 0, 1), line(3, 1, op(0, 3), api.Bad, 0, 1),
			}, []int32{7, 8}},
			{api.Heap, 3, []api.Op{op(2, 6), op(1, 9), op(3, 0), op(1, 5), op(1, 7), op(2, 6), op(1, 5), op(1, -1)}, []api.Applied{
				line(7, 1, op(1, -1), api.Done, 0, 1), line(3, 1, op(1, 5), api.Done, 0, 1), line(6, 1, op(1, 5), api.Done, 0, 1), line(4, 1, op(1, 7), api.Full, 0, 1), line(1, 1, op(1, 9), api.Full, 0, 1),
				line(0, 1, op(2, 6), api.Got, -1, 1), line(2, 1, op(3, 0), api.Bad, 0, 1), line(5, 1, op(2, 6), api.Got, 5, 1),
			}, []int32{5}},
		} {
			w := fresh(t, api.Config{Object: c.object, Threads: len(c.ops), Cap: c.most, Age: 2, Passes: 2, Plain: plain})
			together(t, w, c.ops...)
			alike(t, "Log", w.Log(), c.want)
			alike(t, "Items", w.Items(), c.items)
		}
	}
}

// TestLogOfSomeBatches checks whose each of the log is, and the batches' numbers: a pass in which nobody waits has none.
func TestLogOfSomeBatches(t *testing.T) {
	for _, plain := range plains {
		c := config(api.Heap, 4)
		c.Plain = plain
		w := fresh(t, c)
		does(t, w, call(3, api.Add, 9))
		to(t, w, 3, api.PcDo)
		alike(t, "Log", w.Log(), nil)
		does(t, w, pick(3))
		want := []api.Applied{line(3, 1, op(api.Add, 9), api.Done, 0, 1)}
		alike(t, "Log", w.Log(), want)
		idle(t, w)
		alike(t, "Log behind a pass of none", w.Log(), want)
		pass, _ := w.Memory().Load(api.Pass)
		alike(t, "PASS", pass, 2)
		does(t, w, call(3, api.Min, 0)) // off the list no more, and its second
		to(t, w, 3, api.PcWait)
		together(t, w, op(api.Min, 1), op(api.Add, 5), op(api.Add, 4))
		want = append(want,
			line(2, 1, op(api.Add, 4), api.Done, 0, 2), line(1, 1, op(api.Add, 5), api.Done, 0, 2),
			line(0, 1, op(api.Min, 1), api.Got, 4, 2), line(3, 2, op(api.Min, 0), api.Got, 5, 2))
		alike(t, "Log", w.Log(), want)
		idle(t, w)
		does(t, w, call(1, 7, 7))
		idle(t, w)
		want = append(want, line(1, 2, op(7, 7), api.Bad, 0, 3))
		alike(t, "Log", w.Log(), want)
		alike(t, "Items", w.Items(), []int32{9})
	}
}

// TestLogOfASecondPass has one thread come while another serves, and be served in the next pass.
func TestLogOfASecondPass(t *testing.T) {
	w := fresh(t, config(api.Stack, 2))
	does(t, w, call(0, api.Push, 7))
	to(t, w, 0, api.PcTell)
	does(t, w, call(1, api.Pop, 0))
	to(t, w, 1, api.PcWait)
	to(t, w, 0, api.PcSweep)
	alike(t, "Log", w.Log(), []api.Applied{line(0, 1, op(api.Push, 7), api.Done, 0, 1), line(1, 1, op(api.Pop, 0), api.Got, 7, 2)})
	alike(t, "Events", len(w.Events()), 2)
}

// TestDraw checks that the heights of a heap are told by the bits that were drawn, in order, and that a stack and a deque take them as well.
func TestDraw(t *testing.T) {
	for _, object := range objects {
		for _, plain := range plains {
			c := config(object, 3)
			c.Plain = plain
			w := fresh(t, c)
			was := seen(w)
			for _, bits := range []uint8{0, 1, 255} {
				does(t, w, api.Entry{Kind: api.Draw, Thread: -5, Op: op(1, 1), Bits: bits})
			}
			alike(t, "what a draw leaves", seen(w), was)
			alike(t, "Picks", w.Picks(), nil)
		}
	}
	for _, c := range []struct {
		bits  []uint8
		level [][]int32 // from 1 on
	}{
		{nil, [][]int32{{3, 5, 9}, nil}},
		{[]uint8{0}, [][]int32{{3, 5, 9}, nil}},
		{[]uint8{5}, [][]int32{{3, 5, 9}, {3, 5}, nil}},
		{[]uint8{6}, [][]int32{{3, 5, 9}, {5}, {5}, nil}},
		{[]uint8{128, 3}, [][]int32{{3, 5, 9}, nil}},
		{[]uint8{3, 2}, [][]int32{{3, 5, 9}, {3}, {3}, nil}},
		{[]uint8{255, 1}, [][]int32{{3, 5, 9}, {3, 5}, {3, 5}, {3}, {3}, {3}, {3}, {3}, nil}},
		{[]uint8{255, 255, 255}, [][]int32{{3, 5, 9}, {3, 5, 9}, {3, 5, 9}, {3, 5, 9}, {3, 5, 9}, {3, 5, 9}, {3, 5, 9}, {3, 5, 9}, nil}},
	} {
		for _, plain := range plains {
			w := fresh(t, api.Config{Object: api.Heap, Threads: 3, Cap: 4, Age: 2, Passes: 2, Plain: plain})
			for _, bits := range c.bits {
				does(t, w, draw(bits))
			}
			together(t, w, op(api.Add, 9), op(api.Add, 3), op(api.Add, 5))
			for k, want := range c.level {
				alike(t, fmt.Sprintf("the level %d, of %v", k+1, c.bits), w.Level(k+1), want)
			}
		}
	}
}

// TestDrawOfEachBits counts the bits that a heap was told by the items that come to the second level.
func TestDrawOfEachBits(t *testing.T) {
	for bits := range 256 {
		c := config(api.Heap, 1)
		c.Cap = 9
		w := fresh(t, c)
		coin := object.New(api.Heap, 9, false)
		does(t, w, draw(uint8(bits)))
		coin.Feed(uint8(bits))
		for range 9 {
			does(t, w, call(0, api.Add, 1))
			idle(t, w)
			coin.Do(op(api.Add, 1))
		}
		for k := range 10 {
			alike(t, fmt.Sprintf("the level %d of %d", k, bits), w.Level(k), coin.Level(k))
		}
	}
}

func TestOtherKinds(t *testing.T) {
	for _, w := range []*World{fresh(t, config(api.Stack, 3)), inTheMidst(t, api.Heap)} {
		was := w.Picks()
		for kind := range 256 {
			if kind >= api.Call && kind <= api.Draw {
				continue
			}
			for _, id := range []int{-1, 0, 1, 2, 3} {
				nothing(t, w, api.Entry{Kind: uint8(kind), Thread: id, Op: op(1, 7), Bits: 255})
			}
		}
		alike(t, "Picks", w.Picks(), was)
		does(t, w, call(0, 1, 3))
		idle(t, w)
	}
}

// TestItems checks that they stand as each object has them.
func TestItems(t *testing.T) {
	for _, plain := range plains {
		for _, c := range []struct {
			object uint8
			kinds  []uint8
			want   []int32
		}{
			{api.Stack, []uint8{1, 1, 1, 2, 1}, []int32{5, 3, 4}},
			{api.Deque, []uint8{1, 2, 1, 4, 1}, []int32{4, 1, 5}},
			{api.Deque, []uint8{1, 2, 1, 3, 2}, []int32{5, 3, 4}},
			{api.Heap, []uint8{1, 1, 1, 2, 1}, []int32{3, 4, 5}},
		} {
			conf := config(c.object, 1)
			conf.Plain = plain
			w := fresh(t, conf)
			does(t, w, draw(255), draw(255))
			for i, v := range []int32{5, 3, 1, 9, 4} {
				does(t, w, call(0, c.kinds[i], v))
				idle(t, w)
			}
			alike(t, "Items", w.Items(), c.want)
			levels(t, w, c.object == api.Heap)
		}
	}
}

// levels checks which levels have items: of a heap whose heights are 8, 8, 1 and so on, of which the first three rise, those of the first two.
func levels(t *testing.T, w *World, heap bool) {
	t.Helper()
	for _, k := range []int{math.MinInt, -1, 0, 1, 2, 3, 7, 8, 9, 10, 1 << 8, 1<<32 + 1, math.MaxInt} {
		want := []int32(nil)
		switch {
		case heap && k == 1:
			want = []int32{3, 4, 5}
		case heap && k >= 2 && k <= 8:
			want = []int32{3, 5}
		}
		alike(t, fmt.Sprintf("the level %d", k), w.Level(k), want)
	}
}

// TestTheSameScript has the same entries done in two worlds at once, and in a third behind them.
func TestTheSameScript(t *testing.T) {
	for _, object := range objects {
		for _, plain := range plains {
			c := config(object, 4)
			c.Plain = plain
			l := drawn(31, c, 1500)
			v, w, x := fresh(t, c), fresh(t, c), fresh(t, c)
			var did []bool
			for _, e := range l {
				is := v.Do(e)
				if w.Do(e) != is {
					t.Fatalf("%+v does something in one of two worlds", e)
				}
				did = append(did, is)
			}
			for i, e := range l {
				if x.Do(e) != did[i] {
					t.Fatalf("%+v does something in one of two worlds", e)
				}
			}
			alike(t, "the same script, at once", whole(w), whole(v))
			alike(t, "the same script, behind it", whole(x), whole(v))
		}
	}
}
