package world

import (
	"fmt"
	"slices"
	"testing"

	"reaper/api"
	"reaper/cells"
	"reaper/comb"
	"reaper/object"
	"reaper/owner"
	"reaper/record"
	"reaper/script"
	"reaper/spec"
	"reaper/sweep"
	"reaper/word"
)

// chapter is a world as the chapter's text has it.
type chapter struct {
	c       api.Config
	m       *cells.Memory
	o       *object.Object
	threads []api.Thread
	events  []api.Event
	log     []api.Applied
	picks   []int
	batches int
}

func written(c api.Config) *chapter {
	x := &chapter{c: c, m: record.Open(c.Threads), o: object.New(c.Object, c.Cap, c.Plain)}
	for id := range c.Threads {
		x.threads = append(x.threads, api.Thread{Id: id})
	}
	return x
}

func (c *chapter) do(e api.Entry) bool {
	there := e.Thread >= 0 && e.Thread < c.c.Threads
	switch e.Kind {
	case 1:
		if !there {
			return false
		}
		x, is := owner.Begin(c.threads[e.Thread], e.Op)
		if is {
			c.threads[e.Thread] = x
			c.events = append(c.events, api.Event{Kind: 1, Thread: e.Thread, Seq: x.Seq, Op: e.Op, At: len(c.picks)})
		}
		return is
	case 2:
		if !there || c.threads[e.Thread].Pc == 0 {
			c.picks = append(c.picks, -1)
			return false
		}
		c.picks = append(c.picks, e.Thread)
		c.step(e.Thread)
		return true
	case 3:
		c.o.Feed(e.Bits)
		return true
	}
	return false
}

func (c *chapter) step(id int) {
	switch x := c.threads[id]; {
	case x.Pc <= 16:
		y, res, told := owner.Step(c.m, x)
		c.threads[id] = y
		if told {
			c.events = append(c.events, api.Event{Kind: 2, Thread: id, Seq: x.Seq, Res: res, At: len(c.picks) - 1})
		}
	case x.Pc <= 39:
		y, items := comb.Step(c.m, c.o, c.c.Passes, x)
		c.threads[id] = y
		c.done(items)
	default:
		c.threads[id] = sweep.Step(c.m, c.c.Age, x)
	}
}

func (c *chapter) done(items []api.Item) {
	if len(items) == 0 {
		return
	}
	c.batches++
	var ops []api.Op
	var each []api.Applied
	for _, i := range items {
		o, _ := word.OfOp(i.Word)
		res, _ := word.OfRes(i.Res)
		ops = append(ops, o)
		for _, x := range c.threads {
			if x.Rec == i.Rec {
				each = append(each, api.Applied{Thread: x.Id, Seq: x.Seq, Op: o, Res: res, Batch: c.batches})
			}
		}
	}
	for _, i := range spec.Order(c.c.Object, ops) {
		c.log = append(c.log, each[i])
	}
}

// whole is all that a chapter's world comes to, as whole tells of a world.
func (c *chapter) whole() string {
	s := fmt.Sprint(c.threads, c.m.Cells(), c.m.Steps(), c.events, c.log, c.o.Items())
	for k := -1; k <= api.MaxLevel+1; k++ {
		s += fmt.Sprint(c.o.Level(k))
	}
	return s + fmt.Sprint(c.picks)
}

// draws tells numbers, the same ones each time.
type draws uint64

func (d *draws) below(n int) int {
	*d = *d*6364136223846793005 + 1442695040888963407
	return int(uint64(*d) >> 33 % uint64(n))
}

// op is an operation, seldom one that an object has not.
func (d *draws) op() api.Op {
	kind := 1 + d.below(2)
	switch d.below(12) {
	case 0:
		kind = d.below(256)
	case 1, 2, 3:
		kind = 1 + d.below(4)
	}
	return op(uint8(kind), int32(d.below(9)-4))
}

// entry is one of a world of so many threads: most are picks; some are wrong.
func (d *draws) entry(n int) api.Entry {
	e := api.Entry{Kind: api.Pick, Thread: d.below(n)}
	switch d.below(40) {
	case 0:
		e = api.Entry{Kind: uint8(d.below(256)), Thread: d.below(n+4) - 2, Op: d.op(), Bits: uint8(d.below(256))}
	case 1:
		e = draw(uint8(d.below(256)))
	case 2, 3, 4, 5:
		e.Kind, e.Op = api.Call, d.op()
	case 6:
		e.Thread = d.below(n+4) - 2
	}
	return e
}

// drawn is a script for a world, of which one thread is seldom picked, and some are picked for a while alone.
func drawn(seed uint64, c api.Config, n int) []api.Entry {
	d := draws(seed)
	var l []api.Entry
	for len(l) < n {
		lazy, eager := d.below(c.Threads), d.below(c.Threads)
		for range 1 + d.below(120) {
			e := d.entry(c.Threads)
			if e.Kind == api.Pick && e.Thread == lazy && d.below(4) != 0 {
				e.Thread = eager
			}
			l = append(l, e)
		}
	}
	return l[:n]
}

// asChapter does a script in a world and in one as the chapter has it, and checks that they are the same.
func asChapter(t *testing.T, c api.Config, l []api.Entry, often int) {
	t.Helper()
	w, x := fresh(t, c), written(c)
	for i, e := range l {
		if is, want := w.Do(e), x.do(e); is != want {
			t.Fatalf("%+v: Do of %+v, the entry %d, is %v", c, e, i, is)
		}
		if (i+1)%often != 0 && i+1 != len(l) {
			continue
		}
		if got, want := whole(w), x.whole(); got != want {
			t.Fatalf("%+v: behind %+v, the entry %d, it is\n%s, not\n%s", c, e, i, got, want)
		}
	}
}

// configs are some of each object, plain and not, of more and more threads.
func configs(seed uint64, n int) []api.Config {
	d := draws(seed)
	var l []api.Config
	for i := range n {
		l = append(l, api.Config{
			Object: 1 + uint8(i)%3, Plain: i/3%2 == 0, Threads: 1 + i/6%9,
			Cap: 1 + d.below(1+d.below(8)), Age: 1 + d.below(4), Passes: 1 + d.below(4),
		})
	}
	return l
}

func TestAsTheChapterHasIt(t *testing.T) {
	for i, c := range configs(11, 108) {
		asChapter(t, c, drawn(uint64(i), c, 700), 5)
	}
}

// TestAsTheChapterHasItOfMany has as many threads as there may be, and a script that is as long as one may be.
func TestAsTheChapterHasItOfMany(t *testing.T) {
	for _, object := range objects {
		c := api.Config{Object: object, Threads: 64, Cap: 20, Age: 1, Passes: 3}
		asChapter(t, c, drawn(7, c, api.MaxScript), 2500)
		c.Cap, c.Age, c.Passes, c.Plain = 1000, 1000, 1000, true
		asChapter(t, c, drawn(8, c, api.MaxScript), 5000)
	}
}

func FuzzDo(f *testing.F) {
	f.Add([]byte{0, 0, 3, 1, 1}, []byte{1, 0, 1, 7, 2, 0, 0, 0, 3, 0, 0, 5})
	f.Add([]byte{2, 2, 1, 0, 1}, slices.Repeat([]byte{1, 0, 1, 7, 1, 1, 2, 3, 2, 1, 0, 0, 2, 0, 0, 0}, 50))
	f.Add([]byte{8, 1, 0, 0, 0}, slices.Repeat([]byte{1, 0, 1, 7, 2, 1, 0, 0, 2, 0, 0, 0, 2, 2, 0, 0}, 50))
	f.Fuzz(func(t *testing.T, numbers, b []byte) {
		if len(numbers) < 5 || len(b) > 4*1000 {
			return
		}
		c := api.Config{
			Object: 1 + numbers[0]%3, Plain: numbers[0]/3%2 == 1, Threads: 1 + int(numbers[1])%64,
			Cap: 1 + int(numbers[2]), Age: 1 + int(numbers[3]), Passes: 1 + int(numbers[4]),
		}
		l := script.Decode(b)
		asChapter(t, c, l, 1+len(l)/10)
	})
}
