package world

import (
	"reaper/api"
	"reaper/comb"
	"reaper/owner"
	"reaper/spec"
	"reaper/sweep"
	"reaper/word"
)

// nobody is who was picked where there was no step to take.
const nobody = -1

// kind is a kind of step: who takes it, and how.
type kind struct {
	takes func(t api.Thread) bool
	take  func(w *World, t *api.Thread)
}

// kinds are all. A thread that is not idle takes just one of them.
func kinds() [3]kind {
	return [3]kind{
		{takes: owner.Asks, take: (*World).ask},
		{takes: comb.Serves, take: (*World).serve},
		{takes: sweep.Sweeps, take: (*World).sweep},
	}
}

// call has a thread begin an operation.
func (w *World) call(id int, o api.Op) bool {
	t := w.thread(id)
	if t == nil {
		return false
	}
	x, begun := owner.Begin(*t, o)
	if !begun {
		return false
	}
	*t = x
	w.happens(api.Event{Kind: api.Invoke, Thread: x.Id, Seq: x.Seq, Op: o})
	return true
}

// pick has a thread take a step. The pick is counted behind it, as an event tells how many there were ahead of its own.
func (w *World) pick(id int) bool {
	t := w.thread(id)
	if t == nil || t.Pc == api.PcIdle {
		w.picks = append(w.picks, nobody)
		return false
	}
	w.step(t)
	w.picks = append(w.picks, id)
	return true
}

// step ends with the first kind that the thread takes: behind it, the thread may be one that takes another.
func (w *World) step(t *api.Thread) {
	for _, k := range kinds() {
		if k.takes(*t) {
			k.take(w, t)
			return
		}
	}
}

func (w *World) ask(t *api.Thread) {
	x, res, told := owner.Step(w.memory, *t)
	*t = x
	if told {
		w.happens(api.Event{Kind: api.Return, Thread: x.Id, Seq: x.Seq, Res: res})
	}
}

func (w *World) serve(t *api.Thread) {
	x, items := comb.Step(w.memory, w.object, w.config.Passes, *t)
	*t = x
	if len(items) > 0 {
		w.done(items)
	}
}

func (w *World) sweep(t *api.Thread) { *t = sweep.Step(w.memory, w.config.Age, *t) }

// thread is nil where there is no such thread.
func (w *World) thread(id int) *api.Thread {
	if id < 0 || id >= len(w.threads) {
		return nil
	}
	return &w.threads[id]
}

func (w *World) happens(e api.Event) {
	e.At = len(w.picks)
	w.events = append(w.events, e)
}

// done lays a batch behind the log. Its items stand as they were gathered; the log has them as the object's specification does them.
func (w *World) done(items []api.Item) {
	whose := w.owners()
	number := w.batches() + 1
	ops := make([]api.Op, len(items))
	for i, item := range items {
		ops[i], _ = word.OfOp(item.Word)
	}
	for _, i := range spec.Order(w.config.Object, ops) {
		t := whose[items[i].Rec]
		res, _ := word.OfRes(items[i].Res)
		w.log = append(w.log, api.Applied{Thread: t.Id, Seq: t.Seq, Op: ops[i], Res: res, Batch: number})
	}
}

// owners are the threads by their records. Who has none yet is not served.
func (w *World) owners() map[int]api.Thread {
	whose := make(map[int]api.Thread, len(w.threads))
	for _, t := range w.threads {
		whose[t.Rec] = t
	}
	return whose
}

// batches is how many were done: the last one's number, as each has one item at least.
func (w *World) batches() int {
	if len(w.log) == 0 {
		return 0
	}
	return w.log[len(w.log)-1].Batch
}
