package history

import (
	"fmt"
	"slices"
	"testing"

	"reaper/api"
	"reaper/spec"
)

// spansAs is Spans as the chapter says it: each event behind an Invoke is looked at.
func spansAs(l []api.Event) []api.Span {
	var all []api.Span
	for i, e := range l {
		if e.Kind != 1 {
			continue
		}
		s := api.Span{Thread: e.Thread, Seq: e.Seq, Op: e.Op, From: e.At, To: -1}
		for _, r := range l[i+1:] {
			if r.Kind == 2 && r.Thread == e.Thread && r.Seq == e.Seq {
				s.To, s.Res = r.At, r.Res
				break
			}
		}
		all = append(all, s)
	}
	return all
}

func beforeAs(a, b api.Span) bool { return a.To >= 0 && a.To < b.From }

// isOf says whether one of a log is a span.
func isOf(a api.Applied, s api.Span) bool {
	return a.Thread == s.Thread && a.Seq == s.Seq && a.Op == s.Op
}

// firstOf is the first span that one of a log is.
func firstOf(a api.Applied, l []api.Span) (api.Span, bool) {
	i := slices.IndexFunc(l, func(s api.Span) bool { return isOf(a, s) })
	if i < 0 {
		return api.Span{}, false
	}
	return l[i], true
}

func twiceAs(log []api.Applied) bool {
	for i, a := range log {
		for _, b := range log[:i] {
			if a.Thread == b.Thread && a.Seq == b.Seq {
				return true
			}
		}
	}
	return false
}

func lostAs(l []api.Span, log []api.Applied) bool {
	for _, a := range log {
		if _, is := firstOf(a, l); !is {
			return true
		}
	}
	for _, s := range l {
		if s.To >= 0 && !slices.ContainsFunc(log, func(a api.Applied) bool { return isOf(a, s) }) {
			return true
		}
	}
	return false
}

func disordered(l []api.Span, log []api.Applied) bool {
	for i, a := range log {
		for _, b := range log[i+1:] {
			own, _ := firstOf(a, l)
			other, _ := firstOf(b, l)
			if beforeAs(other, own) {
				return true
			}
		}
	}
	return false
}

func toldOtherwise(object uint8, most int, l []api.Span, log []api.Applied) bool {
	var items []int32
	for _, a := range log {
		var res api.Res
		items, res = spec.Apply(object, most, items, a.Op)
		s, _ := firstOf(a, l)
		if res != a.Res || s.To >= 0 && res != s.Res {
			return true
		}
	}
	return false
}

// checkAs is Check as the chapter says it: each is asked against each.
func checkAs(object uint8, most int, l []api.Span, log []api.Applied) api.Errno {
	switch {
	case twiceAs(log):
		return api.ErrTwice
	case lostAs(l, log):
		return api.ErrLost
	case disordered(l, log):
		return api.ErrOrder
	case toldOtherwise(object, most, l, log):
		return api.ErrTold
	}
	return api.OK
}

// draws tells numbers, the same ones each time.
type draws uint64

func (d *draws) below(n int) int {
	*d = *d*6364136223846793005 + 1442695040888963407
	return int(uint64(*d) >> 33 % uint64(n))
}

// event is one of few names and times, so that many of them have to do with one another.
func (d *draws) event() api.Event {
	return api.Event{
		Kind: uint8(d.below(4)), Thread: d.below(2), Seq: d.below(2), At: d.below(9) - 2,
		Op: op(uint8(d.below(3)), int32(d.below(3))), Res: api.Res{Code: uint8(d.below(6)), Val: int32(d.below(2))},
	}
}

func TestSpansOfWhateverEvents(t *testing.T) {
	d := draws(19)
	for range 30000 {
		l := make([]api.Event, d.below(12))
		for i := range l {
			l[i] = d.event()
		}
		spans(t, "drawn", l, spansAs(l)...)
	}
}

// history is a log of an object, one behind the other, and the spans of it: some are wide enough that others take place at once.
func (d *draws) history(object uint8, most int) ([]api.Span, []api.Applied) {
	n, wide := d.below(6), 1+d.below(7)
	var s []api.Span
	var log []api.Applied
	var items []int32
	for i := range n {
		o := op(uint8(1+d.below(4)), int32(d.below(3)))
		var res api.Res
		items, res = spec.Apply(object, most, items, o)
		a := applied(d.below(2), i, o, res)
		log = append(log, a)
		s = append(s, span(a.Thread, a.Seq, o, res, max(0, 4*i-d.below(2*wide)), 4*i+1+d.below(2*wide)))
	}
	return s, log
}

// harm changes something of a history, or nothing that counts.
func (d *draws) harm(s []api.Span, log []api.Applied) ([]api.Span, []api.Applied) {
	if len(log) == 0 || len(s) == 0 {
		return append(s, span(0, d.below(2), op(1, 7), done, 0, d.below(3)-1)), log
	}
	i, j, k := d.below(len(log)), d.below(len(log)), d.below(len(s))
	switch d.below(12) {
	case 0:
		log[i], log[j] = log[j], log[i]
	case 1:
		log[i].Res.Code = uint8(d.below(6))
	case 2:
		s[k].Res.Val ^= 1
	case 3:
		s[k].To = -1
		s[k].Res = nothing
	case 4:
		log = slices.Delete(log, i, i+1)
	case 5:
		s = slices.Delete(s, k, k+1)
	case 6:
		log[i].Op.Val ^= 1
	case 7:
		log[i].Seq = log[j].Seq
	case 8:
		s = slices.Insert(s, d.below(len(s)+1), s[k])
		s[d.below(len(s))].To += d.below(9) - 4
	case 9:
		s[k].From += d.below(9) - 4
	case 10:
		log = slices.Insert(log, j, log[i])
	case 11:
		s[k].Thread, s[k].Op.Kind = 1-s[k].Thread, uint8(d.below(5))
	}
	return s, log
}

// TestCheckOfWhateverHistory checks right histories, and those to which something was done, and that each error was met often enough.
func TestCheckOfWhateverHistory(t *testing.T) {
	d := draws(91)
	met := map[api.Errno]int{}
	for round := range 90000 {
		object, most := uint8(1+round%3), d.below(4)
		s, log := d.history(object, most)
		if want := checkAs(object, most, s, log); want != api.OK {
			t.Fatalf("a history that took place is told %d: %+v, %+v", want, s, log)
		}
		checksOf(t, "it took place", object, most, s, log, api.OK)
		for range 1 + d.below(3) {
			s, log = d.harm(s, log)
			want := checkAs(object, most, s, log)
			checksOf(t, "drawn", object, most, s, log, want)
			met[want]++
		}
		if t.Failed() {
			return
		}
	}
	for _, e := range []api.Errno{api.OK, api.ErrTwice, api.ErrLost, api.ErrOrder, api.ErrTold} {
		if met[e] < 2000 {
			t.Errorf("%d is met %d times: %v", e, met[e], met)
		}
	}
}

// TestBeforeOfWhateverSpans has all Tos and Froms from -2 to 3.
func TestBeforeOfWhateverSpans(t *testing.T) {
	for i := range 6 * 6 * 6 * 6 {
		a, b := span(0, 1, op(1, 7), done, i%6-2, i/6%6-2), span(0, 1, op(1, 7), done, i/36%6-2, i/216-2)
		if is := Before(a, b); is != beforeAs(a, b) {
			t.Errorf("Before of %+v, %+v is %v", a, b, is)
		}
		n := 0
		for _, s := range []api.Span{a, b} {
			if s.To < 0 {
				n++
			}
		}
		if Pending([]api.Span{a, b}) != n {
			t.Errorf("Pending of %s is not %d", fmt.Sprint(a, b), n)
		}
	}
}
