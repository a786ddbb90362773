package history

import (
	"math"
	"slices"
	"testing"

	"reaper/api"
)

func applied(thread, seq int, o api.Op, res api.Res) api.Applied {
	return api.Applied{Thread: thread, Seq: seq, Op: o, Res: res, Batch: 1}
}

// checks checks one Check, of a Stack of 4.
func checks(t *testing.T, what string, s []api.Span, log []api.Applied, want api.Errno) {
	t.Helper()
	checksOf(t, what, api.Stack, 4, s, log, want)
}

func checksOf(t *testing.T, what string, object uint8, most int, s []api.Span, log []api.Applied, want api.Errno) {
	t.Helper()
	if e := Check(object, most, s, log); e != want {
		t.Errorf("%s: Check of %d of %d,\n%+v,\n%+v is %d, not %d", what, object, most, s, log, e, want)
	}
}

// three are a Push of 7, a Pop and a Pop of three threads, one behind the other.
func three() ([]api.Span, []api.Applied) {
	return []api.Span{span(0, 1, op(1, 7), done, 0, 3), span(1, 1, op(2, 0), got(7), 4, 8), span(2, 1, op(2, 0), empty, 9, 12)},
		[]api.Applied{applied(0, 1, op(1, 7), done), applied(1, 1, op(2, 0), got(7)), applied(2, 1, op(2, 0), empty)}
}

// atOnce are the same operations, all of them at once.
func atOnce() ([]api.Span, []api.Applied) {
	s, log := three()
	for i := range s {
		s[i].From, s[i].To = 0, 9
	}
	return s, log
}

func TestCheckOfNothing(t *testing.T) {
	for _, object := range objects {
		for _, most := range []int{math.MinInt, -1, 0, 1, 4, 1000, math.MaxInt} {
			checksOf(t, "nil", object, most, nil, nil, api.OK)
			checksOf(t, "none", object, most, []api.Span{}, []api.Applied{}, api.OK)
		}
	}
	checks(t, "one behind the lengths", longer(nil, span(0, 1, op(1, 7), done, 0, 3)), longer(nil, applied(1, 1, op(1, 7), done)), api.OK)
	checks(t, "one that pends", []api.Span{span(0, 1, op(1, 7), nothing, 0, -1)}, nil, api.OK)
}

func TestCheckOfOneAtATime(t *testing.T) {
	s, log := three()
	checks(t, "in their order", s, log, api.OK)
	slices.Reverse(s)
	checks(t, "spans in another order", s, log, api.OK)
	for i := range log {
		log[i].Batch = 9 - i
	}
	checks(t, "whatever their batches", s, log, api.OK)
}

func TestCheckOfOneAtATimeOfADeque(t *testing.T) {
	checksOf(t, "one at a time", api.Deque, 2, []api.Span{
		span(0, 1, op(api.PushL, 5), done, 0, 1), span(0, 2, op(api.PushR, 6), done, 2, 3), span(1, 1, op(api.PushL, 7), full, 4, 5),
		span(0, 3, op(api.PopR, 0), got(6), 6, 7), span(0, 4, op(api.PopL, 0), got(5), 8, 9), span(0, 5, op(api.PopL, 0), empty, 10, 11), span(1, 2, op(5, 0), bad, 12, 13),
	}, []api.Applied{
		applied(0, 1, op(api.PushL, 5), done), applied(0, 2, op(api.PushR, 6), done), applied(1, 1, op(api.PushL, 7), full),
		applied(0, 3, op(api.PopR, 0), got(6)), applied(0, 4, op(api.PopL, 0), got(5)), applied(0, 5, op(api.PopL, 0), empty), applied(1, 2, op(5, 0), bad),
	}, api.OK)
}

// TestCheckOfEachObject has operations of which each of the three tells something else: the kinds 1, 1, 2 take the last item, put a third one, or take the least.
func TestCheckOfEachObject(t *testing.T) {
	last := map[uint8]api.Res{api.Stack: got(9), api.Deque: done, api.Heap: got(3)}
	for _, object := range objects {
		for of, res := range last {
			log := []api.Applied{applied(0, 1, op(1, 3), done), applied(0, 2, op(1, 9), done), applied(0, 3, op(2, 5), res)}
			want := api.OK
			if of != object {
				want = api.ErrTold
			}
			checksOf(t, "as it tells it, or another one", object, 4, ahead(log), log, want)
		}
	}
	for _, object := range []uint8{0, 4, 255} {
		log := []api.Applied{applied(0, 1, op(1, 3), bad), applied(0, 2, op(2, 9), bad)}
		checksOf(t, "no object: Bad", object, 4, ahead(log), log, api.OK)
		log[0].Res = done
		checksOf(t, "no object: Done", object, 4, ahead(log), log, api.ErrTold)
	}
}

// ahead are spans one behind the other, as a log has them.
func ahead(log []api.Applied) []api.Span {
	var s []api.Span
	for i, a := range log {
		s = append(s, span(a.Thread, a.Seq, a.Op, a.Res, 2*i, 2*i+1))
	}
	return s
}

func TestCheckOfAMost(t *testing.T) {
	for _, object := range objects {
		one := []api.Applied{applied(0, 1, op(1, 3), done)}
		none := []api.Applied{applied(0, 1, op(1, 3), full)}
		for _, most := range []int{0, -1, -1000, math.MinInt, math.MinInt + 1} {
			checksOf(t, "Full", object, most, ahead(none), none, api.OK)
			checksOf(t, "Done", object, most, ahead(one), one, api.ErrTold)
		}
		for _, most := range []int{1, 2, 1000, 1001, math.MaxInt, 1 << 32} {
			checksOf(t, "Full", object, most, ahead(none), none, api.ErrTold)
			checksOf(t, "Done", object, most, ahead(one), one, api.OK)
		}
		two := append(one, applied(0, 2, op(1, 3), full))
		checksOf(t, "Full, of 1", object, 1, ahead(two), two, api.OK)
		checksOf(t, "Full, of 2", object, 2, ahead(two), two, api.ErrTold)
	}
}

// TestCheckOfMoreThanMayBe has as many items put as an object may ever hold, and one more.
func TestCheckOfMoreThanMayBe(t *testing.T) {
	for _, object := range objects {
		var log []api.Applied
		for i := range 1001 {
			log = append(log, applied(0, i, op(1, int32(i)), done))
		}
		for _, most := range []int{1001, math.MaxInt} {
			checksOf(t, "1000", object, most, ahead(log[:1000]), log[:1000], api.OK)
			checksOf(t, "1001", object, most, ahead(log), log, api.ErrTold)
		}
	}
}

func TestCheckOfTwoAtOnce(t *testing.T) {
	push, pop := applied(0, 1, op(1, 7), done), applied(1, 1, op(2, 0), got(7))
	for _, c := range []struct {
		from, to int
		want     api.Errno // behind the Pop, of a Push that began at 4 and was told at 8
	}{{4, 8, api.OK}, {0, 4, api.OK}, {8, 9, api.OK}, {5, 6, api.OK}, {0, 20, api.OK}, {9, 20, api.OK}, {0, 3, api.ErrOrder}} {
		s := []api.Span{span(0, 1, op(1, 7), done, 4, 8), span(1, 1, op(2, 0), got(7), c.from, c.to)}
		checks(t, "the Push first", s, []api.Applied{push, pop}, c.want)
		if c.want == api.OK && c.from <= 8 {
			checks(t, "the Pop first, told Got", s, []api.Applied{pop, push}, api.ErrTold)
			s[1].Res = empty
			checks(t, "the Pop first, told Empty", s, []api.Applied{applied(1, 1, op(2, 0), empty), push}, api.OK)
			checks(t, "the Push first, told Empty", s, []api.Applied{push, pop}, api.ErrTold)
		}
	}
	log := []api.Applied{applied(0, 1, op(1, 7), full), applied(1, 1, op(1, 8), full)}
	s := []api.Span{span(0, 1, op(1, 7), full, 0, 5), span(1, 1, op(1, 8), full, 0, 5)}
	checksOf(t, "either order tells the same", api.Heap, 0, s, log, api.OK)
	slices.Reverse(log)
	checksOf(t, "either order tells the same", api.Heap, 0, s, log, api.OK)
}

// TestCheckOfTwice has two of one Thread and Seq in the log, next to one another and far off, with the same Op and with another one.
func TestCheckOfTwice(t *testing.T) {
	s, log := three()
	s = append(s, span(0, 1, op(1, 9), done, 13, 14))
	for _, more := range []api.Applied{applied(0, 1, op(1, 7), done), applied(0, 1, op(1, 9), done), {Seq: 1, Op: op(1, 9), Res: done, Batch: 7}} {
		for i := range len(log) + 1 {
			checks(t, "two of one name", s, slices.Insert(slices.Clone(log), i, more), api.ErrTwice)
		}
	}
	s = []api.Span{span(0, 1, op(1, 7), done, 0, 9), span(0, 1, op(1, 7), done, 0, 9)}
	checks(t, "as often as it is among the spans", s, []api.Applied{applied(0, 1, op(1, 7), done), applied(0, 1, op(1, 7), done)}, api.ErrTwice)
	pend := []api.Span{span(0, 1, op(1, 7), nothing, 0, -1)}
	checks(t, "of one that pends", pend, []api.Applied{applied(0, 1, op(1, 7), done), applied(0, 1, op(1, 7), done)}, api.ErrTwice)
}

// TestCheckOfNotTwice has two of one Thread, and two of one Seq.
func TestCheckOfNotTwice(t *testing.T) {
	for _, other := range []int{0, 2, -1, 1 + 1<<8, 1 + 1<<16, 1 + 1<<32, math.MaxInt, math.MinInt} {
		log := []api.Applied{applied(1, 1, op(1, 7), done), applied(other, 1, op(1, 7), done), applied(1, other, op(1, 7), done)}
		checks(t, "of other names", ahead(log), log, api.OK)
	}
	log := []api.Applied{applied(1, 23, op(1, 7), done), applied(12, 3, op(1, 7), done), applied(23, 1, op(1, 7), done)}
	checks(t, "the same digits", ahead(log), log, api.OK)
}

// TestCheckOfWhoWasNotAsked has one of the log differ from the spans in one thing alone. The span pends, so that it need not be in the log.
func TestCheckOfWhoWasNotAsked(t *testing.T) {
	pend := []api.Span{span(3, 1, op(1, 7), nothing, 0, -1)}
	checks(t, "the same one", pend, []api.Applied{applied(3, 1, op(1, 7), done)}, api.OK)
	for what, a := range map[string]api.Applied{
		"another Thread": applied(4, 1, op(1, 7), done), "another Seq": applied(3, 2, op(1, 7), done),
		"another Kind": applied(3, 1, op(3, 7), bad), "another Val": applied(3, 1, op(1, 8), done),
		"Thread and Seq turned": applied(1, 3, op(1, 7), done), "a Val that differs far up": applied(3, 1, op(1, 7-1<<31), done),
		"a Thread that differs far up": applied(3+1<<32, 1, op(1, 7), done), "a Seq that differs far up": applied(3, 1+1<<32, op(1, 7), done),
	} {
		checks(t, what, pend, []api.Applied{a}, api.ErrLost)
	}
	checks(t, "no spans", nil, []api.Applied{applied(3, 1, op(1, 7), done)}, api.ErrLost)
	s, log := three()
	for i := range log {
		others := slices.Clone(s)
		others[i].Seq, others[i].To = 9, -1
		checks(t, "one of three", others, log, api.ErrLost)
	}
	checks(t, "whatever it was told, and when", []api.Span{span(3, 1, op(1, 7), full, 5, -9)}, []api.Applied{applied(3, 1, op(1, 7), done)}, api.OK)
}

// TestCheckOfWhoWasNotDone has a span that was told, and nothing of it in the log, but what differs from it in one thing alone.
func TestCheckOfWhoWasNotDone(t *testing.T) {
	for _, to := range []int{0, 1, 9, math.MaxInt} {
		checks(t, "an empty log", []api.Span{span(3, 1, op(1, 7), done, 0, to)}, nil, api.ErrLost)
	}
	told := span(3, 1, op(1, 7), done, 0, 9)
	for what, a := range map[string]api.Applied{
		"another Thread": applied(4, 1, op(1, 7), done), "another Seq": applied(3, 2, op(1, 7), done),
		"another Kind": applied(3, 1, op(3, 7), bad), "another Val": applied(3, 1, op(1, 8), done),
	} {
		pends := span(a.Thread, a.Seq, a.Op, nothing, 0, -1)
		checks(t, what, []api.Span{pends, told}, []api.Applied{a}, api.ErrLost)
		checks(t, what, []api.Span{told, pends}, []api.Applied{a}, api.ErrLost)
		checks(t, what+", and nobody was told", []api.Span{pends, span(3, 1, op(1, 7), done, 0, -1)}, []api.Applied{a}, api.OK)
	}
	s, log := three()
	for i := range log {
		checks(t, "one of three", s, slices.Delete(slices.Clone(log), i, i+1), api.ErrLost)
	}
	s = []api.Span{span(3, 1, op(1, 7), nothing, 0, -1), told}
	checks(t, "of two of one name, the second was told", s, nil, api.ErrLost)
}

func TestCheckOfOneThatPends(t *testing.T) {
	for _, to := range []int{-1, -2, math.MinInt} {
		s := []api.Span{span(0, 1, op(1, 7), bad, 0, to), span(1, 1, op(2, 0), got(7), 4, 8)}
		push, pop := applied(0, 1, op(1, 7), done), applied(1, 1, op(2, 0), got(7))
		checks(t, "it is in the log", s, []api.Applied{push, pop}, api.OK)
		checks(t, "it is last in the log", s, []api.Applied{pop, push}, api.ErrTold)
		checks(t, "it is not in the log", s, []api.Applied{pop}, api.ErrTold)
		s[1].Res, pop.Res = empty, empty
		checks(t, "it is not in the log", s, []api.Applied{pop}, api.OK)
		checks(t, "it is last in the log", s, []api.Applied{pop, push}, api.OK)
		checks(t, "it is in the log", s, []api.Applied{push, pop}, api.ErrTold)
		s[0].From = 9
		checks(t, "it began behind", s, []api.Applied{push, pop}, api.ErrOrder)
		checks(t, "it is last in the log, and began behind", s, []api.Applied{pop, push}, api.OK)
		push.Res = full
		checks(t, "the log has not what is told", s, []api.Applied{pop, push}, api.ErrTold)
		push.Res = bad
		checks(t, "the log has what the span has", s, []api.Applied{pop, push}, api.ErrTold)
	}
}

// TestCheckOfOrder has each order of three that took place one behind the other: only one is right.
func TestCheckOfOrder(t *testing.T) {
	o := op(1, 7)
	log := []api.Applied{applied(0, 1, o, full), applied(1, 1, o, full), applied(2, 1, o, full)}
	s := ahead(log)
	for _, order := range [][]int{{0, 1, 2}, {0, 2, 1}, {1, 0, 2}, {1, 2, 0}, {2, 0, 1}, {2, 1, 0}} {
		var l []api.Applied
		for _, i := range order {
			l = append(l, log[i])
		}
		want := api.ErrOrder
		if slices.IsSorted(order) {
			want = api.OK
		}
		checksOf(t, "each order", api.Heap, 0, s, l, want)
	}
}

// TestCheckOfOrderFarOff has who was told ahead of the first one behind many who took place all along, some of which began last or ahead of all.
func TestCheckOfOrderFarOff(t *testing.T) {
	o := op(1, 7)
	for _, from := range []int{0, 5, 6, 7, 50, math.MinInt} {
		var log []api.Applied
		var s []api.Span
		for i := range 50 {
			log = append(log, applied(i, 1, o, full))
			s = append(s, span(i, 1, o, full, 0, 1000))
		}
		s[0].From = 6
		s[20].From = from
		s = append(s, span(50, 1, o, full, 0, 5))
		log = append(log, applied(50, 1, o, full))
		checksOf(t, "behind one that began later", api.Stack, 0, s, log, api.ErrOrder)
		s[0].From = 5
		want := api.OK
		if from > 5 {
			want = api.ErrOrder
		}
		checksOf(t, "behind one that began as it was told", api.Stack, 0, s, log, want)
	}
}

// TestCheckOfOrderAtTheEnds has spans that begin below 0, that are told at 0, or that are told ahead of when they began.
func TestCheckOfOrderAtTheEnds(t *testing.T) {
	o := op(1, 7)
	log := []api.Applied{applied(0, 1, o, full), applied(1, 1, o, full)}
	for _, c := range []struct {
		from, to int // of the first one's From, and the second one's To
		want     api.Errno
	}{
		{0, 0, api.OK}, {1, 0, api.ErrOrder}, {-5, 0, api.OK}, {0, -5, api.OK}, {math.MinInt, 0, api.OK}, {math.MinInt, math.MinInt, api.OK},
		{-5, -7, api.OK}, {5, -7, api.OK}, {math.MaxInt, math.MaxInt, api.OK}, {math.MaxInt, math.MaxInt - 1, api.ErrOrder}, {math.MaxInt, 0, api.ErrOrder}, {1 << 32, 1, api.ErrOrder}, {1, 1 << 32, api.OK},
	} {
		for _, other := range []int{math.MinInt, -1, 0, 2, math.MaxInt} {
			s := []api.Span{span(0, 1, o, full, c.from, math.MaxInt), span(1, 1, o, full, other, c.to)}
			checksOf(t, "the second one's To against the first one's From", api.Deque, 0, s, log, c.want)
		}
	}
	s := []api.Span{span(0, 1, o, full, 9, 3)}
	checksOf(t, "one that was told ahead of when it began is not ahead of itself", api.Deque, 0, s, log[:1], api.OK)
}

// TestCheckOfToldInTheLog has each of three told something else in the log, though what its span has is what is told.
func TestCheckOfToldInTheLog(t *testing.T) {
	for i := range 3 {
		for _, res := range []api.Res{nothing, full, bad, {Code: api.Done, Val: 1}, got(8), {Code: api.Done, Val: 7}, {Code: api.Empty, Val: 7}, got(7 - 1<<31)} {
			s, log := three()
			log[i].Res = res
			checks(t, "in the log", s, log, api.ErrTold)
			s[i].Res = res
			checks(t, "in the log, and in its span", s, log, api.ErrTold)
			s, log = three()
			s[i].To = -1
			s[i].Res = nothing
			checks(t, "nowhere", s, log, api.OK)
			log[i].Res = res
			checks(t, "in the log, and its span pends", s, log, api.ErrTold)
			s[i].Res = res
			checks(t, "in the log, and in its span, which pends", s, log, api.ErrTold)
		}
	}
}

// TestCheckOfToldInTheSpan has each of three told something else in its span, though what the log has is what is told.
func TestCheckOfToldInTheSpan(t *testing.T) {
	for i := range 3 {
		for _, res := range []api.Res{nothing, full, bad, {Code: api.Done, Val: 1}, got(8), {Code: api.Done, Val: 7}, {Code: api.Empty, Val: 7}, got(7 - 1<<31)} {
			s, log := three()
			s[i].Res = res
			checks(t, "in its span", s, log, api.ErrTold)
			s, log = atOnce()
			s[i].Res = res
			s[i].To = 0
			checks(t, "in its span, told at 0", s, log, api.ErrTold)
			s[i].To = -1
			checks(t, "in its span, which pends", s, log, api.OK)
		}
	}
}

// TestCheckOfTwoSpansOfOneOperation has the same Thread, Seq and Op twice among the spans: the first one counts.
func TestCheckOfTwoSpansOfOneOperation(t *testing.T) {
	o := op(1, 7)
	log := []api.Applied{applied(0, 1, o, done), applied(1, 1, o, done)}
	early, late, other := span(1, 1, o, done, 0, 3), span(1, 1, o, done, 6, 9), span(0, 1, o, done, 4, 5)
	checks(t, "who was told ahead counts", []api.Span{early, other, late}, log, api.ErrOrder)
	checks(t, "who was told ahead counts not", []api.Span{late, other, early}, log, api.OK)
	slices.Reverse(log)
	checks(t, "who was told ahead counts", []api.Span{early, late, other}, log, api.OK)
	checks(t, "who was told ahead counts not", []api.Span{other, late, early}, log, api.ErrOrder)

	early.Res = full
	checks(t, "the first one was told something else", []api.Span{early, late, other}, log, api.ErrTold)
	early.To = -1
	checks(t, "the first one pends", []api.Span{early, late, other}, log, api.OK)
	early.To, early.Res, late.Res = 3, done, full
	checks(t, "the second one was told something else", []api.Span{early, late, other}, log, api.OK)

	pend := span(1, 1, o, nothing, 0, -1)
	checks(t, "the second one was told, and none is in the log", []api.Span{pend, late}, nil, api.ErrLost)
	checks(t, "the first one was told, and none is in the log", []api.Span{late, pend}, nil, api.ErrLost)
}

// TestCheckOfTwoErrors has each two errors at once, each of them alone too; what is told behind may stand ahead in the log.
func TestCheckOfTwoErrors(t *testing.T) {
	o := op(1, 7)
	alone := map[api.Errno]func([]api.Span, []api.Applied) ([]api.Span, []api.Applied){
		api.ErrTwice: func(s []api.Span, log []api.Applied) ([]api.Span, []api.Applied) {
			return s, append(log, log[len(log)-1])
		},
		api.ErrLost: func(s []api.Span, log []api.Applied) ([]api.Span, []api.Applied) {
			return append(s, span(8, 8, o, full, 0, 99)), log
		},
		api.ErrOrder: func(s []api.Span, log []api.Applied) ([]api.Span, []api.Applied) {
			log[0], log[1] = log[1], log[0]
			return s, log
		},
		api.ErrTold: func(s []api.Span, log []api.Applied) ([]api.Span, []api.Applied) {
			log[0].Res = done
			return s, log
		},
	}
	alike := func() ([]api.Span, []api.Applied) {
		log := []api.Applied{applied(0, 1, o, full), applied(1, 1, o, full), applied(2, 1, o, full), applied(3, 1, o, full)}
		return ahead(log), log
	}
	s, log := alike()
	checksOf(t, "none", api.Stack, 0, s, log, api.OK)
	for one, wrong := range alone {
		s, log := wrong(alike())
		checksOf(t, "alone", api.Stack, 0, s, log, one)
		for other, wrongToo := range alone {
			s, log := wrongToo(wrong(alike()))
			if one != other {
				checksOf(t, "two at once", api.Stack, 0, s, log, min(one, other))
			}
			for third, wrongAsWell := range alone {
				if third != one && third != other && one != other {
					s, log := wrongAsWell(wrongToo(wrong(alike())))
					checksOf(t, "three at once", api.Stack, 0, s, log, min(one, other, third))
				}
			}
		}
	}
}

// TestCheckOfTwoErrorsOfWhatIsMissing has both ways in which something is lost, each with each other error, wherever they stand.
func TestCheckOfTwoErrorsOfWhatIsMissing(t *testing.T) {
	o := op(1, 7)
	stray := applied(9, 9, o, full)
	log := []api.Applied{applied(0, 1, o, full), applied(1, 1, o, full), applied(2, 1, o, full)}
	s := ahead(log)
	for i := range len(log) + 1 {
		with := slices.Insert(slices.Clone(log), i, stray)
		checksOf(t, "one that was not asked for", api.Heap, 0, s, with, api.ErrLost)
		checksOf(t, "and one twice", api.Heap, 0, s, append(with, log[0]), api.ErrTwice)
		checksOf(t, "which is there twice", api.Heap, 0, s, append(with, stray), api.ErrTwice)
		slices.Reverse(with)
		checksOf(t, "and all in the wrong order", api.Heap, 0, s, with, api.ErrLost)
		checksOf(t, "and all told something else", api.Heap, 4, s, with, api.ErrLost)
	}
	for i := range log {
		without := slices.Delete(slices.Clone(log), i, i+1)
		checksOf(t, "one that was told", api.Heap, 0, s, without, api.ErrLost)
		checksOf(t, "and one twice", api.Heap, 0, s, append(without, without[0]), api.ErrTwice)
		slices.Reverse(without)
		checksOf(t, "and all in the wrong order", api.Heap, 0, s, without, api.ErrLost)
		checksOf(t, "and all told something else", api.Heap, 4, s, without, api.ErrLost)
	}
	slices.Reverse(log)
	checksOf(t, "all in the wrong order, and told something else", api.Heap, 4, s, log, api.ErrOrder)
}

// TestCheckOfTheFarthestNumbers ends and does not panic, of whatever it is handed.
func TestCheckOfTheFarthestNumbers(t *testing.T) {
	ends := []int{math.MinInt, -1, 0, 1, math.MaxInt}
	for object := range 256 {
		for _, n := range ends {
			o := op(255, math.MinInt32)
			log := []api.Applied{applied(n, n, o, bad)}
			for _, from := range ends {
				checksOf(t, "of the farthest", uint8(object), n, []api.Span{span(n, n, o, bad, from, n)}, log, api.OK)
			}
			log[0].Batch = n
			checksOf(t, "whatever its batch", uint8(object), n, []api.Span{span(n, n, o, bad, 0, 0)}, log, api.OK)
		}
	}
}

func TestCheckChangesNothing(t *testing.T) {
	s, log := three()
	s, log = longer(s, span(0, 1, op(1, 7), done, 0, 3)), longer(log, applied(0, 1, op(1, 7), done))
	for _, change := range []func(){func() {}, func() { log[2].Res = full }, func() { log[0], log[1] = log[1], log[0] }, func() { log[1].Seq = 7 }, func() { log[0] = log[1] }} {
		change()
		wasS, wasLog := slices.Clone(s[:cap(s)]), slices.Clone(log[:cap(log)])
		first := Check(api.Stack, 4, s, log)
		stays(t, "the spans", s[:cap(s)], wasS)
		stays(t, "the log", log[:cap(log)], wasLog)
		checks(t, "once more", s, log, first)
	}
	s, log = three()
	checks(t, "behind all of these", s, log, api.OK)
}

// TestCheckOfMany ends in time only if no operation is asked of all others; what is wrong is at its very end, or nowhere.
func TestCheckOfMany(t *testing.T) {
	const many = 200000
	log := make([]api.Applied, many)
	s := make([]api.Span, many)
	for i := range many {
		o := op(uint8(1+i%2), int32(i))
		res := done
		if i%2 == 1 {
			res = got(int32(i - 1))
		}
		log[i], s[i] = applied(i%64, i, o, res), span(i%64, i, o, res, i, i+63)
	}
	check := func(what string, want api.Errno) {
		t.Helper()
		if e := Check(api.Stack, 1, s, log); e != want {
			t.Errorf("%s of %d is %d, not %d", what, many, e, want)
		}
	}
	check("as told", api.OK)
	s[many-1].Res = empty
	check("the last one told something else", api.ErrTold)
	s[many-1].To = many - 3
	check("the last one told ahead of the last but one", api.ErrOrder)
	log[many-1].Op.Val++
	check("the last one asked for something else", api.ErrLost)
	log[many-1].Thread, log[many-1].Seq = 0, 0
	check("the last one has the name of the first one", api.ErrTwice)
}
