package history

import (
	"fmt"
	"math"
	"slices"
	"testing"

	"reaper/api"
)

// objects are all there are.
var objects = []uint8{api.Stack, api.Deque, api.Heap}

// What operations are told, but an item.
var (
	nothing = api.Res{}
	done    = api.Res{Code: api.Done}
	full    = api.Res{Code: api.Full}
	empty   = api.Res{Code: api.Empty}
	bad     = api.Res{Code: api.Bad}
)

// got is what an operation is told that takes an item.
func got(v int32) api.Res { return api.Res{Code: api.Got, Val: v} }

func op(kind uint8, v int32) api.Op { return api.Op{Kind: kind, Val: v} }

func invoke(thread, seq int, o api.Op, at int) api.Event {
	return api.Event{Kind: api.Invoke, Thread: thread, Seq: seq, Op: o, At: at}
}

func returns(thread, seq int, res api.Res, at int) api.Event {
	return api.Event{Kind: api.Return, Thread: thread, Seq: seq, Res: res, At: at}
}

func span(thread, seq int, o api.Op, res api.Res, from, to int) api.Span {
	return api.Span{Thread: thread, Seq: seq, Op: o, Res: res, From: from, To: to}
}

// spans checks what Spans tells, in its order.
func spans(t *testing.T, what string, l []api.Event, want ...api.Span) {
	t.Helper()
	if s := Spans(l); !slices.Equal(s, want) {
		t.Errorf("%s: Spans of\n%+v are\n%+v, not\n%+v", what, l, s, want)
	}
}

// longer is the same list, with things behind its length in its memory that nobody may come to.
func longer[T any](l []T, behind T) []T {
	all := append(slices.Clone(l), behind, behind, behind)
	return all[:len(l)]
}

// stays checks that neither a list nor what lies behind its length has changed since it was copied.
func stays[T comparable](t *testing.T, what string, l []T, was []T) {
	t.Helper()
	if now := l[:len(was)]; !slices.Equal(now, was) {
		t.Errorf("%s was %+v, and is %+v", what, was, now)
	}
}

func TestExample(t *testing.T) {
	l := Spans([]api.Event{{Kind: api.Invoke}, {Kind: api.Return, At: 9}})
	if len(l) != 1 || l[0].From != 0 || l[0].To != 9 {
		t.Errorf("Spans of an Invoke at 0 and a Return at 9 are %+v", l)
	}
}

func TestSpansOfNoEvents(t *testing.T) {
	spans(t, "nil", nil)
	spans(t, "none", []api.Event{})
	spans(t, "none, and some behind the length", longer(nil, invoke(0, 1, op(1, 7), 0)))
	spans(t, "a Return alone", []api.Event{returns(0, 1, done, 0)})
}

func TestSpansOfAReturnNextToIt(t *testing.T) {
	spans(t, "one", []api.Event{invoke(3, 5, op(2, -8), 4), returns(3, 5, got(9), 6)},
		span(3, 5, op(2, -8), got(9), 4, 6))
	spans(t, "two of one thread", []api.Event{
		invoke(0, 1, op(1, 7), 0), returns(0, 1, done, 9),
		invoke(0, 2, op(2, 0), 9), returns(0, 2, got(7), 30),
	}, span(0, 1, op(1, 7), done, 0, 9), span(0, 2, op(2, 0), got(7), 9, 30))
	spans(t, "all noughts", []api.Event{invoke(0, 0, op(0, 0), 0), returns(0, 0, nothing, 0)}, api.Span{})
}

func TestSpansOfAReturnFarBehindIt(t *testing.T) {
	l := []api.Event{invoke(9, 2, op(1, 5), 0)}
	var want []api.Span
	for i := range 500 {
		l = append(l, invoke(i%9, i/9, op(1, int32(i)), i))
		want = append(want, span(i%9, i/9, op(1, int32(i)), got(int32(i)), i, 2000-i))
	}
	for i := 499; i >= 0; i-- {
		l = append(l, returns(i%9, i/9, got(int32(i)), 2000-i))
	}
	l = append(l, returns(9, 2, full, 5000))
	spans(t, "each in the other one", l, append([]api.Span{span(9, 2, op(1, 5), full, 0, 5000)}, want...)...)
}

func TestSpansWithoutAReturn(t *testing.T) {
	spans(t, "one", []api.Event{invoke(1, 2, op(1, 7), 5)}, span(1, 2, op(1, 7), nothing, 5, -1))
	spans(t, "one at 0", []api.Event{invoke(0, 0, op(0, 0), 0)}, span(0, 0, op(0, 0), nothing, 0, -1))
	spans(t, "one that says what it was told", []api.Event{{Kind: api.Invoke, Thread: 1, Seq: 2, Op: op(2, 3), Res: got(4), At: 5}},
		span(1, 2, op(2, 3), nothing, 5, -1))
	spans(t, "one of three", []api.Event{
		invoke(0, 1, op(1, 7), 0), invoke(1, 1, op(2, 0), 1), invoke(2, 1, op(1, 9), 2),
		returns(2, 1, done, 8), returns(0, 1, done, 9),
	}, span(0, 1, op(1, 7), done, 0, 9), span(1, 1, op(2, 0), nothing, 1, -1), span(2, 1, op(1, 9), done, 2, 8))
}

func TestSpansOfAReturnAheadOfIt(t *testing.T) {
	spans(t, "only ahead", []api.Event{returns(0, 1, done, 3), invoke(0, 1, op(1, 7), 4)}, span(0, 1, op(1, 7), nothing, 4, -1))
	spans(t, "ahead, though at a later time", []api.Event{returns(0, 1, done, 9), invoke(0, 1, op(1, 7), 4)}, span(0, 1, op(1, 7), nothing, 4, -1))
	spans(t, "ahead and behind", []api.Event{returns(0, 1, done, 3), invoke(0, 1, op(1, 7), 4), returns(0, 1, full, 8)},
		span(0, 1, op(1, 7), full, 4, 8))
	spans(t, "behind, though at an earlier time", []api.Event{invoke(0, 1, op(1, 7), 4), returns(0, 1, full, 2)},
		span(0, 1, op(1, 7), full, 4, 2))
}

func TestSpansOfTwoReturns(t *testing.T) {
	spans(t, "the first one is earlier", []api.Event{invoke(0, 1, op(1, 7), 0), returns(0, 1, done, 3), returns(0, 1, full, 8)},
		span(0, 1, op(1, 7), done, 0, 3))
	spans(t, "the first one is later", []api.Event{invoke(0, 1, op(1, 7), 0), returns(0, 1, done, 8), returns(0, 1, full, 3), returns(0, 1, bad, 1)},
		span(0, 1, op(1, 7), done, 0, 8))
	spans(t, "with others in between", []api.Event{
		invoke(0, 1, op(1, 7), 0), returns(1, 1, bad, 1), returns(0, 1, done, 3), invoke(1, 1, op(2, 0), 4), returns(0, 1, full, 8), returns(1, 1, empty, 9),
	}, span(0, 1, op(1, 7), done, 0, 3), span(1, 1, op(2, 0), empty, 4, 9))
}

// TestSpansOfAReturnOfAnother has numbers that would be the same if some of their bits were cut off, or if both were one number.
func TestSpansOfAReturnOfAnother(t *testing.T) {
	for _, other := range []int{2, 4, -3, 3 + 1<<8, 3 + 1<<16, 3 + 1<<32, math.MaxInt, math.MinInt} {
		for _, e := range []api.Event{returns(other, 3, done, 5), returns(3, other, done, 5)} {
			l := []api.Event{invoke(3, 3, op(1, 7), 4), e}
			spans(t, "another one", l, span(3, 3, op(1, 7), nothing, 4, -1))
			spans(t, "another one, then its own", append(l, returns(3, 3, full, 9)), span(3, 3, op(1, 7), full, 4, 9))
		}
	}
	spans(t, "the other way around", []api.Event{invoke(1, 2, op(1, 7), 0), returns(2, 1, done, 1)}, span(1, 2, op(1, 7), nothing, 0, -1))
	spans(t, "as digits", []api.Event{invoke(1, 23, op(1, 7), 0), returns(12, 3, done, 1)}, span(1, 23, op(1, 7), nothing, 0, -1))
}

// TestSpansOfAReturnOfAnotherOp has a Return that says another operation: only Thread and Seq tell whose it is, and Op is what was asked.
func TestSpansOfAReturnOfAnotherOp(t *testing.T) {
	l := []api.Event{invoke(0, 1, op(1, 7), 0), {Kind: api.Return, Seq: 1, Op: op(2, 9), Res: done, At: 3}}
	spans(t, "another Op", l, span(0, 1, op(1, 7), done, 0, 3))
}

func TestSpansOfTwoInvokesOfOneName(t *testing.T) {
	spans(t, "one Return behind both", []api.Event{invoke(0, 1, op(1, 7), 0), invoke(0, 1, op(2, 8), 3), returns(0, 1, done, 5)},
		span(0, 1, op(1, 7), done, 0, 5), span(0, 1, op(2, 8), done, 3, 5))
	spans(t, "one Return in between", []api.Event{invoke(0, 1, op(1, 7), 0), returns(0, 1, done, 3), invoke(0, 1, op(1, 7), 5)},
		span(0, 1, op(1, 7), done, 0, 3), span(0, 1, op(1, 7), nothing, 5, -1))
	spans(t, "one each", []api.Event{invoke(0, 1, op(1, 7), 0), returns(0, 1, done, 3), invoke(0, 1, op(1, 7), 5), returns(0, 1, full, 6)},
		span(0, 1, op(1, 7), done, 0, 3), span(0, 1, op(1, 7), full, 5, 6))
	spans(t, "two behind both", []api.Event{invoke(0, 1, op(1, 7), 0), invoke(0, 1, op(1, 7), 1), returns(0, 1, done, 3), returns(0, 1, full, 6)},
		span(0, 1, op(1, 7), done, 0, 3), span(0, 1, op(1, 7), done, 1, 3))
}

func TestSpansOfAnyOtherKind(t *testing.T) {
	for kind := range 256 {
		if kind == 1 || kind == 2 {
			continue
		}
		other := api.Event{Kind: uint8(kind), Seq: 1, Op: op(1, 9), Res: bad, At: 2}
		spans(t, "alone", []api.Event{other})
		spans(t, "for an Invoke", []api.Event{other, returns(0, 1, done, 3)})
		spans(t, "for a Return", []api.Event{invoke(0, 1, op(1, 7), 0), other}, span(0, 1, op(1, 7), nothing, 0, -1))
		spans(t, "in between", []api.Event{other, invoke(0, 1, op(1, 7), 0), other, returns(0, 1, done, 3), other},
			span(0, 1, op(1, 7), done, 0, 3))
	}
}

// TestSpansInOrder has events whose order is neither that of their threads, nor of their numbers, nor of when they took place, nor of when they were told.
func TestSpansInOrder(t *testing.T) {
	spans(t, "as they stand", []api.Event{
		invoke(2, 9, op(1, 1), 5), invoke(0, 4, op(2, 2), 8), returns(0, 4, empty, 20), invoke(1, 6, op(1, 3), 1), invoke(2, 1, op(1, 4), 3),
		returns(2, 1, done, 7), returns(1, 6, full, 30), returns(2, 9, got(4), 2),
	},
		span(2, 9, op(1, 1), got(4), 5, 2), span(0, 4, op(2, 2), empty, 8, 20), span(1, 6, op(1, 3), full, 1, 30), span(2, 1, op(1, 4), done, 3, 7))
}

func TestSpansOfTheFarthestNumbers(t *testing.T) {
	for _, n := range []int{math.MinInt, math.MinInt + 1, -2, -1, 0, 1, math.MaxInt - 1, math.MaxInt} {
		for _, at := range []int{math.MinInt, -1, 0, math.MaxInt} {
			o, res := op(255, math.MinInt32), api.Res{Code: 255, Val: math.MaxInt32}
			spans(t, "thread and number", []api.Event{invoke(n, n, o, at), returns(n, n, res, n)}, span(n, n, o, res, at, n))
			spans(t, "when", []api.Event{invoke(n, at, o, n), returns(n, at, res, at)}, span(n, at, o, res, n, at))
		}
	}
}

func TestSpansChangesAndKeepsNothing(t *testing.T) {
	l := longer([]api.Event{invoke(0, 1, op(1, 7), 0), invoke(1, 1, op(2, 0), 1), returns(0, 1, done, 5), returns(1, 1, got(7), 6)}, returns(9, 9, bad, 9))
	was := slices.Clone(l[:cap(l)])
	want := []api.Span{span(0, 1, op(1, 7), done, 0, 5), span(1, 1, op(2, 0), got(7), 1, 6)}
	s := Spans(l)
	stays(t, "what was handed in", l[:cap(l)], was)
	for i := range l {
		l[i] = returns(8, 8, bad, 8)
	}
	stays(t, "what was told", s, want)
	copy(l, was)
	again := Spans(l)
	for i := range again {
		again[i] = api.Span{}
	}
	stays(t, "what was told first", s, want)
	spans(t, "once more", l, want...)
}

// TestSpansOfMany ends in time only if no event is asked of all others.
func TestSpansOfMany(t *testing.T) {
	const many = 200000
	var l []api.Event
	for i := range many {
		l = append(l, invoke(i%64, i, op(1, int32(i)), i))
	}
	for i := range many {
		l = append(l, returns(i%64, i, done, many+i))
	}
	s := Spans(l)
	if len(s) != many || Pending(s) != 0 {
		t.Fatalf("%d Invokes, each with a Return, come to %d Spans, of which %d pend", many, len(s), Pending(s))
	}
	for i, x := range s {
		if x != span(i%64, i, op(1, int32(i)), done, i, many+i) {
			t.Fatalf("%d is %+v", i, x)
		}
	}
}

func TestBefore(t *testing.T) {
	for _, c := range []struct {
		to, from int
		is       bool
	}{
		{4, 5, true}, {5, 5, false}, {6, 5, false},
		{0, 1, true}, {0, 0, false}, {0, -1, false}, {1, 0, false}, {1, 1, false}, {1, 2, true},
		{-1, 0, false}, {-1, 1, false}, {-1, 5, false}, {-1, -1, false}, {-1, math.MaxInt, false}, {-2, -1, false}, {-2, 5, false},
		{math.MinInt, math.MaxInt, false}, {math.MinInt, 0, false}, {math.MinInt, math.MinInt, false}, {math.MinInt, -1, false},
		{0, math.MaxInt, true}, {math.MaxInt - 1, math.MaxInt, true}, {math.MaxInt, math.MaxInt, false}, {math.MaxInt, math.MinInt, false}, {0, math.MinInt, false},
		{1 << 32, 1<<32 + 1, true}, {1<<32 + 1, 1 << 32, false}, {1 << 32, 1, false}, {1, 1 << 32, true},
	} {
		for _, other := range []int{math.MinInt, -1, 0, 3, 9, math.MaxInt} { // neither when the first began, nor when the second was told
			for _, id := range []int{0, 1} {
				a, b := span(0, 1, op(1, 7), done, other, c.to), span(id, 1+id, op(2, 0), nothing, c.from, other)
				if Before(a, b) != c.is {
					t.Errorf("Before of %+v, %+v is %v", a, b, !c.is)
				}
			}
		}
	}
}

func TestPending(t *testing.T) {
	for _, c := range []struct {
		to   []int
		want int
	}{
		{nil, 0}, {[]int{-1}, 1}, {[]int{0}, 0}, {[]int{1}, 0}, {[]int{-2}, 1}, {[]int{math.MinInt}, 1}, {[]int{math.MaxInt}, 0},
		{[]int{-1, -1}, 2}, {[]int{0, 0}, 0}, {[]int{-1, 0, 5, -7, -1}, 3}, {[]int{5, -1}, 1}, {[]int{-1, 5}, 1}, {slices.Repeat([]int{-1, 3}, 1000), 1000},
	} {
		var l []api.Span
		for _, to := range c.to {
			l = append(l, span(0, 1, op(1, 7), done, -1, to))
		}
		l = longer(l, span(0, 1, op(1, 7), nothing, 0, -1))
		was := slices.Clone(l[:cap(l)])
		if n := Pending(l); n != c.want {
			t.Errorf("Pending of To %v is %d, not %d", c.to, n, c.want)
		}
		stays(t, "what was handed in", l[:cap(l)], was)
	}
	if n := Pending([]api.Span{}); n != 0 {
		t.Errorf("Pending of none is %d", n)
	}
}

func ExampleSpans() {
	fmt.Printf("%+v", Spans([]api.Event{invoke(0, 1, op(api.Push, 7), 0), returns(0, 1, done, 34)}))
	// Output: [{Thread:0 Seq:1 Op:{Kind:1 Val:7} Res:{Code:1 Val:0} From:0 To:34}]
}
