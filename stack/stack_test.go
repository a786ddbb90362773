package stack

import (
	"math"
	"slices"
	"testing"

	"reaper/api"
)

// filled is a stack of most, onto which values were pushed, the first one first.
func filled(t *testing.T, most int, values ...int32) *Stack {
	t.Helper()
	s := New(most)
	for _, v := range values {
		if !s.Push(v) {
			t.Fatalf("Push(%d) onto a stack of %d that holds %v is false", v, most, s.Items())
		}
	}
	return s
}

// holds checks all that a stack shows of itself.
func holds(t *testing.T, s *Stack, most int, values ...int32) {
	t.Helper()
	if got := s.Len(); got != len(values) {
		t.Errorf("Len is %d, not %d", got, len(values))
	}
	if got := s.Most(); got != most {
		t.Errorf("Most is %d, not %d", got, most)
	}
	if got := s.Items(); !slices.Equal(got, values) {
		t.Errorf("Items are %v, not %v", got, values)
	}
}

// pops checks one Pop.
func pops(t *testing.T, s *Stack, v int32, is bool) {
	t.Helper()
	if got, ok := s.Pop(); got != v || ok != is {
		t.Errorf("Pop is %d, %v, not %d, %v", got, ok, v, is)
	}
}

// does checks one Do, the value told included.
func does(t *testing.T, s *Stack, o api.Op, want api.Res) {
	t.Helper()
	if got := s.Do(o); got != want {
		t.Errorf("Do(%v) is %v, not %v", o, got, want)
	}
}

// counted are the values 1, 2, 3 and so on.
func counted(n int) []int32 {
	l := make([]int32, n)
	for i := range l {
		l[i] = int32(i + 1)
	}
	return l
}

func TestExample(t *testing.T) {
	s := New(1)
	if !s.Push(5) {
		t.Error("Push(5) is false")
	}
	if s.Push(6) {
		t.Error("Push(6) is true")
	}
	pops(t, s, 5, true)
}

func TestNewIsEmptyAndBounded(t *testing.T) {
	for _, c := range []struct{ most, is int }{
		{math.MinInt, 0}, {-1000, 0}, {-2, 0}, {-1, 0}, {0, 0}, {1, 1}, {2, 2}, {7, 7},
		{999, 999}, {1000, 1000}, {1001, 1000}, {5000, 1000}, {1 << 32, 1000}, {math.MaxInt, 1000},
	} {
		s := New(c.most)
		if s == nil {
			t.Fatalf("New(%d) is nil", c.most)
		}
		holds(t, s, c.is)
		pops(t, s, 0, false)
		for i := range c.is {
			if !s.Push(int32(i + 1)) {
				t.Fatalf("New(%d): push %d is false", c.most, i+1)
			}
		}
		if s.Push(-1) {
			t.Errorf("New(%d): push %d is true", c.most, c.is+1)
		}
		holds(t, s, c.is, counted(c.is)...)
	}
}

func TestPushAndPop(t *testing.T) {
	s := filled(t, 5, 3, 1, 2)
	holds(t, s, 5, 3, 1, 2)
	pops(t, s, 2, true)
	holds(t, s, 5, 3, 1)
	s.Push(9)
	s.Push(9)
	holds(t, s, 5, 3, 1, 9, 9)
	pops(t, s, 9, true)
	pops(t, s, 9, true)
	pops(t, s, 1, true)
	pops(t, s, 3, true)
	pops(t, s, 0, false)
	holds(t, s, 5)
	s.Push(4)
	holds(t, s, 5, 4)
}

func TestDo(t *testing.T) {
	s := New(2)
	for _, c := range []struct {
		o    api.Op
		res  api.Res
		then []int32
	}{
		{api.Op{Kind: 2}, api.Res{Code: 4}, nil},
		{api.Op{Kind: 1, Val: 7}, api.Res{Code: 1}, []int32{7}},
		{api.Op{Kind: 1, Val: -8}, api.Res{Code: 1}, []int32{7, -8}},
		{api.Op{Kind: 1, Val: 9}, api.Res{Code: 3}, []int32{7, -8}},
		{api.Op{Kind: 2}, api.Res{Code: 2, Val: -8}, []int32{7}},
		{api.Op{Kind: 1, Val: 0}, api.Res{Code: 1}, []int32{7, 0}},
		{api.Op{Kind: 2, Val: 5}, api.Res{Code: 2, Val: 0}, []int32{7}},
		{api.Op{Kind: 2, Val: -5}, api.Res{Code: 2, Val: 7}, nil},
		{api.Op{Kind: 2, Val: 5}, api.Res{Code: 4}, nil},
	} {
		does(t, s, c.o, c.res)
		holds(t, s, 2, c.then...)
	}
}

// TestDoIsPushAndPop has the methods and Do by turns: both work on the same items.
func TestDoIsPushAndPop(t *testing.T) {
	s := filled(t, 3, 1)
	does(t, s, api.Op{Kind: api.Push, Val: 2}, api.Res{Code: api.Done})
	s.Push(3)
	holds(t, s, 3, 1, 2, 3)
	does(t, s, api.Op{Kind: api.Pop}, api.Res{Code: api.Got, Val: 3})
	pops(t, s, 2, true)
	does(t, s, api.Op{Kind: api.Pop}, api.Res{Code: api.Got, Val: 1})
	pops(t, s, 0, false)
}

func TestDoOfAnyOtherKind(t *testing.T) {
	for n := range 256 {
		kind := uint8(n)
		if kind == api.Push || kind == api.Pop {
			continue
		}
		for _, v := range []int32{0, 1, -1, math.MinInt32, math.MaxInt32} {
			o := api.Op{Kind: kind, Val: v}
			for _, s := range []*Stack{New(0), New(3), filled(t, 3, 4), filled(t, 3, 4, 5, 6)} {
				was := s.Items()
				does(t, s, o, api.Res{Code: api.Bad})
				holds(t, s, s.Most(), was...)
			}
			does(t, nil, o, api.Res{Code: api.Bad})
		}
	}
}

func TestFullLeavesAllAsItWas(t *testing.T) {
	for _, most := range []int{-1, 0, 1, 2, 999, 1000, 1001} {
		n := min(max(most, 0), 1000)
		s := filled(t, most, counted(n)...)
		for _, v := range []int32{0, 1, -1, 77, math.MinInt32, math.MaxInt32} {
			if s.Push(v) {
				t.Errorf("Push(%d) onto %d of %d is true", v, n, n)
			}
			does(t, s, api.Op{Kind: api.Push, Val: v}, api.Res{Code: api.Full})
			holds(t, s, n, counted(n)...)
		}
	}
}

// TestRoomAgainAfterFull: a push that was refused takes no room, and a pop makes room for one.
func TestRoomAgainAfterFull(t *testing.T) {
	s := filled(t, 2, 1, 2)
	s.Push(3)
	s.Push(4)
	pops(t, s, 2, true)
	if !s.Push(5) || s.Push(6) {
		t.Error("behind one pop there is not room for just one")
	}
	holds(t, s, 2, 1, 5)
}

func TestEmptyLeavesAllAsItWas(t *testing.T) {
	for _, most := range []int{-1, 0, 1, 2, 1000, 1001} {
		n := min(max(most, 0), 1000)
		s := New(most)
		for range 3 {
			pops(t, s, 0, false)
			does(t, s, api.Op{Kind: api.Pop, Val: 9}, api.Res{Code: api.Empty})
			holds(t, s, n)
		}
		for i, v := range counted(n) {
			if !s.Push(v) {
				t.Fatalf("New(%d): push %d behind pops of nothing is false", most, i)
			}
		}
		holds(t, s, n, counted(n)...)
		for range n {
			s.Pop()
		}
		pops(t, s, 0, false)
		does(t, s, api.Op{Kind: api.Pop}, api.Res{Code: api.Empty})
		holds(t, s, n)
	}
}

func TestAnyValue(t *testing.T) {
	for _, v := range []int32{math.MinInt32, math.MinInt32 + 1, -65537, -256, -1, 0, 1, 255, 65536, math.MaxInt32 - 1, math.MaxInt32} {
		s := filled(t, 4, v, ^v, v)
		holds(t, s, 4, v, ^v, v)
		does(t, s, api.Op{Kind: api.Push, Val: v}, api.Res{Code: api.Done})
		holds(t, s, 4, v, ^v, v, v)
		does(t, s, api.Op{Kind: api.Push, Val: v}, api.Res{Code: api.Full})
		does(t, s, api.Op{Kind: api.Pop, Val: ^v}, api.Res{Code: api.Got, Val: v})
		pops(t, s, v, true)
		pops(t, s, ^v, true)
		does(t, s, api.Op{Kind: api.Pop, Val: ^v}, api.Res{Code: api.Got, Val: v})
		does(t, s, api.Op{Kind: api.Pop, Val: v}, api.Res{Code: api.Empty})
	}
}

// TestLastComesFirst goes up and down over all of a stack, each time less far down.
func TestLastComesFirst(t *testing.T) {
	for _, most := range []int{1, 2, 3, 64, 999, 1000} {
		s := New(most)
		var up []int32
		next := int32(0)
		for round := range 10 {
			for len(up) < most {
				next++
				s.Push(next)
				up = append(up, next)
			}
			holds(t, s, most, up...)
			for range most/(round+1) + 1 {
				if len(up) == 0 {
					break
				}
				pops(t, s, up[len(up)-1], true)
				up = up[:len(up)-1]
			}
			holds(t, s, most, up...)
		}
	}
}

func TestItemsAreNewMemory(t *testing.T) {
	s := filled(t, 6, 1, 2, 3)
	l, k := s.Items(), s.Items()
	l[0], l[2] = 9, 9
	_ = append(l[:1], 8, 8, 8, 8, 8)
	if !slices.Equal(k, []int32{1, 2, 3}) {
		t.Errorf("two answers of Items share memory: %v", k)
	}
	holds(t, s, 6, 1, 2, 3)
	_ = append(k, 7, 7, 7)
	s.Push(4)
	holds(t, s, 6, 1, 2, 3, 4)
	for range 4 {
		s.Pop()
	}
	s.Push(5)
	s.Push(6)
	if !slices.Equal(k, []int32{1, 2, 3}) {
		t.Errorf("Items changed with the stack: %v", k)
	}
}

// TestNothingBehindTheLength: what was popped is handed out by nothing.
func TestNothingBehindTheLength(t *testing.T) {
	s := filled(t, 9, 1, 2, 3, 4, 5, 6, 7)
	for range 4 {
		s.Pop()
	}
	empty := filled(t, 9, 1, 2, 3)
	for range 3 {
		empty.Pop()
	}
	for _, l := range [][]int32{s.Items(), s.Copy().Items(), empty.Items(), New(9).Items(), (*Stack)(nil).Items()} {
		for i, v := range l[:cap(l)][len(l):] {
			if v != 0 {
				t.Errorf("behind the %d items stands %d at %d", len(l), v, i)
			}
		}
	}
}

func TestCopyIsTheSame(t *testing.T) {
	for _, c := range []struct {
		most   int
		values []int32
	}{
		{-5, nil}, {0, nil}, {1, nil}, {1, []int32{7}}, {5, []int32{3, 1, 2}}, {1000, counted(1000)}, {2000, counted(999)},
	} {
		s := filled(t, c.most, c.values...)
		k := s.Copy()
		if k == nil || k == s {
			t.Fatalf("the copy of a stack of %d is nil, or that stack", c.most)
		}
		n := s.Most()
		holds(t, k, n, c.values...)
		for range n - len(c.values) {
			if !k.Push(0) {
				t.Fatalf("the copy of a stack of %d has less room", c.most)
			}
		}
		if k.Push(0) {
			t.Errorf("the copy of a stack of %d has more room", c.most)
		}
		for range n - len(c.values) {
			pops(t, k, 0, true)
		}
		for _, v := range slices.Backward(c.values) {
			pops(t, k, v, true)
		}
		pops(t, k, 0, false)
		holds(t, s, n, c.values...)
	}
}

func TestCopyKnowsNothingOfTheOther(t *testing.T) {
	s := filled(t, 8, 1, 2, 3, 4)
	s.Pop()
	c := s.Copy()
	s.Push(10)
	holds(t, c, 8, 1, 2, 3)
	c.Push(20)
	holds(t, s, 8, 1, 2, 3, 10)
	holds(t, c, 8, 1, 2, 3, 20)
	for range 3 {
		s.Pop()
	}
	s.Push(30)
	holds(t, s, 8, 1, 30)
	holds(t, c, 8, 1, 2, 3, 20)
	for range 4 {
		c.Pop()
	}
	does(t, c, api.Op{Kind: api.Push, Val: 40}, api.Res{Code: api.Done})
	holds(t, c, 8, 40)
	holds(t, s, 8, 1, 30)
	d := c.Copy()
	d.Pop()
	d.Push(50)
	holds(t, c, 8, 40)
	holds(t, d, 8, 50)
}

func TestTwoStacksKnowNothingOfOneAnother(t *testing.T) {
	a, b := New(3), New(2)
	a.Push(1)
	holds(t, b, 2)
	b.Push(2)
	b.Push(3)
	holds(t, a, 3, 1)
	pops(t, a, 1, true)
	pops(t, a, 0, false)
	holds(t, b, 2, 2, 3)
}

// TestNilStack has a nil one beside New of 0, call by call.
func TestNilStack(t *testing.T) {
	var s *Stack
	for _, k := range []*Stack{s, New(0), s.Copy(), New(0).Copy()} {
		for _, v := range []int32{math.MinInt32, -1, 0, 1, math.MaxInt32} {
			if k.Push(v) {
				t.Errorf("Push(%d) is true", v)
			}
			does(t, k, api.Op{Kind: api.Push, Val: v}, api.Res{Code: api.Full})
			pops(t, k, 0, false)
			does(t, k, api.Op{Kind: api.Pop, Val: v}, api.Res{Code: api.Empty})
			for _, kind := range []uint8{0, 3, 4, 255} {
				does(t, k, api.Op{Kind: kind, Val: v}, api.Res{Code: api.Bad})
			}
			holds(t, k, 0)
		}
	}
	if s.Copy() == nil {
		t.Error("the copy of nil is nil, not New of 0")
	}
}

// model is the chapter's stack, its items the highest first.
type model struct {
	most  int
	items []int32
}

// do is Do as the chapter says it.
func (k *model) do(o api.Op) api.Res {
	switch {
	case o.Kind == 1 && len(k.items) == k.most:
		return api.Res{Code: 3}
	case o.Kind == 1:
		k.items = append([]int32{o.Val}, k.items...)
		return api.Res{Code: 1}
	case o.Kind == 2 && len(k.items) == 0:
		return api.Res{Code: 4}
	case o.Kind == 2:
		v := k.items[0]
		k.items = k.items[1:]
		return api.Res{Code: 2, Val: v}
	}
	return api.Res{Code: 5}
}

// lowestFirst is what Items is to tell.
func (k *model) lowestFirst() []int32 {
	l := slices.Clone(k.items)
	slices.Reverse(l)
	return l
}

// byMethod is Do by Push and Pop themselves.
func byMethod(s *Stack, o api.Op) api.Res {
	switch o.Kind {
	case 1:
		if s.Push(o.Val) {
			return api.Res{Code: 1}
		}
		return api.Res{Code: 3}
	case 2:
		if v, is := s.Pop(); is || v != 0 {
			return api.Res{Code: 2, Val: v}
		}
		return api.Res{Code: 4}
	}
	return s.Do(o)
}

// held does operations on a stack and on the model, by turns by Do, by the methods, and on a copy.
func held(t *testing.T, most int, ops []api.Op) {
	t.Helper()
	s, k := New(most), &model{most: min(max(most, 0), 1000)}
	for i, o := range ops {
		do := (*Stack).Do
		if i%3 == 1 {
			do = byMethod
		}
		if got, want := do(s, o), k.do(o); got != want {
			t.Fatalf("operation %d, %v, is told %v, not %v", i, o, got, want)
		}
		holds(t, s, k.most, k.lowestFirst()...)
		if i%5 == 4 {
			s = s.Copy()
		}
	}
}

// TestLongRuns has operations that come of a short rule: now more pushes, now more pops.
func TestLongRuns(t *testing.T) {
	for _, most := range []int{-1, 0, 1, 2, 5, 50, 1000, 1001} {
		ops := make([]api.Op, 5000)
		state := uint32(most + 7)
		for i := range ops {
			state = state*1664525 + 1013904223
			kind := uint8(1 + i/1200%2)
			if state>>28 < 5 {
				kind = uint8(state >> 24 & 3)
			}
			ops[i] = api.Op{Kind: kind, Val: int32(state)}
		}
		held(t, most, ops)
	}
}

// FuzzStack holds a stack to the model, whatever the operations are.
func FuzzStack(f *testing.F) {
	f.Add(2, []byte{1, 5, 1, 6, 1, 7, 2, 0, 2, 0, 2, 0, 0, 1, 3, 1, 255, 1})
	f.Add(-1, []byte{1, 5, 2, 5})
	f.Add(1001, []byte{1, 128, 1, 255, 2, 1})
	f.Fuzz(func(t *testing.T, most int, b []byte) {
		var ops []api.Op
		for ; len(b) >= 2; b = b[2:] {
			ops = append(ops, api.Op{Kind: b[0], Val: int32(int8(b[1])) << (b[1] % 25)})
		}
		held(t, most, ops)
	})
}
