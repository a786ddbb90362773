package ring

import (
	"math"
	"slices"
	"testing"

	"reaper/api"
)

// end is one end of a deque: its two methods, its two kinds, and all items as they are seen from there.
type end struct {
	name      string
	push      func(*Ring, int32) bool
	pop       func(*Ring) (int32, bool)
	pushKind  uint8
	popKind   uint8
	nearFirst func([]int32) []int32
}

// bothEnds are the left one and the right one.
func bothEnds() [2]end {
	return [2]end{
		{"L", (*Ring).PushL, (*Ring).PopL, 1, 3, slices.Clone[[]int32]},
		{"R", (*Ring).PushR, (*Ring).PopR, 2, 4, turned},
	}
}

// turned are values the other way round.
func turned(l []int32) []int32 {
	k := slices.Clone(l)
	slices.Reverse(k)
	return k
}

// counted are the values 1, 2, 3 and so on.
func counted(n int) []int32 {
	l := make([]int32, n)
	for i := range l {
		l[i] = int32(i + 1)
	}
	return l
}

// filled is a deque of most that holds values, from left to right.
func filled(t *testing.T, most int, values ...int32) *Ring {
	t.Helper()
	r := New(most)
	for _, v := range values {
		pushes(t, r, bothEnds()[1], v, true)
	}
	return r
}

// shifted is filled, but its items begin as many cells further on.
func shifted(t *testing.T, by, most int, values ...int32) *Ring {
	t.Helper()
	r := New(most)
	for range by {
		r.PushR(-99)
		r.PopL()
	}
	for _, v := range values {
		pushes(t, r, bothEnds()[1], v, true)
	}
	return r
}

// holds checks all that a deque shows of itself.
func holds(t *testing.T, r *Ring, most int, values ...int32) {
	t.Helper()
	if got := r.Len(); got != len(values) {
		t.Errorf("Len is %d, not %d", got, len(values))
	}
	if got := r.Most(); got != most {
		t.Errorf("Most is %d, not %d", got, most)
	}
	if got := r.Items(); !slices.Equal(got, values) {
		t.Errorf("Items are %v, not %v", got, values)
	}
}

// pushes checks one push at an end.
func pushes(t *testing.T, r *Ring, e end, v int32, is bool) {
	t.Helper()
	if got := e.push(r, v); got != is {
		t.Errorf("Push%s(%d) is %v, not %v", e.name, v, got, is)
	}
}

// pops checks one pop at an end.
func pops(t *testing.T, r *Ring, e end, v int32, is bool) {
	t.Helper()
	if got, ok := e.pop(r); got != v || ok != is {
		t.Errorf("Pop%s is %d, %v, not %d, %v", e.name, got, ok, v, is)
	}
}

// does checks one Do, the value told included.
func does(t *testing.T, r *Ring, o api.Op, want api.Res) {
	t.Helper()
	if got := r.Do(o); got != want {
		t.Errorf("Do(%v) is %v, not %v", o, got, want)
	}
}

func TestExample(t *testing.T) {
	r := New(2)
	if !r.PushL(1) || !r.PushL(2) {
		t.Error("PushL is false")
	}
	if v, is := r.PopR(); v != 1 || !is {
		t.Errorf("PopR is %d, %v", v, is)
	}
	holds(t, r, 2, 2)
}

func TestNewIsEmptyAndBounded(t *testing.T) {
	for _, c := range []struct{ most, is int }{
		{math.MinInt, 0}, {-1000, 0}, {-2, 0}, {-1, 0}, {0, 0}, {1, 1}, {2, 2}, {7, 7},
		{999, 999}, {1000, 1000}, {1001, 1000}, {5000, 1000}, {1 << 32, 1000}, {math.MaxInt, 1000},
	} {
		for _, e := range bothEnds() {
			r := New(c.most)
			if r == nil {
				t.Fatalf("New(%d) is nil", c.most)
			}
			holds(t, r, c.is)
			for _, at := range bothEnds() {
				pops(t, r, at, 0, false)
			}
			for _, v := range counted(c.is) {
				pushes(t, r, e, v, true)
			}
			for _, at := range bothEnds() {
				pushes(t, r, at, -1, false)
			}
			if got, want := e.nearFirst(r.Items()), turned(counted(c.is)); !slices.Equal(got, want) {
				t.Errorf("New(%d) filled at %s, seen from there: %v, not %v", c.most, e.name, got, want)
			}
			holds(t, r, c.is, r.Items()...)
		}
	}
}

func TestPushAndPop(t *testing.T) {
	left, right := bothEnds()[0], bothEnds()[1]
	r := New(5)
	for _, c := range []struct {
		e    end
		push bool
		v    int32
		is   bool
		then []int32
	}{
		{left, true, 3, true, []int32{3}},
		{left, true, 2, true, []int32{2, 3}},
		{right, true, 4, true, []int32{2, 3, 4}},
		{left, true, 1, true, []int32{1, 2, 3, 4}},
		{right, true, 5, true, []int32{1, 2, 3, 4, 5}},
		{left, true, 0, false, []int32{1, 2, 3, 4, 5}},
		{right, true, 6, false, []int32{1, 2, 3, 4, 5}},
		{left, false, 1, true, []int32{2, 3, 4, 5}},
		{right, false, 5, true, []int32{2, 3, 4}},
		{right, true, 9, true, []int32{2, 3, 4, 9}},
		{right, true, 9, true, []int32{2, 3, 4, 9, 9}},
		{right, false, 9, true, []int32{2, 3, 4, 9}},
		{left, false, 2, true, []int32{3, 4, 9}},
		{left, false, 3, true, []int32{4, 9}},
		{right, false, 9, true, []int32{4}},
		{left, false, 4, true, nil},
		{left, false, 0, false, nil},
		{right, false, 0, false, nil},
		{right, true, 8, true, []int32{8}},
		{left, true, 7, true, []int32{7, 8}},
	} {
		if c.push {
			pushes(t, r, c.e, c.v, c.is)
		} else {
			pops(t, r, c.e, c.v, c.is)
		}
		holds(t, r, 5, c.then...)
	}
}

// TestOneItemIsAtBothEnds: what is put at either end of an empty deque comes out at either one.
func TestOneItemIsAtBothEnds(t *testing.T) {
	for _, most := range []int{1, 2, 1000} {
		for _, in := range bothEnds() {
			for _, out := range bothEnds() {
				r := New(most)
				for v := range int32(5) {
					pushes(t, r, in, v, true)
					holds(t, r, most, v)
					pops(t, r, out, v, true)
					holds(t, r, most)
				}
			}
		}
	}
}

func TestDo(t *testing.T) {
	r := New(3)
	for _, c := range []struct {
		o    api.Op
		res  api.Res
		then []int32
	}{
		{api.Op{Kind: 3}, api.Res{Code: 4}, nil},
		{api.Op{Kind: 4}, api.Res{Code: 4}, nil},
		{api.Op{Kind: 1, Val: 7}, api.Res{Code: 1}, []int32{7}},
		{api.Op{Kind: 1, Val: -8}, api.Res{Code: 1}, []int32{-8, 7}},
		{api.Op{Kind: 2, Val: 9}, api.Res{Code: 1}, []int32{-8, 7, 9}},
		{api.Op{Kind: 1, Val: 5}, api.Res{Code: 3}, []int32{-8, 7, 9}},
		{api.Op{Kind: 2, Val: 5}, api.Res{Code: 3}, []int32{-8, 7, 9}},
		{api.Op{Kind: 3, Val: 5}, api.Res{Code: 2, Val: -8}, []int32{7, 9}},
		{api.Op{Kind: 2, Val: 0}, api.Res{Code: 1}, []int32{7, 9, 0}},
		{api.Op{Kind: 4, Val: 5}, api.Res{Code: 2, Val: 0}, []int32{7, 9}},
		{api.Op{Kind: 4, Val: -5}, api.Res{Code: 2, Val: 9}, []int32{7}},
		{api.Op{Kind: 3, Val: -5}, api.Res{Code: 2, Val: 7}, nil},
		{api.Op{Kind: 3, Val: 5}, api.Res{Code: 4}, nil},
		{api.Op{Kind: 4, Val: 5}, api.Res{Code: 4}, nil},
	} {
		does(t, r, c.o, c.res)
		holds(t, r, 3, c.then...)
	}
}

// TestDoIsTheMethods has the methods and Do by turns: both work on the same items.
func TestDoIsTheMethods(t *testing.T) {
	left, right := bothEnds()[0], bothEnds()[1]
	r := filled(t, 4, 2)
	does(t, r, api.Op{Kind: api.PushL, Val: 1}, api.Res{Code: api.Done})
	pushes(t, r, right, 3, true)
	does(t, r, api.Op{Kind: api.PushR, Val: 4}, api.Res{Code: api.Done})
	holds(t, r, 4, 1, 2, 3, 4)
	does(t, r, api.Op{Kind: api.PopR}, api.Res{Code: api.Got, Val: 4})
	pops(t, r, left, 1, true)
	does(t, r, api.Op{Kind: api.PopL}, api.Res{Code: api.Got, Val: 2})
	pops(t, r, right, 3, true)
	does(t, r, api.Op{Kind: api.PopL}, api.Res{Code: api.Empty})
	pops(t, r, left, 0, false)
}

func TestDoOfAnyOtherKind(t *testing.T) {
	for n := range 256 {
		kind := uint8(n)
		if 1 <= kind && kind <= 4 {
			continue
		}
		for _, v := range []int32{0, 1, -1, math.MinInt32, math.MaxInt32} {
			o := api.Op{Kind: kind, Val: v}
			for _, r := range []*Ring{New(-1), New(0), New(3), filled(t, 3, 4), shifted(t, 2, 3, 4, 5, 6)} {
				was := r.Items()
				does(t, r, o, api.Res{Code: api.Bad})
				holds(t, r, r.Most(), was...)
			}
			does(t, nil, o, api.Res{Code: api.Bad})
		}
	}
}

// TestFullLeavesAllAsItWas: at either end, wherever in the ring the items begin.
func TestFullLeavesAllAsItWas(t *testing.T) {
	for _, most := range []int{-1, 0, 1, 2, 3, 999, 1000, 1001} {
		n := min(max(most, 0), 1000)
		for _, by := range []int{0, 1, 2, n - 1} {
			r := shifted(t, max(by, 0), most, counted(n)...)
			for _, e := range bothEnds() {
				for _, v := range []int32{0, 1, -1, 77, math.MinInt32, math.MaxInt32} {
					pushes(t, r, e, v, false)
					does(t, r, api.Op{Kind: e.pushKind, Val: v}, api.Res{Code: api.Full})
					holds(t, r, n, counted(n)...)
				}
			}
		}
	}
}

// TestRoomAgainAfterFull: a push that was refused takes no room, and a pop at one end makes room for one at either end.
func TestRoomAgainAfterFull(t *testing.T) {
	for _, out := range bothEnds() {
		for _, in := range bothEnds() {
			r := filled(t, 3, 1, 2, 3)
			pushes(t, r, in, 8, false)
			pushes(t, r, out, 9, false)
			v, _ := out.pop(r)
			want := slices.DeleteFunc([]int32{1, 2, 3}, func(k int32) bool { return k == v })
			pushes(t, r, in, 4, true)
			for _, e := range bothEnds() {
				pushes(t, r, e, 5, false)
			}
			if in.name == "L" {
				want = append([]int32{4}, want...)
			} else {
				want = append(want, 4)
			}
			holds(t, r, 3, want...)
		}
	}
}

// TestEmptyLeavesAllAsItWas: pops of nothing, at either end, take no room and give none.
func TestEmptyLeavesAllAsItWas(t *testing.T) {
	for _, most := range []int{-1, 0, 1, 2, 3, 1000, 1001} {
		n := min(max(most, 0), 1000)
		for _, by := range []int{0, 1, 2, 999} {
			r := shifted(t, by, most)
			for range 2 {
				for _, e := range bothEnds() {
					for range 3 {
						pops(t, r, e, 0, false)
						does(t, r, api.Op{Kind: e.popKind, Val: 9}, api.Res{Code: api.Empty})
						holds(t, r, n)
					}
				}
				for _, v := range counted(n) {
					pushes(t, r, bothEnds()[1], v, true)
				}
				pushes(t, r, bothEnds()[1], -1, false)
				holds(t, r, n, counted(n)...)
				for _, v := range counted(n) {
					pops(t, r, bothEnds()[0], v, true)
				}
			}
		}
	}
}

func TestAnyValue(t *testing.T) {
	for _, v := range []int32{math.MinInt32, math.MinInt32 + 1, -65537, -256, -1, 0, 1, 255, 65536, math.MaxInt32 - 1, math.MaxInt32} {
		for _, e := range bothEnds() {
			r := New(3)
			pushes(t, r, e, v, true)
			pushes(t, r, e, ^v, true)
			does(t, r, api.Op{Kind: e.pushKind, Val: v}, api.Res{Code: api.Done})
			holds(t, r, 3, v, ^v, v)
			does(t, r, api.Op{Kind: e.pushKind, Val: v}, api.Res{Code: api.Full})
			does(t, r, api.Op{Kind: e.popKind, Val: ^v}, api.Res{Code: api.Got, Val: v})
			pops(t, r, e, ^v, true)
			does(t, r, api.Op{Kind: e.popKind, Val: ^v}, api.Res{Code: api.Got, Val: v})
			does(t, r, api.Op{Kind: e.popKind, Val: v}, api.Res{Code: api.Empty})
		}
	}
}

// TestLastComesFirstAtOneEnd goes up and down at one end alone, each time less far down.
func TestLastComesFirstAtOneEnd(t *testing.T) {
	for _, most := range []int{1, 2, 3, 64, 999, 1000} {
		for _, e := range bothEnds() {
			r := New(most)
			var up []int32
			next := int32(0)
			for round := range 10 {
				for len(up) < most {
					next++
					pushes(t, r, e, next, true)
					up = append(up, next)
				}
				if got := e.nearFirst(r.Items()); !slices.Equal(got, turned(up)) {
					t.Fatalf("Items, seen from %s, are %v, not %v", e.name, got, turned(up))
				}
				for range min(most/(round+1)+1, len(up)) {
					pops(t, r, e, up[len(up)-1], true)
					up = up[:len(up)-1]
				}
			}
		}
	}
}

// TestFirstComesFirstAtTheOther goes round the ring many times, both ways, with each number of items that stay in it.
func TestFirstComesFirstAtTheOther(t *testing.T) {
	for _, most := range []int{1, 2, 3, 7, 64} {
		for way, in := range bothEnds() {
			out := bothEnds()[1-way]
			for stay := range most {
				r := New(most)
				var want []int32
				for v := range int32(4*most + stay) {
					pushes(t, r, in, v, true)
					want = append(want, v)
					if len(want) > stay {
						pops(t, r, out, want[0], true)
						want = want[1:]
					}
					if got := out.nearFirst(r.Items()); !slices.Equal(got, want) {
						t.Fatalf("%d of %d: Items, seen from %s, are %v, not %v", stay, most, out.name, got, want)
					}
				}
			}
		}
	}
}

// TestRoundWhileFull: of a deque that is full, each pop at one end and push at the other one turns the ring by a cell.
func TestRoundWhileFull(t *testing.T) {
	for _, most := range []int{1, 2, 3, 999, 1000} {
		for way, in := range bothEnds() {
			out := bothEnds()[1-way]
			r := New(most)
			for v := range int32(most) {
				pushes(t, r, in, v, true)
			}
			for v := range int32(3*most + 1) {
				pushes(t, r, in, -1, false)
				pops(t, r, out, v, true)
				pushes(t, r, in, v+int32(most), true)
			}
			for v := range int32(most) {
				pops(t, r, out, v+int32(3*most+1), true)
			}
			holds(t, r, most)
		}
	}
}

// TestItemsAreNewMemory: also where the items go over the ring's last cell.
func TestItemsAreNewMemory(t *testing.T) {
	for by := range 7 {
		r := shifted(t, by, 6, 1, 2, 3)
		l, k := r.Items(), r.Items()
		l[0], l[2] = 9, 9
		_ = append(l[:1], 8, 8, 8, 8, 8)
		if !slices.Equal(k, []int32{1, 2, 3}) {
			t.Errorf("two answers of Items share memory: %v", k)
		}
		holds(t, r, 6, 1, 2, 3)
		_ = append(k, 7, 7, 7)
		r.PushR(4)
		r.PushL(0)
		holds(t, r, 6, 0, 1, 2, 3, 4)
		for range 5 {
			r.PopL()
		}
		for v := range int32(6) {
			r.PushR(50 + v)
		}
		if !slices.Equal(k, []int32{1, 2, 3}) {
			t.Errorf("Items changed with the deque: %v", k)
		}
	}
}

// TestAllMayBeLeft: who goes through the items may stop at any of them.
func TestAllMayBeLeft(t *testing.T) {
	r := shifted(t, 3, 4, 1, 2, 3, 4)
	for stop := range int32(5) {
		var seen []int32
		for v := range r.all {
			if v > stop {
				break
			}
			seen = append(seen, v)
		}
		if !slices.Equal(seen, counted(int(stop))) {
			t.Errorf("up to %d: %v", stop, seen)
		}
	}
	holds(t, r, 4, 1, 2, 3, 4)
}

// TestNothingBehindTheLength: what was popped is handed out by nothing.
func TestNothingBehindTheLength(t *testing.T) {
	r := filled(t, 9, 1, 2, 3, 4, 5, 6, 7)
	for range 2 {
		r.PopL()
		r.PopR()
	}
	empty := filled(t, 9, 1, 2, 3)
	for range 3 {
		empty.PopL()
	}
	for _, l := range [][]int32{r.Items(), r.Copy().Items(), empty.Items(), New(9).Items(), (*Ring)(nil).Items()} {
		for i, v := range l[:cap(l)][len(l):] {
			if v != 0 {
				t.Errorf("behind the %d items stands %d at %d", len(l), v, i)
			}
		}
	}
}

func TestCopyIsTheSame(t *testing.T) {
	for _, c := range []struct {
		by, most int
		values   []int32
	}{
		{0, -5, nil}, {0, 0, nil}, {0, 1, nil}, {1, 1, []int32{7}}, {0, 5, []int32{3, 1, 2}}, {3, 5, []int32{3, 1, 2}},
		{4, 5, counted(5)}, {0, 1000, counted(1000)}, {500, 1000, counted(1000)}, {999, 2000, counted(999)},
	} {
		for way, e := range bothEnds() {
			r := shifted(t, c.by, c.most, c.values...)
			k := r.Copy()
			if k == nil || k == r {
				t.Fatalf("the copy of a deque of %d is nil, or that deque", c.most)
			}
			n := r.Most()
			holds(t, k, n, c.values...)
			for range n - len(c.values) {
				pushes(t, k, e, 0, true)
			}
			pushes(t, k, e, 0, false)
			for range n - len(c.values) {
				pops(t, k, e, 0, true)
			}
			other := bothEnds()[1-way]
			for _, v := range other.nearFirst(c.values) {
				pops(t, k, other, v, true)
			}
			pops(t, k, other, 0, false)
			holds(t, r, n, c.values...)
		}
	}
}

func TestCopyKnowsNothingOfTheOther(t *testing.T) {
	for by := range 9 {
		r := shifted(t, by, 8, 1, 2, 3, 4)
		r.PopR()
		k := r.Copy()
		r.PushR(10)
		r.PushL(11)
		holds(t, k, 8, 1, 2, 3)
		k.PushR(20)
		k.PushL(21)
		holds(t, r, 8, 11, 1, 2, 3, 10)
		holds(t, k, 8, 21, 1, 2, 3, 20)
		for range 2 {
			r.PopL()
			r.PopR()
		}
		does(t, r, api.Op{Kind: api.PushL, Val: 30}, api.Res{Code: api.Done})
		holds(t, r, 8, 30, 2)
		holds(t, k, 8, 21, 1, 2, 3, 20)
		for range 5 {
			k.PopL()
		}
		for v := range int32(8) {
			does(t, k, api.Op{Kind: api.PushR, Val: 40 + v}, api.Res{Code: api.Done})
		}
		holds(t, k, 8, 40, 41, 42, 43, 44, 45, 46, 47)
		holds(t, r, 8, 30, 2)
		d := k.Copy()
		d.PopL()
		d.PushR(50)
		holds(t, k, 8, 40, 41, 42, 43, 44, 45, 46, 47)
		holds(t, d, 8, 41, 42, 43, 44, 45, 46, 47, 50)
	}
}

func TestTwoDequesKnowNothingOfOneAnother(t *testing.T) {
	a, b := New(3), New(2)
	a.PushL(1)
	holds(t, b, 2)
	b.PushL(2)
	b.PushR(3)
	holds(t, a, 3, 1)
	pops(t, a, bothEnds()[1], 1, true)
	pops(t, a, bothEnds()[0], 0, false)
	holds(t, b, 2, 2, 3)
}

// TestNilDeque has a nil one beside New of 0, call by call.
func TestNilDeque(t *testing.T) {
	var r *Ring
	for _, k := range []*Ring{r, New(0), r.Copy(), New(0).Copy()} {
		for _, v := range []int32{math.MinInt32, -1, 0, 1, math.MaxInt32} {
			for _, e := range bothEnds() {
				pushes(t, k, e, v, false)
				does(t, k, api.Op{Kind: e.pushKind, Val: v}, api.Res{Code: api.Full})
				pops(t, k, e, 0, false)
				does(t, k, api.Op{Kind: e.popKind, Val: v}, api.Res{Code: api.Empty})
			}
			for _, kind := range []uint8{0, 5, 6, 255} {
				does(t, k, api.Op{Kind: kind, Val: v}, api.Res{Code: api.Bad})
			}
			holds(t, k, 0)
		}
	}
	if r.Copy() == nil {
		t.Error("the copy of nil is nil, not New of 0")
	}
}

// model is the chapter's deque, its items in one list from left to right.
type model struct {
	most  int
	items []int32
}

// do is Do as the chapter says it.
func (k *model) do(o api.Op) api.Res {
	n := len(k.items)
	switch {
	case o.Kind < 1 || o.Kind > 4:
		return api.Res{Code: 5}
	case o.Kind <= 2 && n == k.most:
		return api.Res{Code: 3}
	case o.Kind == 1:
		k.items = append([]int32{o.Val}, k.items...)
		return api.Res{Code: 1}
	case o.Kind == 2:
		k.items = append(k.items, o.Val)
		return api.Res{Code: 1}
	case n == 0:
		return api.Res{Code: 4}
	case o.Kind == 3:
		v := k.items[0]
		k.items = k.items[1:]
		return api.Res{Code: 2, Val: v}
	}
	v := k.items[n-1]
	k.items = k.items[:n-1]
	return api.Res{Code: 2, Val: v}
}

// byMethod is Do by the pushes and pops themselves.
func byMethod(r *Ring, o api.Op) api.Res {
	for _, e := range bothEnds() {
		switch o.Kind {
		case e.pushKind:
			if e.push(r, o.Val) {
				return api.Res{Code: 1}
			}
			return api.Res{Code: 3}
		case e.popKind:
			if v, is := e.pop(r); is || v != 0 {
				return api.Res{Code: 2, Val: v}
			}
			return api.Res{Code: 4}
		}
	}
	return r.Do(o)
}

// held does operations on a deque and on the model, by turns by Do and by the methods, and now and then goes on with a copy.
func held(t *testing.T, most int, ops []api.Op) {
	t.Helper()
	r, k := New(most), &model{most: min(max(most, 0), 1000)}
	for i, o := range ops {
		do := (*Ring).Do
		if i%3 == 1 {
			do = byMethod
		}
		if got, want := do(r, o), k.do(o); got != want {
			t.Fatalf("operation %d, %v, is told %v, not %v", i, o, got, want)
		}
		holds(t, r, k.most, k.items...)
		// Not often: a copy's items may begin anew at its first cell, and the ring is to be gone round.
		if i%997 == 996 {
			r = r.Copy()
		}
	}
}

// TestLongRuns has operations that come of a short rule: now more pushes, now more pops, now as many at the other end.
func TestLongRuns(t *testing.T) {
	for _, most := range []int{-1, 0, 1, 2, 3, 5, 50, 1000, 1001} {
		ops := make([]api.Op, 6000)
		state := uint32(most + 7)
		for i := range ops {
			state = state*1664525 + 1013904223
			kind := uint8(1 + (i/600+i%2*(i/1200))%4)
			if state>>28 < 5 {
				kind = uint8(state >> 24 & 7)
			}
			ops[i] = api.Op{Kind: kind, Val: int32(state)}
		}
		held(t, most, ops)
	}
}

// TestAllShortRuns has every run of seven operations of the four kinds, at deques of few cells.
func TestAllShortRuns(t *testing.T) {
	for most := range 4 {
		for run := range 1 << 14 {
			ops := make([]api.Op, 7)
			for i := range ops {
				ops[i] = api.Op{Kind: uint8(1 + run>>(2*i)&3), Val: int32(i + 1)}
			}
			held(t, most, ops)
		}
	}
}

// FuzzRing holds a deque to the model, whatever the operations are.
func FuzzRing(f *testing.F) {
	f.Add(2, []byte{1, 5, 1, 6, 1, 7, 4, 0, 2, 8, 3, 0, 3, 0, 4, 0, 0, 1, 5, 1, 255, 1})
	f.Add(-1, []byte{1, 5, 2, 5, 3, 0, 4, 0})
	f.Add(1001, []byte{1, 128, 2, 255, 3, 1, 4, 1})
	f.Fuzz(func(t *testing.T, most int, b []byte) {
		var ops []api.Op
		for ; len(b) >= 2; b = b[2:] {
			ops = append(ops, api.Op{Kind: b[0], Val: int32(int8(b[1])) << (b[1] % 25)})
		}
		held(t, most, ops)
	})
}
