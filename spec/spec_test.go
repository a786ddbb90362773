package spec

import (
	"math"
	"slices"
	"testing"

	"reaper/api"
)

const (
	smallest = math.MinInt32
	largest  = math.MaxInt32
)

// What operations are told, but an item.
var (
	done  = api.Res{Code: 1}
	full  = api.Res{Code: 3}
	empty = api.Res{Code: 4}
	bad   = api.Res{Code: 5}
)

// got is what an operation is told that takes an item.
func got(v int32) api.Res {
	return api.Res{Code: 2, Val: v}
}

// op is an operation of a kind and a value.
func op(kind uint8, v int32) api.Op {
	return api.Op{Kind: kind, Val: v}
}

// counted are the values 1, 2, 3 and so on.
func counted(n int) []int32 {
	l := make([]int32, n)
	for i := range l {
		l[i] = int32(i + 1)
	}
	return l
}

// apply is Apply as the chapter says it: of each object and kind what stands behind it, laid anew.
func apply(object uint8, most int, s []int32, o api.Op) ([]int32, api.Res) {
	most = min(max(most, 0), 1000)
	all := slices.Clone(s)
	puts := object >= 1 && object <= 3 && o.Kind == 1 || object == 2 && o.Kind == 2
	takes := object == 1 && o.Kind == 2 || object == 2 && (o.Kind == 3 || o.Kind == 4) || object == 3 && o.Kind == 2
	switch {
	case !puts && !takes:
		return all, bad
	case puts && len(s) >= most:
		return all, full
	case takes && len(s) == 0:
		return all, empty
	case puts:
		at := len(s)
		if object == 2 && o.Kind == 1 {
			at = 0
		}
		for i := len(s) - 1; object == 3 && i >= 0; i-- {
			if s[i] > o.Val {
				at = i
			}
		}
		return slices.Concat(s[:at], []int32{o.Val}, s[at:]), done
	case object == 1 || object == 2 && o.Kind == 4:
		return all[:len(s)-1], got(s[len(s)-1])
	}
	return all[1:], got(s[0])
}

// run is Run as the chapter says it.
func run(object uint8, most int, s []int32, ops []api.Op) ([]int32, []api.Res) {
	told := make([]api.Res, len(ops))
	for i, o := range ops {
		s, told[i] = apply(object, most, s, o)
	}
	return s, told
}

// order is Order as the chapter says it: value by value, from the least that is there on.
func order(object uint8, ops []api.Op) []int {
	var l []int
	for v := int64(smallest); object == 3 && v <= largest; v++ {
		next := int64(largest) + 1
		for i, o := range ops {
			if o.Kind == 1 && int64(o.Val) == v {
				l = append(l, i)
			} else if o.Kind == 1 && int64(o.Val) > v {
				next = min(next, int64(o.Val))
			}
		}
		v = next - 1
	}
	for i, o := range ops {
		if object != 3 || o.Kind != 1 {
			l = append(l, i)
		}
	}
	return l
}

// batch is Batch as the chapter says it: one by one by the order.
func batch(object uint8, most int, s []int32, ops []api.Op) ([]int32, []api.Res) {
	told := make([]api.Res, len(ops))
	for _, i := range order(object, ops) {
		s, told[i] = apply(object, most, s, ops[i])
	}
	return s, told
}

// applies checks one Apply, the value told included.
func applies(t *testing.T, object uint8, most int, s []int32, o api.Op, then []int32, res api.Res) {
	t.Helper()
	items, told := Apply(object, most, s, o)
	if !slices.Equal(items, then) || told != res {
		t.Errorf("Apply of %d of %d, %v, %v is %v, %v, not %v, %v", object, most, s, o, items, told, then, res)
	}
}

// step is an operation: the items ahead of it, those behind it, and what it is told.
type step struct {
	s    []int32
	o    api.Op
	then []int32
	res  api.Res
}

// appliesEach checks Apply of some.
func appliesEach(t *testing.T, object uint8, most int, steps []step) {
	t.Helper()
	for _, c := range steps {
		applies(t, object, most, c.s, c.o, c.then, c.res)
	}
}

// runs checks one Run.
func runs(t *testing.T, object uint8, most int, s []int32, ops []api.Op, then []int32, res []api.Res) {
	t.Helper()
	items, told := Run(object, most, s, ops...)
	if !slices.Equal(items, then) || !slices.Equal(told, res) {
		t.Errorf("Run of %d of %d, %v, %v is %v, %v, not %v, %v", object, most, s, ops, items, told, then, res)
	}
}

// orders checks one Order.
func orders(t *testing.T, object uint8, ops []api.Op, want ...int) {
	t.Helper()
	if l := Order(object, ops); !slices.Equal(l, want) {
		t.Errorf("Order of %d, %v is %v, not %v", object, ops, l, want)
	}
}

// batches checks one Batch.
func batches(t *testing.T, object uint8, most int, s []int32, ops []api.Op, then []int32, res []api.Res) {
	t.Helper()
	items, told := Batch(object, most, s, ops)
	if !slices.Equal(items, then) || !slices.Equal(told, res) {
		t.Errorf("Batch of %d of %d, %v, %v is %v, %v, not %v, %v", object, most, s, ops, items, told, then, res)
	}
}

// likeModel checks all four of the same arguments against the chapter's words.
func likeModel(t *testing.T, object uint8, most int, s []int32, ops []api.Op) {
	t.Helper()
	then, res := run(object, most, s, ops)
	runs(t, object, most, s, ops, then, res)
	orders(t, object, ops, order(object, ops)...)
	then, res = batch(object, most, s, ops)
	batches(t, object, most, s, ops, then, res)
	for _, o := range ops[:min(len(ops), 4)] {
		then, res := apply(object, most, s, o)
		applies(t, object, most, s, o, then, res)
	}
}

// TestExample is the chapter's example.
func TestExample(t *testing.T) {
	batches(t, api.Heap, 2, nil,
		[]api.Op{{Kind: api.Min}, {Kind: api.Add, Val: 5}, {Kind: api.Add, Val: 3}},
		[]int32{5}, []api.Res{{Code: api.Got, Val: 3}, {Code: api.Done}, {Code: api.Done}})
}

// TestApplyOfAStack has both kinds at none, one, some, one less than as many as may be, as many and more.
func TestApplyOfAStack(t *testing.T) {
	appliesEach(t, 1, 4, []step{
		{nil, op(1, 9), []int32{9}, done},
		{[]int32{5}, op(1, 9), []int32{5, 9}, done},
		{[]int32{5, 6}, op(1, 0), []int32{5, 6, 0}, done},
		{[]int32{5, 6, 7}, op(1, -9), []int32{5, 6, 7, -9}, done},
		{[]int32{5, 6, 7, 8}, op(1, 9), []int32{5, 6, 7, 8}, full},
		{[]int32{5, 6, 7, 8, 4}, op(1, 9), []int32{5, 6, 7, 8, 4}, full},
		{[]int32{5, 6, 7, 8, 4, 3}, op(1, 9), []int32{5, 6, 7, 8, 4, 3}, full},
		{nil, op(2, 9), nil, empty},
		{[]int32{5}, op(2, 9), nil, got(5)},
		{[]int32{5, 6}, op(2, 9), []int32{5}, got(6)},
		{[]int32{5, 6, 7}, op(2, 0), []int32{5, 6}, got(7)},
		{[]int32{5, 6, 7, 8}, op(2, 5), []int32{5, 6, 7}, got(8)},
		{[]int32{5, 6, 7, 8, -4}, op(2, 9), []int32{5, 6, 7, 8}, got(-4)},
		{[]int32{5, 6, 7, 8, 4, 0}, op(2, 9), []int32{5, 6, 7, 8, 4}, got(0)},
	})
}

// TestApplyOfADeque has all four kinds likewise.
func TestApplyOfADeque(t *testing.T) {
	appliesEach(t, 2, 4, []step{
		{nil, op(1, 9), []int32{9}, done},
		{[]int32{5}, op(1, 9), []int32{9, 5}, done},
		{[]int32{5, 6}, op(1, 0), []int32{0, 5, 6}, done},
		{[]int32{5, 6, 7}, op(1, -9), []int32{-9, 5, 6, 7}, done},
		{[]int32{5, 6, 7, 8}, op(1, 9), []int32{5, 6, 7, 8}, full},
		{[]int32{5, 6, 7, 8, 4}, op(1, 9), []int32{5, 6, 7, 8, 4}, full},
		{nil, op(2, 9), []int32{9}, done},
		{[]int32{5}, op(2, 9), []int32{5, 9}, done},
		{[]int32{5, 6}, op(2, 0), []int32{5, 6, 0}, done},
		{[]int32{5, 6, 7}, op(2, -9), []int32{5, 6, 7, -9}, done},
		{[]int32{5, 6, 7, 8}, op(2, 9), []int32{5, 6, 7, 8}, full},
		{[]int32{5, 6, 7, 8, 4}, op(2, 9), []int32{5, 6, 7, 8, 4}, full},
		{nil, op(3, 9), nil, empty},
		{[]int32{5}, op(3, 9), nil, got(5)},
		{[]int32{-5, 6}, op(3, 9), []int32{6}, got(-5)},
		{[]int32{5, 6, 7}, op(3, 6), []int32{6, 7}, got(5)},
		{[]int32{0, 6, 7, 8}, op(3, 9), []int32{6, 7, 8}, got(0)},
		{[]int32{5, 6, 7, 8, 4}, op(3, 9), []int32{6, 7, 8, 4}, got(5)},
		{nil, op(4, 9), nil, empty},
		{[]int32{5}, op(4, 9), nil, got(5)},
		{[]int32{5, -6}, op(4, 9), []int32{5}, got(-6)},
		{[]int32{5, 6, 7}, op(4, 5), []int32{5, 6}, got(7)},
		{[]int32{5, 6, 7, 0}, op(4, 9), []int32{5, 6, 7}, got(0)},
		{[]int32{5, 6, 7, 8, 4}, op(4, 9), []int32{5, 6, 7, 8}, got(4)},
	})
}

// TestApplyOfAHeap has both kinds likewise.
func TestApplyOfAHeap(t *testing.T) {
	appliesEach(t, 3, 4, []step{
		{nil, op(1, 9), []int32{9}, done},
		{[]int32{5}, op(1, 9), []int32{5, 9}, done},
		{[]int32{5}, op(1, 4), []int32{4, 5}, done},
		{[]int32{5, 7}, op(1, 6), []int32{5, 6, 7}, done},
		{[]int32{-5, 0, 7}, op(1, -1), []int32{-5, -1, 0, 7}, done},
		{[]int32{5, 6, 7}, op(1, 0), []int32{0, 5, 6, 7}, done},
		{[]int32{5, 6, 7}, op(1, 8), []int32{5, 6, 7, 8}, done},
		{[]int32{5, 6, 7, 8}, op(1, 4), []int32{5, 6, 7, 8}, full},
		{[]int32{5, 6, 7, 8}, op(1, 9), []int32{5, 6, 7, 8}, full},
		{[]int32{5, 6, 7, 8, 9}, op(1, 4), []int32{5, 6, 7, 8, 9}, full},
		{nil, op(2, 9), nil, empty},
		{[]int32{5}, op(2, 9), nil, got(5)},
		{[]int32{0, 6}, op(2, 9), []int32{6}, got(0)},
		{[]int32{-5, 6, 7}, op(2, 6), []int32{6, 7}, got(-5)},
		{[]int32{5, 6, 7, 8}, op(2, 9), []int32{6, 7, 8}, got(5)},
		{[]int32{5, 6, 7, 8, 9}, op(2, 9), []int32{6, 7, 8, 9}, got(5)},
	})
}

// TestAddStandsAheadOfTheFirstThatIsGreater: also where items do not rise, so that it is not the last place that is so, nor one that is found by halves.
func TestAddStandsAheadOfTheFirstThatIsGreater(t *testing.T) {
	for _, c := range []struct {
		s    []int32
		v    int32
		then []int32
	}{
		{[]int32{5, 1, 9}, 3, []int32{3, 5, 1, 9}},
		{[]int32{5, 1, 9}, 5, []int32{5, 1, 5, 9}},
		{[]int32{5, 1, 9}, 9, []int32{5, 1, 9, 9}},
		{[]int32{5, 1, 9}, 0, []int32{0, 5, 1, 9}},
		{[]int32{9, 8, 7, 6, 5, 4}, 4, []int32{4, 9, 8, 7, 6, 5, 4}},
		{[]int32{9, 8, 7, 6, 5, 4}, 8, []int32{8, 9, 8, 7, 6, 5, 4}},
		{[]int32{1, 1, 1, 7, 2, 7, 2}, 2, []int32{1, 1, 1, 2, 7, 2, 7, 2}},
		{[]int32{1, 1, 1, 7, 2, 7, 2}, 7, []int32{1, 1, 1, 7, 2, 7, 2, 7}},
		{[]int32{2, 2, 2}, 2, []int32{2, 2, 2, 2}},
		{[]int32{2, 2, 3, 3}, 2, []int32{2, 2, 2, 3, 3}},
		{[]int32{2, 2, 3, 3}, 1, []int32{1, 2, 2, 3, 3}},
		{[]int32{largest, smallest}, largest, []int32{largest, smallest, largest}},
		{[]int32{largest, smallest}, 0, []int32{0, largest, smallest}},
		{[]int32{smallest, largest}, smallest, []int32{smallest, smallest, largest}},
		{[]int32{smallest, largest}, largest, []int32{smallest, largest, largest}},
	} {
		applies(t, 3, 10, c.s, op(1, c.v), c.then, done)
	}
}

// TestMinTakesTheFirst: also where another one is less.
func TestMinTakesTheFirst(t *testing.T) {
	applies(t, 3, 9, []int32{5, 1, 9}, op(2, 0), []int32{1, 9}, got(5))
	applies(t, 3, 9, []int32{9, 9, 1}, op(2, 0), []int32{9, 1}, got(9))
	applies(t, 3, 9, []int32{largest, 0, smallest}, op(2, 0), []int32{0, smallest}, got(largest))
}

// TestAlikeAtTheEnds: of items that are alike one is put, or taken.
func TestAlikeAtTheEnds(t *testing.T) {
	s := []int32{4, 4, 4}
	for object := uint8(1); object <= 3; object++ {
		applies(t, object, 9, s, op(1, 4), []int32{4, 4, 4, 4}, done)
		applies(t, object, 3, s, op(1, 4), s, full)
	}
	applies(t, 1, 9, s, op(2, 4), []int32{4, 4}, got(4))
	applies(t, 2, 9, s, op(2, 4), []int32{4, 4, 4, 4}, done)
	applies(t, 2, 9, s, op(3, 4), []int32{4, 4}, got(4))
	applies(t, 2, 9, s, op(4, 4), []int32{4, 4}, got(4))
	applies(t, 3, 9, s, op(2, 4), []int32{4, 4}, got(4))
}

// has says whether an object has a kind.
func has(object, kind uint8) bool {
	kinds := [...]uint8{1: 2, 2: 4, 3: 2}
	return int(object) < len(kinds) && kind >= 1 && kind <= kinds[object]
}

// TestBad is of all objects and kinds that there are not, at none, at some, at as many as may be and at more.
func TestBad(t *testing.T) {
	count := 0
	for n := range 256 * 256 {
		object, kind := uint8(n>>8), uint8(n)
		if has(object, kind) {
			continue
		}
		count++
		for _, s := range [][]int32{nil, {6}, {6, 5, 7}, {6, 5, 7, 6}} {
			o := op(kind, 9)
			applies(t, object, 3, s, o, s, bad)
			runs(t, object, 3, s, []api.Op{o}, s, []api.Res{bad})
			batches(t, object, 3, s, []api.Op{o}, s, []api.Res{bad})
		}
	}
	if count != 256*256-8 {
		t.Errorf("%d kinds are had by none, not all but 8", count)
	}
}

// TestBadAtAnyValueAndMost names those that the document's list does, one by one.
func TestBadAtAnyValueAndMost(t *testing.T) {
	for _, k := range [][2]uint8{{0, 1}, {0, 2}, {4, 1}, {4, 3}, {255, 1}, {255, 2}, {1, 0}, {1, 3}, {1, 4}, {1, 255}, {2, 0}, {2, 5}, {2, 255}, {3, 0}, {3, 3}, {3, 4}, {3, 255}} {
		for _, v := range []int32{smallest, -1, 0, 1, largest} {
			for _, most := range []int{math.MinInt, -1, 0, 1, 5, 1000, math.MaxInt} {
				for _, n := range []int{0, 1, 5, 1000, 1001} {
					s := counted(n)
					applies(t, k[0], most, s, op(k[1], v), s, bad)
				}
			}
		}
	}
}

// TestBadBetweenOthers: those behind it are done as if it was not there.
func TestBadBetweenOthers(t *testing.T) {
	runs(t, 1, 9, []int32{7}, []api.Op{op(3, 1), op(1, 5), op(0, 9), op(2, 0), op(255, 0), op(2, 0), op(4, 0)},
		nil, []api.Res{bad, done, bad, got(5), bad, got(7), bad})
	runs(t, 2, 9, []int32{7}, []api.Op{op(5, 1), op(1, 5), op(0, 9), op(4, 0)},
		[]int32{5}, []api.Res{bad, done, bad, got(7)})
	runs(t, 3, 9, []int32{7}, []api.Op{op(3, 1), op(1, 5), op(0, 9), op(2, 0)},
		[]int32{7}, []api.Res{bad, done, bad, got(5)})
}

// puts are all kinds that put, by their objects.
func puts() []struct{ object, kind uint8 } {
	return []struct{ object, kind uint8 }{{1, 1}, {2, 1}, {2, 2}, {3, 1}}
}

// takes are all kinds that take.
func takes() []struct{ object, kind uint8 } {
	return []struct{ object, kind uint8 }{{1, 2}, {2, 3}, {2, 4}, {3, 2}}
}

// TestMost: from 0 to 1000, whichever is nearest; one less has room, as many and more have none.
func TestMost(t *testing.T) {
	for _, most := range []int{math.MinInt, -1001, -1000, -2, -1, 0, 1, 2, 3, 500, 998, 999, 1000, 1001, 2000, 1 << 32, 1<<32 + 3, math.MaxInt} {
		room := min(max(most, 0), 1000)
		for _, n := range []int{room - 2, room - 1, room, room + 1, room + 2, 1000, 1001, 3000} {
			if n < 0 {
				continue
			}
			s := counted(n)
			for _, p := range puts() {
				items, told := Apply(p.object, most, s, op(p.kind, 7))
				if n >= room && (told != full || !slices.Equal(items, s)) {
					t.Errorf("%d of %d of most %d: at %d items it is told %v", p.kind, p.object, most, n, told)
				}
				if n < room && (told != done || len(items) != n+1) {
					t.Errorf("%d of %d of most %d: at %d items it is told %v", p.kind, p.object, most, n, told)
				}
			}
		}
	}
}

// TestMostTakesAsAny: how many there may be is nothing to who takes.
func TestMostTakesAsAny(t *testing.T) {
	for _, most := range []int{math.MinInt, -1, 0, 1, 3, 1000, math.MaxInt} {
		for _, p := range takes() {
			applies(t, p.object, most, nil, op(p.kind, 7), nil, empty)
			applies(t, p.object, most, []int32{8}, op(p.kind, 7), nil, got(8))
			for _, n := range []int{2, 3, 4, 999, 1000, 1001, 3000} {
				s := counted(n)
				if p.object == 1 || p.kind == 4 {
					applies(t, p.object, most, s, op(p.kind, 7), s[:n-1], got(int32(n)))
				} else {
					applies(t, p.object, most, s, op(p.kind, 7), s[1:], got(1))
				}
			}
		}
	}
}

// TestFilledAndEmptied goes from none to as many as may be, and back.
func TestFilledAndEmptied(t *testing.T) {
	for _, most := range []int{-1, 0, 1, 2, 999, 1000, 1001} {
		n := min(max(most, 0), 1000)
		for i, p := range puts() {
			ops := make([]api.Op, 0, 2*n+4)
			for j := range n + 2 {
				ops = append(ops, op(p.kind, int32(j*7%1000)))
			}
			items, told := Run(p.object, most, nil, ops...)
			if len(items) != n || told[n] != full || told[n+1] != full || slices.Contains(told[:n], full) {
				t.Errorf("%d of %d of most %d: %d are put", p.kind, p.object, most, len(items))
			}
			for range n + 2 {
				ops = append(ops, op(takes()[i].kind, 0))
			}
			then, res := run(p.object, most, nil, ops)
			runs(t, p.object, most, nil, ops, then, res)
			if len(then) != 0 || res[len(res)-1] != empty || res[len(res)-2] != empty {
				t.Errorf("%d of %d of most %d: %d are left", p.kind, p.object, most, len(then))
			}
		}
	}
}

// TestMoreItemsThanMayBe: what puts is told Full till enough of them are taken.
func TestMoreItemsThanMayBe(t *testing.T) {
	s := []int32{1, 2, 3, 4}
	runs(t, 1, 2, s, []api.Op{op(1, 9), op(2, 0), op(1, 9), op(2, 0), op(1, 9), op(2, 0), op(1, 9), op(1, 8)},
		[]int32{1, 9}, []api.Res{full, got(4), full, got(3), full, got(2), done, full})
	runs(t, 2, 2, s, []api.Op{op(1, 9), op(3, 0), op(2, 9), op(4, 0), op(1, 9), op(3, 0), op(2, 9), op(1, 8)},
		[]int32{3, 9}, []api.Res{full, got(1), full, got(4), full, got(2), done, full})
	runs(t, 3, 2, s, []api.Op{op(1, 0), op(2, 0), op(1, 0), op(2, 0), op(1, 0), op(2, 0), op(1, 0), op(1, 8)},
		[]int32{0, 4}, []api.Res{full, got(1), full, got(2), full, got(3), done, full})
	runs(t, 2, -5, s, []api.Op{op(1, 9), op(2, 9), op(3, 0), op(4, 0), op(3, 0), op(4, 0), op(2, 9), op(1, 9), op(3, 9)},
		nil, []api.Res{full, full, got(1), got(4), got(2), got(3), full, full, empty})
}

// TestManyItemsAllTaken: of however many were handed in, each one is taken, and the call ends.
func TestManyItemsAllTaken(t *testing.T) {
	const many = 1 << 19
	s := counted(many)
	for _, p := range takes() {
		ops := slices.Repeat([]api.Op{op(p.kind, 0), op(1, 0)}, many)
		items, told := Run(p.object, 0, s, ops...)
		if len(items) != 0 {
			t.Fatalf("%d of %d items are left", len(items), many)
		}
		for i := range many {
			v := int32(i + 1)
			if p.object == 1 || p.kind == 4 {
				v = int32(many - i)
			}
			if told[2*i] != got(v) || told[2*i+1] != full {
				t.Fatalf("%d of %d: the operation %d is told %v", p.kind, p.object, 2*i, told[2*i])
			}
		}
	}
}

// TestRunOfNone, of any object: the items as they were, and nothing told.
func TestRunOfNone(t *testing.T) {
	for _, object := range []uint8{0, 1, 2, 3, 4, 255} {
		for _, most := range []int{-1, 0, 2, 1000} {
			for _, s := range [][]int32{nil, {}, {5}, {6, 5, 6}} {
				for _, ops := range [][]api.Op{nil, {}} {
					runs(t, object, most, s, ops, s, nil)
					batches(t, object, most, s, ops, s, nil)
					orders(t, object, ops)
				}
			}
		}
	}
}

// TestRunOfOneIsApply.
func TestRunOfOneIsApply(t *testing.T) {
	for object := range uint8(5) {
		for kind := range uint8(6) {
			for _, s := range [][]int32{nil, {5}, {6, 5, 7}, {6, 5, 7, 8}} {
				o := op(kind, 6)
				then, res := Apply(object, 3, s, o)
				runs(t, object, 3, s, []api.Op{o}, then, []api.Res{res})
				batches(t, object, 3, s, []api.Op{o}, then, []api.Res{res})
			}
		}
	}
}

// TestRunOfSome has each object, from none on and from some.
func TestRunOfSome(t *testing.T) {
	runs(t, 1, 2, nil, []api.Op{op(1, 5), op(1, 6), op(1, 7), op(2, 0), op(2, 0), op(2, 0)},
		nil, []api.Res{done, done, full, got(6), got(5), empty})
	runs(t, 1, 3, []int32{4}, []api.Op{op(1, 5), op(2, 0), op(1, 6)},
		[]int32{4, 6}, []api.Res{done, got(5), done})
	runs(t, 2, 3, nil, []api.Op{op(1, 1), op(1, 2), op(2, 3), op(2, 4), op(4, 0), op(3, 0), op(4, 0), op(3, 0), op(4, 0)},
		nil, []api.Res{done, done, done, full, got(3), got(2), got(1), empty, empty})
	runs(t, 2, 9, []int32{7, 8}, []api.Op{op(3, 0), op(2, 9), op(4, 0), op(1, 6)},
		[]int32{6, 8}, []api.Res{got(7), done, got(9), done})
	runs(t, 3, 3, nil, []api.Op{op(2, 0), op(1, 5), op(1, 3), op(1, 4), op(1, 1), op(2, 0), op(1, 1), op(2, 0)},
		[]int32{4, 5}, []api.Res{empty, done, done, done, full, got(3), done, got(1)})
	runs(t, 0, 9, []int32{7, 8}, []api.Op{op(1, 0), op(2, 9)}, []int32{7, 8}, []api.Res{bad, bad})
}

// sown are operations by a short rule, of kinds of 0 to 5, of values of 0 to values-1 that may be below 0.
func sown(n, values int, seed uint32) []api.Op {
	l := make([]api.Op, n)
	for i := range l {
		seed = seed*1664525 + 1013904223
		l[i] = op(uint8(seed>>24%6), int32(seed>>8%uint32(values))-int32(values/2))
	}
	return l
}

// items are items by the same rule, that need not rise.
func items(n, values int, seed uint32) []int32 {
	l := make([]int32, n)
	for i, o := range sown(n, values, seed) {
		l[i] = o.Val
	}
	return l
}

// TestSomeThenOthersAreAsAll: a Run is cut in two at each place.
func TestSomeThenOthersAreAsAll(t *testing.T) {
	for seed := range uint32(20) {
		for object := range uint8(5) {
			s, ops := items(int(seed%6), 9, seed), sown(25, 9, seed+100)
			then, res := Run(object, 4, s, ops...)
			for cut := range len(ops) + 1 {
				between, ahead := Run(object, 4, s, ops[:cut]...)
				runs(t, object, 4, between, ops[cut:], then, res[cut:])
				if !slices.Equal(ahead, res[:cut]) {
					t.Fatalf("the first %d of %v are told %v, not %v", cut, ops, ahead, res[:cut])
				}
			}
		}
	}
}

// TestOrderIsAsTheyStand of all objects but a heap, whatever the kinds and values.
func TestOrderIsAsTheyStand(t *testing.T) {
	ops := []api.Op{op(2, 9), op(1, 5), op(1, -3), op(0, 0), op(1, 5), op(3, 1), op(4, 0), op(1, smallest), op(255, 2)}
	for n := range 256 {
		if n == 3 {
			continue
		}
		orders(t, uint8(n), ops, 0, 1, 2, 3, 4, 5, 6, 7, 8)
		orders(t, uint8(n), ops[:1], 0)
		orders(t, uint8(n), nil)
	}
}

// TestOrderOfAHeap: first what adds, by its value, then all others as they stand.
func TestOrderOfAHeap(t *testing.T) {
	for _, c := range []struct {
		ops  []api.Op
		want []int
	}{
		{nil, nil},
		{[]api.Op{op(1, 5)}, []int{0}},
		{[]api.Op{op(2, 5)}, []int{0}},
		{[]api.Op{op(2, 0), op(1, 5), op(1, 3)}, []int{2, 1, 0}},
		{[]api.Op{op(1, 5), op(1, 3), op(1, 4)}, []int{1, 2, 0}},
		{[]api.Op{op(1, 1), op(1, 2), op(1, 3)}, []int{0, 1, 2}},
		{[]api.Op{op(2, 3), op(2, 2), op(2, 1)}, []int{0, 1, 2}},
		{[]api.Op{op(1, 5), op(1, 3), op(1, 5), op(1, 3), op(1, 5)}, []int{1, 3, 0, 2, 4}},
		{[]api.Op{op(1, 0), op(1, -1), op(1, 1), op(1, smallest), op(1, largest), op(1, -1)}, []int{3, 1, 5, 0, 2, 4}},
		{[]api.Op{op(1, largest), op(1, smallest)}, []int{1, 0}},
		{[]api.Op{op(1, smallest), op(1, largest)}, []int{0, 1}},
		{[]api.Op{op(0, 9), op(3, -9), op(255, 0), op(1, 7), op(4, -1), op(2, 3), op(1, -7)}, []int{6, 3, 0, 1, 2, 4, 5}},
		{[]api.Op{op(3, 1), op(0, 1), op(3, 0)}, []int{0, 1, 2}},
	} {
		orders(t, 3, c.ops, c.want...)
	}
}

// TestOrderOfManyAlike: those of one value stand in order, however many there are.
func TestOrderOfManyAlike(t *testing.T) {
	for _, n := range []int{12, 13, 50, 300, 1000} {
		for _, values := range []int{1, 2, 5} {
			for seed := range uint32(3) {
				ops := sown(n, values, seed)
				for i := range ops {
					ops[i].Kind = 1 + ops[i].Kind/5
				}
				orders(t, 3, ops, order(3, ops)...)
			}
		}
	}
}

// TestBatchOfEachObject: each is told what it is told in its own place.
func TestBatchOfEachObject(t *testing.T) {
	batches(t, 1, 2, []int32{4}, []api.Op{op(2, 0), op(2, 0), op(1, 9), op(1, 3), op(1, 5), op(0, 0)},
		[]int32{9, 3}, []api.Res{got(4), empty, done, done, full, bad})
	batches(t, 2, 2, []int32{4}, []api.Op{op(4, 0), op(3, 0), op(1, 9), op(1, 3), op(2, 5), op(5, 0)},
		[]int32{3, 9}, []api.Res{got(4), empty, done, done, full, bad})
	batches(t, 3, 3, []int32{4}, []api.Op{op(2, 0), op(1, 9), op(3, 0), op(1, 3), op(2, 0), op(1, 5), op(2, 0), op(2, 0)},
		nil, []api.Res{got(3), full, bad, done, got(4), done, got(5), empty})
	batches(t, 0, 3, []int32{4}, []api.Op{op(1, 0), op(2, 9)}, []int32{4}, []api.Res{bad, bad})
	batches(t, 4, 3, []int32{4}, []api.Op{op(1, 0), op(2, 9)}, []int32{4}, []api.Res{bad, bad})
}

// TestBatchOfAHeap: the least find room, and of those that are alike the first ones.
func TestBatchOfAHeap(t *testing.T) {
	batches(t, 3, 3, nil, []api.Op{op(1, 9), op(1, 8), op(1, 7), op(1, 6), op(1, 5)},
		[]int32{5, 6, 7}, []api.Res{full, full, done, done, done})
	batches(t, 3, 3, nil, []api.Op{op(1, 5), op(1, 5), op(1, 4), op(1, 5), op(1, 5)},
		[]int32{4, 5, 5}, []api.Res{done, done, done, full, full})
	batches(t, 3, 2, []int32{0, 8}, []api.Op{op(2, 0), op(1, -4)},
		[]int32{8}, []api.Res{got(0), full})
	batches(t, 3, 9, []int32{7, 0, 8}, []api.Op{op(2, 0), op(1, 7), op(1, -4), op(2, 0)},
		[]int32{0, 7, 8}, []api.Res{got(-4), done, done, got(7)})
	batches(t, 3, -1, []int32{7, 0}, []api.Op{op(1, 7), op(2, 0), op(2, 0), op(2, 0)},
		nil, []api.Res{full, got(7), got(0), empty})
}

// TestBatchIsRunByOrder, with Run and Order as they are.
func TestBatchIsRunByOrder(t *testing.T) {
	for seed := range uint32(60) {
		for object := range uint8(5) {
			s, ops := items(int(seed%9), 12, seed), sown(int(seed), 12, seed+50)
			l := Order(object, ops)
			ordered := make([]api.Op, len(ops))
			for i, place := range l {
				ordered[i] = ops[place]
			}
			then, told := Run(object, 6, s, ordered...)
			res := make([]api.Res, len(ops))
			for i, place := range l {
				res[place] = told[i]
			}
			batches(t, object, 6, s, ops, then, res)
		}
	}
}

// counts says how often each item is there.
func counts(s []int32) map[int32]int {
	m := map[int32]int{}
	for _, v := range s {
		m[v]++
	}
	return m
}

// TestWhatIsPutIsTakenOrStays: items that were there, and those that were put, are those that were taken, and that stay.
func TestWhatIsPutIsTakenOrStays(t *testing.T) {
	for seed := range uint32(80) {
		for object := uint8(1); object <= 3; object++ {
			s, ops := items(int(seed%12), 7, seed), sown(int(3*seed), 7, seed+9)
			for _, do := range []func(uint8, int, []int32, []api.Op) ([]int32, []api.Res){Batch, runOf} {
				then, told := do(object, 8, s, ops)
				want, is := slices.Clone(s), slices.Clone(then)
				for i, r := range told {
					switch {
					case r == done:
						want = append(want, ops[i].Val)
					case r.Code == 2:
						is = append(is, r.Val)
					case r.Val != 0:
						t.Fatalf("%v is told %v", ops[i], r)
					}
				}
				a, b := counts(want), counts(is)
				for v := range int32(20) {
					if a[v-10] != b[v-10] || len(a) != len(b) {
						t.Fatalf("of %d, %v, %v: %v stay, %v are told", object, s, ops, then, told)
					}
				}
			}
		}
	}
}

// runOf is Run of a list of operations.
func runOf(object uint8, most int, s []int32, ops []api.Op) ([]int32, []api.Res) {
	return Run(object, most, s, ops...)
}

// TestAnyValue: the smallest and the largest are items as others are, and so is 0.
func TestAnyValue(t *testing.T) {
	for _, v := range []int32{smallest, smallest + 1, -65537, -256, -1, 0, 1, 255, 65536, largest - 1, largest} {
		for i, p := range puts() {
			applies(t, p.object, 2, nil, op(p.kind, v), []int32{v}, done)
			applies(t, p.object, 2, []int32{v, ^v}, op(p.kind, v), []int32{v, ^v}, full)
			applies(t, p.object, 2, []int32{v}, op(takes()[i].kind, ^v), nil, got(v))
			applies(t, p.object, 2, nil, op(takes()[i].kind, v), nil, empty)
			runs(t, p.object, 2, nil, []api.Op{op(p.kind, v), op(takes()[i].kind, ^v)}, nil, []api.Res{done, got(v)})
		}
	}
}

// calls are all that make items of items, with one operation.
func calls() []func(uint8, int, []int32, api.Op) []int32 {
	return []func(uint8, int, []int32, api.Op) []int32{
		func(object uint8, most int, s []int32, o api.Op) []int32 {
			l, _ := Apply(object, most, s, o)
			return l
		},
		func(object uint8, most int, s []int32, o api.Op) []int32 {
			l, _ := Run(object, most, s, o)
			return l
		},
		func(object uint8, most int, s []int32, o api.Op) []int32 {
			l, _ := Run(object, most, s)
			return l
		},
		func(object uint8, most int, s []int32, o api.Op) []int32 {
			l, _ := Run(object, most, s, o, o, o)
			return l
		},
		func(object uint8, most int, s []int32, o api.Op) []int32 {
			l, _ := Batch(object, most, s, []api.Op{o})
			return l
		},
		func(object uint8, most int, s []int32, o api.Op) []int32 {
			l, _ := Batch(object, most, s, nil)
			return l
		},
	}
}

// spoil writes over all that a list's memory holds, also behind its length.
func spoil(l []int32) {
	l = l[:cap(l)]
	for i := range l {
		l[i] = -77
	}
}

// TestItemsAreNewMemory: what was handed in is as it was, also behind its length, and what comes out shares nothing with it, or with what came out ahead.
func TestItemsAreNewMemory(t *testing.T) {
	for object := range uint8(5) {
		for kind := range uint8(6) {
			for _, n := range []int{0, 1, 2, 3, 4, 6} {
				for _, call := range calls() {
					memory := counted(12)
					o := op(kind, 2)
					one, two := call(object, 4, memory[:n], o), call(object, 4, memory[:n], o)
					if !slices.Equal(memory, counted(12)) {
						t.Fatalf("%v of %d at %d items: what was handed in is %v", o, object, n, memory)
					}
					was := slices.Clone(one)
					spoil(two)
					spoil(memory)
					if !slices.Equal(one, was) {
						t.Fatalf("%v of %d at %d items: what came out shares memory", o, object, n)
					}
					memory = counted(12)
					one = call(object, 4, memory[:n], o)
					spoil(one)
					if !slices.Equal(memory, counted(12)) {
						t.Fatalf("%v of %d at %d items: what was handed in shares memory with what came out", o, object, n)
					}
				}
			}
		}
	}
}

// TestNothingBehindTheLength: neither what was taken, nor what stood behind the length of what was handed in, is handed out.
func TestNothingBehindTheLength(t *testing.T) {
	for object := range uint8(5) {
		for kind := range uint8(6) {
			for n := range 8 {
				for _, call := range calls() {
					l := call(object, 6, counted(12)[:n], op(kind, 2))
					for i, v := range l[len(l):cap(l)] {
						if v != 0 {
							t.Fatalf("%d of %d: behind %v stands %d at %d", kind, object, l, v, i)
						}
					}
				}
			}
		}
	}
}

// TestOperationsAreAsTheyWere: also behind their length, whatever order they are done in; and those that stand there are not done.
func TestOperationsAreAsTheyWere(t *testing.T) {
	for object := range uint8(5) {
		for n := range 9 {
			memory := sown(12, 9, uint32(n))
			was := slices.Clone(memory)
			s := counted(3)
			Run(object, 4, s, memory[:n]...)
			l := Order(object, memory[:n])
			Batch(object, 4, s, memory[:n])
			likeModel(t, object, 4, s, memory[:n])
			if !slices.Equal(memory, was) {
				t.Fatalf("of %d: the operations are %v, not %v", object, memory, was)
			}
			clear(memory)
			if want := order(object, was[:n]); !slices.Equal(l, want) {
				t.Fatalf("Order changed with the operations: %v, not %v", l, want)
			}
		}
	}
}

// TestWhatIsToldIsNewMemory: two answers of a call of the same know nothing of one another.
func TestWhatIsToldIsNewMemory(t *testing.T) {
	ops := []api.Op{op(2, 0), op(1, 5), op(1, 3), op(0, 1)}
	for object := range uint8(5) {
		s := []int32{4, 8}
		one, other := Order(object, ops), Order(object, ops)
		clear(other[:cap(other)])
		if !slices.Equal(one, order(object, ops)) {
			t.Fatalf("two answers of Order of %d share memory", object)
		}
		_, told := Run(object, 3, s, ops...)
		_, again := Run(object, 3, s, ops...)
		clear(again[:cap(again)])
		if _, res := run(object, 3, s, ops); !slices.Equal(told, res) {
			t.Fatalf("two answers of Run of %d share memory", object)
		}
		_, told = Batch(object, 3, s, ops)
		_, again = Batch(object, 3, s, ops)
		clear(again[:cap(again)])
		if _, res := batch(object, 3, s, ops); !slices.Equal(told, res) {
			t.Fatalf("two answers of Batch of %d share memory", object)
		}
	}
}

// TestLongRuns holds all four calls to the chapter's words, with operations that come of a short rule: now more that put, now more that take.
func TestLongRuns(t *testing.T) {
	for seed, most := range []int{-1, 0, 1, 2, 3, 7, 40, 1000, 1001} {
		for object := range uint8(5) {
			for _, values := range []int{1, 4, 100, 1 << 20} {
				ops := sown(700, values, uint32(seed))
				for i := range ops {
					if i%3 > 0 && i/150%2 == 0 {
						ops[i].Kind = 1
					}
				}
				likeModel(t, object, most, items(seed*5, values, 77), ops)
			}
		}
	}
}

// FuzzSpec holds all four calls to the chapter's words, whatever the arguments are.
func FuzzSpec(f *testing.F) {
	f.Add(uint8(3), 2, []byte{}, []byte{2, 0, 1, 5, 1, 3})
	f.Add(uint8(1), 1, []byte{1, 2, 3}, []byte{1, 5, 2, 0, 2, 0, 2, 0, 2, 0, 1, 9})
	f.Add(uint8(2), 1001, []byte{7, 200}, []byte{1, 5, 2, 6, 3, 0, 4, 0, 5, 0, 0, 0, 255, 1})
	f.Fuzz(func(t *testing.T, object uint8, most int, s, b []byte) {
		l := make([]int32, len(s))
		for i, v := range s {
			l[i] = int32(int8(v)) << (v % 25)
		}
		var ops []api.Op
		for ; len(b) >= 2; b = b[2:] {
			ops = append(ops, op(b[0], int32(int8(b[1]))<<(b[1]%25)))
		}
		likeModel(t, object%6, most, l, ops)
		likeModel(t, object, most%8, l, ops)
	})
}
