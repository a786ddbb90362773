package skip

import (
	"math"
	"slices"
	"testing"
)

const (
	smallest = math.MinInt32
	largest  = math.MaxInt32
)

// item is an item of the model: its height is of 1 to 8.
type item struct {
	v      int32
	height int
}

// model is the chapter's list, its items in one row.
type model struct {
	items []item
	most  int
}

// insert is Insert as the chapter says it.
func (k *model) insert(v int32, height int) bool {
	if len(k.items) >= k.most {
		return false
	}
	at := 0
	for at < len(k.items) && k.items[at].v <= v {
		at++
	}
	k.items = slices.Insert(k.items, at, item{v, min(max(height, 1), 8)})
	return true
}

// batch is Batch as the chapter says it: one by one, if all of it rises.
func (k *model) batch(vs []int32, heights []int) []bool {
	l := make([]bool, len(vs))
	for i := 1; i < len(vs); i++ {
		if vs[i] < vs[i-1] {
			return l
		}
	}
	for i, v := range vs {
		height := 1
		if i < len(heights) {
			height = heights[i]
		}
		l[i] = k.insert(v, height)
	}
	return l
}

// min is Min as the chapter says it.
func (k *model) min() (int32, bool) {
	if len(k.items) == 0 {
		return 0, false
	}
	v := k.items[0].v
	k.items = slices.Clone(k.items[1:])
	return v, true
}

// level is Level as the chapter says it.
func (k *model) level(n int) []int32 {
	var l []int32
	for _, it := range k.items {
		if n >= 1 && n <= 8 && it.height >= n {
			l = append(l, it.v)
		}
	}
	return l
}

// are checks a list of items.
func are(t *testing.T, what string, got []int32, want ...int32) {
	t.Helper()
	if !slices.Equal(got, want) {
		t.Fatalf("%s are %v, not %v", what, got, want)
	}
}

// like checks that a list is as its model, on all levels and beside them.
func like(t *testing.T, s *Skip, k *model) {
	t.Helper()
	if s.Len() != len(k.items) || s.Most() != k.most {
		t.Fatalf("Len is %d and Most %d, not %d and %d", s.Len(), s.Most(), len(k.items), k.most)
	}
	are(t, "Items", s.Items(), k.level(1)...)
	for n := -1; n <= 10; n++ {
		are(t, "Level "+string(rune('A'+n)), s.Level(n), k.level(n)...)
	}
}

// empties takes all of a list by Min, and looks at all levels each time: which of some that are alike went away is seen by its height.
func empties(t *testing.T, s *Skip, k *model) {
	t.Helper()
	for len(k.items) > 0 {
		takes(t, s, k)
	}
	takes(t, s, k)
	takes(t, s, k)
}

// takes takes the first item of both.
func takes(t *testing.T, s *Skip, k *model) {
	t.Helper()
	v, is := s.Min()
	want, wantIs := k.min()
	if v != want || is != wantIs {
		t.Fatalf("Min is %d, %v, not %d, %v", v, is, want, wantIs)
	}
	like(t, s, k)
}

// puts puts an item in both.
func puts(t *testing.T, s *Skip, k *model, v int32, height int) {
	t.Helper()
	if got, want := s.Insert(v, height), k.insert(v, height); got != want {
		t.Fatalf("Insert of %d with %d is %v, not %v", v, height, got, want)
	}
}

// putsAll puts a batch in both.
func putsAll(t *testing.T, s *Skip, k *model, vs []int32, heights []int) {
	t.Helper()
	if got, want := s.Batch(vs, heights), k.batch(vs, heights); !slices.Equal(got, want) {
		t.Fatalf("Batch of %v with %v is %v, not %v", vs, heights, got, want)
	}
}

// both are a list and a model of items that are put one by one.
func both(t *testing.T, most int, items ...item) (*Skip, *model) {
	t.Helper()
	s, k := New(most), &model{most: min(max(most, 0), 1000)}
	for _, it := range items {
		puts(t, s, k, it.v, it.height)
	}
	like(t, s, k)
	return s, k
}

// some are items by a short rule, of values of 0 to kinds-1 and of heights of 1 to 8.
func some(n, kinds int, seed uint32) []item {
	l := make([]item, n)
	for i := range l {
		seed = seed*1664525 + 1013904223
		l[i] = item{int32(seed >> 12 % uint32(kinds)), 1 + int(seed>>25%8)}
	}
	return l
}

// rising are as many values that rise, some of them alike, and heights for them.
func rising(n int) ([]int32, []int) {
	vs, heights := make([]int32, n), make([]int, n)
	for i, it := range some(n, 2*n+1, uint32(n)) {
		vs[i], heights[i] = it.v, it.height
	}
	slices.Sort(vs)
	return vs, heights
}

func TestExample(t *testing.T) {
	s := New(3)
	if !s.Insert(5, 2) || !s.Insert(3, 1) {
		t.Fatal("an Insert tells false")
	}
	are(t, "Items", s.Items(), 3, 5)
	are(t, "Level 2", s.Level(2), 5)
}

func TestNewHasNoItems(t *testing.T) {
	for _, most := range []int{0, 1, 3, 1000} {
		s, k := both(t, most)
		takes(t, s, k)
	}
}

// TestMost: from 0 to 1000, whichever is nearest, and so many find room.
func TestMost(t *testing.T) {
	for _, most := range []int{math.MinInt, -1000, -1, 0, 1, 2, 999, 1000, 1001, 5000, math.MaxInt} {
		want := min(max(most, 0), 1000)
		s := New(most)
		if s.Most() != want {
			t.Fatalf("Most of New of %d is %d, not %d", most, s.Most(), want)
		}
		for i := range want {
			if !s.Insert(int32(i*7%1000), 1+i%8) || s.Len() != i+1 {
				t.Fatalf("of most %d the item %d finds no room", most, i)
			}
		}
		if s.Insert(5, 1) || s.Len() != want || len(s.Items()) != want || s.Most() != want {
			t.Fatalf("of most %d there are %d", most, s.Len())
		}
	}
}

// TestInsertInEachOrder has all orders of five items, two of which are alike, with heights of their own.
func TestInsertInEachOrder(t *testing.T) {
	items := []item{{1, 3}, {4, 1}, {4, 8}, {6, 2}, {9, 5}}
	orders(items, 0, func(l []item) {
		s, k := both(t, 9, l...)
		like(t, s, k)
		empties(t, s, k)
	})
}

// orders does something of each order of a list.
func orders(l []item, from int, do func([]item)) {
	if from == len(l) {
		do(l)
	}
	for i := from; i < len(l); i++ {
		l[from], l[i] = l[i], l[from]
		orders(l, from+1, do)
		l[from], l[i] = l[i], l[from]
	}
}

// TestInsertOfAllHeights has items of each height between others of each height, three in a row.
func TestInsertOfAllHeights(t *testing.T) {
	for n := range 8 * 8 * 8 {
		a, b, c := 1+n%8, 1+n/8%8, 1+n/64
		s, k := both(t, 4, item{1, a}, item{3, b}, item{2, c}, item{2, a})
		empties(t, s, k)
	}
}

// TestHeightsAreBounded: from 1 to 8, whichever is nearest.
func TestHeightsAreBounded(t *testing.T) {
	for _, k := range [][2]int{{math.MinInt, 1}, {-8, 1}, {-1, 1}, {0, 1}, {1, 1}, {2, 2}, {7, 7}, {8, 8}, {9, 8}, {64, 8}, {256, 8}, {math.MaxInt, 8}} {
		for _, inBatch := range []bool{false, true} {
			s := New(5)
			s.Insert(1, 1)
			is := false
			if inBatch {
				is = s.Batch([]int32{2}, []int{k[0]})[0]
			} else {
				is = s.Insert(2, k[0])
			}
			if !is {
				t.Fatalf("an item with the height %d is not put", k[0])
			}
			are(t, "Items", s.Items(), 1, 2)
			for n := 2; n <= 8; n++ {
				if on := len(s.Level(n)) == 1; on != (n <= k[1]) {
					t.Fatalf("an item with the height %d: on the level %d %v", k[0], n, on)
				}
			}
		}
	}
}

// TestLevels: those that the chapter has, and none beside them.
func TestLevels(t *testing.T) {
	s := New(20)
	for i := range 8 {
		s.Insert(int32(10*i), 8-i)
	}
	are(t, "Level 1", s.Level(1), 0, 10, 20, 30, 40, 50, 60, 70)
	are(t, "Level 4", s.Level(4), 0, 10, 20, 30, 40)
	are(t, "Level 7", s.Level(7), 0, 10)
	are(t, "Level 8", s.Level(8), 0)
	for _, n := range []int{math.MinInt, -8, -1, 0, 9, 10, 64, 256, 1 << 32, 1<<32 + 1, math.MaxInt} {
		are(t, "a level that is none", s.Level(n))
	}
}

// TestEachLevelIsPartOfTheOneBelow looks at pairs of levels as they come, with no model beside them.
func TestEachLevelIsPartOfTheOneBelow(t *testing.T) {
	s := New(300)
	for i, it := range some(700, 90, 4) {
		s.Insert(it.v, it.height)
		if i%5 == 4 {
			s.Min()
		}
		if !slices.Equal(s.Level(1), s.Items()) || !slices.IsSorted(s.Items()) {
			t.Fatalf("after %d items the level 1 is not all, or does not rise", i)
		}
		for n := 2; n <= 8; n++ {
			if !within(s.Level(n), s.Level(n-1)) {
				t.Fatalf("after %d items the level %d is not part of the one below", i, n)
			}
		}
	}
}

// within says whether the items of a list are in another one, in that order.
func within(l, of []int32) bool {
	for _, v := range of {
		if len(l) > 0 && l[0] == v {
			l = l[1:]
		}
	}
	return len(l) == 0
}

// TestAlikeStandAsTheyWerePut: an item is behind all that are like it. They are told apart by their heights, as each is taken.
func TestAlikeStandAsTheyWerePut(t *testing.T) {
	for seed := range uint32(40) {
		for _, kinds := range []int{1, 2, 3} {
			s, k := both(t, 25, some(25, kinds, seed)...)
			empties(t, s, k)
		}
	}

	s := New(4)
	for _, height := range []int{3, 1, 8, 2} {
		s.Insert(7, height)
	}
	for _, want := range [][3]int{{4, 3, 2}, {3, 2, 1}, {2, 2, 1}, {1, 1, 0}} {
		if s.Len() != want[0] || len(s.Level(2)) != want[1] || len(s.Level(3)) != want[2] {
			t.Fatalf("Len is %d, of the level 2 %d, of the level 3 %d, not %v", s.Len(), len(s.Level(2)), len(s.Level(3)), want)
		}
		if v, is := s.Min(); v != 7 || !is {
			t.Fatal("Min is not 7")
		}
	}
}

// TestAnyValue: the smallest and the largest are items as others are, and so is 0.
func TestAnyValue(t *testing.T) {
	values := []int32{0, smallest, largest, -1, 1, smallest + 1, largest - 1, 0, largest, smallest, 1 << 16, -1 << 16}
	for height := 1; height <= 8; height++ {
		s, k := both(t, 40)
		for _, v := range values {
			puts(t, s, k, v, height)
			like(t, s, k)
			puts(t, s, k, v, 9-height)
			like(t, s, k)
		}
		slices.Sort(values)
		putsAll(t, s, k, values, []int{8, 1, 2})
		like(t, s, k)
		empties(t, s, k)
	}
}

// TestInsertAtAsManyAsMayBe tells false and changes nothing, on any level.
func TestInsertAtAsManyAsMayBe(t *testing.T) {
	for _, most := range []int{0, 1, 2, 17, 1000} {
		s, k := both(t, most, some(most, 500, uint32(most))...)
		for _, v := range []int32{smallest, -1, 0, 3, 250, 1000, largest} {
			for _, height := range []int{-1, 1, 4, 8, 9} {
				if s.Insert(v, height) {
					t.Fatalf("at %d items one more is put", most)
				}
			}
		}
		like(t, s, k)
		if most == 0 {
			continue
		}
		takes(t, s, k)
		puts(t, s, k, 250, 8)
		puts(t, s, k, 250, 7)
		like(t, s, k)
	}
}

// TestMinTakesTheFirstOneOffAllItsLevels and leaves the others of these.
func TestMinTakesTheFirstOneOffAllItsLevels(t *testing.T) {
	for first := 1; first <= 8; first++ {
		for second := 1; second <= 8; second++ {
			s, k := both(t, 3, item{2, second}, item{1, first}, item{3, 8})
			takes(t, s, k)
			for n := 1; n <= 8; n++ {
				want := []int32{2, 3}
				if n > second {
					want = want[1:]
				}
				are(t, "the level behind a Min", s.Level(n), want...)
			}
		}
	}
}

// TestMinOfNone takes nothing, and what is put then is all there.
func TestMinOfNone(t *testing.T) {
	s, k := both(t, 2)
	for range 3 {
		takes(t, s, k)
		takes(t, s, k)
		puts(t, s, k, 4, 8)
		puts(t, s, k, -4, 3)
		like(t, s, k)
		takes(t, s, k)
		takes(t, s, k)
		takes(t, s, k)
	}
}

// TestFirstIsNoughtIsThere: an item of 0 is told with true, though none is told as 0, too.
func TestFirstIsNoughtIsThere(t *testing.T) {
	s, k := both(t, 2, item{0, 1})
	takes(t, s, k)
	takes(t, s, k)
}

func TestBatchOfNone(t *testing.T) {
	for _, items := range [][]item{nil, some(3, 9, 1), some(5, 9, 2)} {
		s, k := both(t, 5, items...)
		for _, heights := range [][]int{nil, {}, {8}, {1, 2, 3}} {
			for _, vs := range [][]int32{nil, {}} {
				if l := s.Batch(vs, heights); len(l) != 0 {
					t.Fatalf("Batch of none is %v", l)
				}
				like(t, s, k)
			}
		}
	}
}

// TestBatchIsAsOneByOne: of what rises, on all levels, into none and into some.
func TestBatchIsAsOneByOne(t *testing.T) {
	for _, n := range []int{1, 2, 3, 8, 40, 200} {
		for _, there := range []int{0, 1, 5, 100} {
			for _, kinds := range []int{1, 3, 2*n + 1, 1000} {
				vs, heights := rising(n)
				items := some(there, kinds, uint32(n+there))
				s, k := both(t, 1000, items...)
				one, _ := both(t, 1000, items...)
				for i, is := range s.Batch(vs, heights) {
					if is != one.Insert(vs[i], heights[i]) || !is {
						t.Fatalf("the item %d of a batch of %d tells %v", i, n, is)
					}
				}
				for level := range 10 {
					are(t, "a level behind a batch", s.Level(level), one.Level(level)...)
				}
				k.batch(vs, heights)
				like(t, s, k)
			}
		}
	}
}

// TestBatchBetweenItems has each batch of three values between items of each height, so that where it stands on a level is now an item that was there, now one of its own.
func TestBatchBetweenItems(t *testing.T) {
	for n := range 4 * 4 * 4 * 8 {
		h := []int{1 + n%4*2, 1 + n/4%4*2, 1 + n/16%4*2}
		there := 1 + n/64
		for _, vs := range [][]int32{{1, 2, 3}, {0, 2, 9}, {3, 3, 3}, {1, 4, 5}, {3, 4, 6}, {6, 7, 7}, {-1, 0, 0}} {
			s, k := both(t, 9, item{1, there}, item{3, 9 - there}, item{5, there}, item{6, 1}, item{3, 8})
			putsAll(t, s, k, vs, h)
			like(t, s, k)
			putsAll(t, s, k, vs, h)
			empties(t, s, k)
		}
	}
}

// TestBatchOfAlike: behind those that were there, in the order of the batch.
func TestBatchOfAlike(t *testing.T) {
	for seed := range uint32(60) {
		heights := make([]int, 6)
		for i, it := range some(6, 9, seed) {
			heights[i] = it.height
		}
		s, k := both(t, 20, some(9, 3, seed)...)
		putsAll(t, s, k, []int32{1, 1, 1, 1, 1, 1}, heights)
		like(t, s, k)
		puts(t, s, k, 1, 5)
		empties(t, s, k)
	}
}

// TestBatchThatDoesNotRise: nothing of it is put, and all are false, wherever it falls.
func TestBatchThatDoesNotRise(t *testing.T) {
	for _, vs := range [][]int32{
		{2, 1}, {0, -1}, {1, 2, 1}, {2, 1, 3}, {1, 1, 0}, {5, 4, 3}, {1, 2, 3, 4, 3}, {largest, smallest}, {smallest, largest, smallest}, {0, 0, 0, -1},
	} {
		for _, most := range []int{0, 3, 4, 30} {
			s, k := both(t, most, item{2, 2}, item{1, 3}, item{3, 8})
			for _, heights := range [][]int{nil, {8}, {1, 2, 3, 4, 5, 6}} {
				l := s.Batch(vs, heights)
				if len(l) != len(vs) || slices.Contains(l, true) {
					t.Fatalf("Batch of %v is %v", vs, l)
				}
				like(t, s, k)
			}
		}
	}
}

// TestBatchFallsAtTheEnd: that it does not rise counts also where only values that find no room fall.
func TestBatchFallsAtTheEnd(t *testing.T) {
	s, k := both(t, 2)
	putsAll(t, s, k, []int32{1, 2, 3, 4, 3}, []int{1, 2, 3})
	like(t, s, k)
	if s.Len() != 0 {
		t.Fatal("some of a batch that does not rise are put")
	}
}

// TestBatchHeights: 1 where they are too short, and those too many are not asked.
func TestBatchHeights(t *testing.T) {
	vs := []int32{1, 2, 3}
	for _, c := range []struct {
		heights []int
		want    [3]int
	}{
		{nil, [3]int{1, 1, 1}},
		{[]int{}, [3]int{1, 1, 1}},
		{[]int{4}, [3]int{4, 1, 1}},
		{[]int{4, 3}, [3]int{4, 3, 1}},
		{[]int{4, 3, 8}, [3]int{4, 3, 8}},
		{[]int{4, 3, 8, 7, 7, 7}, [3]int{4, 3, 8}},
		{[]int{0, -5, 9}, [3]int{1, 1, 8}},
		{[]int{math.MaxInt, 2, math.MinInt, 8}, [3]int{8, 2, 1}},
	} {
		s, k := both(t, 9)
		for i, v := range vs {
			k.insert(v, c.want[i])
		}
		if l := s.Batch(vs, c.heights); !slices.Equal(l, []bool{true, true, true}) {
			t.Fatalf("Batch with the heights %v is %v", c.heights, l)
		}
		like(t, s, k)
	}
}

// TestHeightsBehindTheirLengthAreNotRead.
func TestHeightsBehindTheirLengthAreNotRead(t *testing.T) {
	s, k := both(t, 9)
	putsAll(t, s, k, []int32{1, 2, 3, 0, -5}[:3], []int{2, 8, 8, 8, 8}[:1])
	like(t, s, k)
	are(t, "Level 2", s.Level(2), 1)
}

// TestBatchOfMoreThanFindRoom: the first ones are put, the others tell false.
func TestBatchOfMoreThanFindRoom(t *testing.T) {
	for most := range 9 {
		for there := range most + 1 {
			for n := range 12 {
				vs, heights := rising(n)
				s, k := both(t, most, some(there, 9, uint32(n))...)
				l := s.Batch(vs, heights)
				for i, is := range l {
					if is != (i < most-there) {
						t.Fatalf("at %d of %d, of a batch of %d the one at %d is %v", there, most, n, i, is)
					}
				}
				k.batch(vs, heights)
				like(t, s, k)
				empties(t, s, k)
			}
		}
	}

	vs, heights := rising(3000)
	s, k := both(t, math.MaxInt)
	putsAll(t, s, k, vs, heights)
	like(t, s, k)
	putsAll(t, s, k, vs, heights)
	like(t, s, k)
}

// TestNilSkip has a nil one beside New of 0, call by call.
func TestNilSkip(t *testing.T) {
	var s *Skip
	zero := New(0)
	for _, l := range []*Skip{s, zero, s.Copy(), zero.Copy()} {
		k := &model{}
		for range 2 {
			like(t, l, k)
			puts(t, l, k, 3, 2)
			takes(t, l, k)
			putsAll(t, l, k, nil, nil)
			putsAll(t, l, k, []int32{1, 2}, []int{3})
			putsAll(t, l, k, []int32{2, 1}, nil)
			like(t, l, k)
			l = l.Copy()
			if l == nil {
				t.Fatal("a copy is nil")
			}
		}
	}
}

func TestCopyIsTheSame(t *testing.T) {
	for _, n := range []int{0, 1, 2, 9, 100, 1000} {
		for _, kinds := range []int{1, 4, 5000} {
			s, k := both(t, n+n%2, some(n, kinds, uint32(n))...)
			for range n / 3 {
				s.Min()
				k.min()
			}
			c := s.Copy()
			if c == nil || c == s {
				t.Fatal("the copy is nil, or that list")
			}
			like(t, c, k)
			like(t, s, k)
			if n <= 100 {
				empties(t, c, k)
			}
		}
	}
}

// TestCopyKnowsNothingOfTheOther has both changed by turns.
func TestCopyKnowsNothingOfTheOther(t *testing.T) {
	for seed := range uint32(50) {
		items := some(12, 9, seed)
		s, k := both(t, 20, items...)
		c, ck := s.Copy(), &model{items: slices.Clone(k.items), most: k.most}
		for i, it := range some(8, 11, seed+100) {
			puts(t, s, k, it.v, it.height)
			like(t, c, ck)
			takes(t, c, ck)
			like(t, s, k)
			puts(t, c, ck, it.v-1, 9-it.height)
			like(t, s, k)
			vs, heights := rising(i)
			putsAll(t, c, ck, vs, heights)
			takes(t, s, k)
			takes(t, s, k)
			like(t, c, ck)
		}
		empties(t, s, k)
		like(t, c, ck)
		puts(t, s, k, 5, 8)
		empties(t, c, ck)
		like(t, s, k)
	}
}

func TestTwoListsKnowNothingOfOneAnother(t *testing.T) {
	a, ak := both(t, 3)
	b, bk := both(t, 5)
	puts(t, a, ak, 4, 8)
	like(t, b, bk)
	putsAll(t, b, bk, []int32{1, 4, 9}, []int{8, 8, 8})
	like(t, a, ak)
	takes(t, b, bk)
	puts(t, a, ak, 4, 3)
	empties(t, b, bk)
	like(t, a, ak)
}

// TestWhatIsToldIsNewMemory: it is changed, and grown, and the list and all other answers stay as they were.
func TestWhatIsToldIsNewMemory(t *testing.T) {
	s, k := both(t, 200, some(50, 30, 5)...)
	first := s.Items()
	told := s.Batch([]int32{1, 2, 3}, nil)
	k.batch([]int32{1, 2, 3}, nil)
	other := s.Batch([]int32{1, 2, 3}, nil)
	k.batch([]int32{1, 2, 3}, nil)
	spoil(first)
	for n := 1; n <= 8; n++ {
		a, b := s.Level(n), s.Level(n)
		spoil(a)
		are(t, "another answer of that level", b, k.level(n)...)
		spoil(s.Items())
		are(t, "another answer of that level", b, k.level(n)...)
	}
	clear(told)
	_ = append(told, false, false)
	if !slices.Equal(other, []bool{true, true, true}) {
		t.Fatalf("another answer of Batch is %v", other)
	}
	like(t, s, k)
	empties(t, s, k)
}

// spoil changes all of a list, also behind its length.
func spoil(l []int32) {
	l = l[:cap(l)]
	for i := range l {
		l[i] = -12345
	}
}

// TestNothingBehindWhatIsTold: no item stands behind the length of a list, be it one that was taken.
func TestNothingBehindWhatIsTold(t *testing.T) {
	s := New(100)
	for i := range 60 {
		s.Insert(int32(7+i), 1+i%8)
	}
	for s.Len() > 0 {
		s.Min()
		for n := 1; n <= 8; n++ {
			l := s.Level(n)
			for _, v := range l[len(l):cap(l)] {
				if v != 0 {
					t.Fatalf("behind the level %d stands %d", n, v)
				}
			}
		}
	}
}

// TestWhatIsHandedInIsAsItWas: also behind its length; and when it is changed, the list is not.
func TestWhatIsHandedInIsAsItWas(t *testing.T) {
	for _, n := range []int{0, 1, 2, 5, 20} {
		for _, fall := range []bool{false, true} {
			vs, heights := rising(n + 3)
			if fall {
				slices.Reverse(vs)
			}
			heights[0] = 99
			wasVs, wasHeights := slices.Clone(vs), slices.Clone(heights)
			s, k := both(t, 10, some(4, 9, 1)...)
			putsAll(t, s, k, vs[:n], heights[:n])
			putsAll(t, s, k, vs[:n], heights[:n/2])
			if !slices.Equal(vs, wasVs) || !slices.Equal(heights, wasHeights) {
				t.Fatalf("what was handed in, of %d, is changed", n)
			}
			spoil(vs)
			clear(heights)
			like(t, s, k)
			empties(t, s, k)
		}
	}
}

// done does one call on both, chosen by one byte, of what the other bytes say, and is the list to go on with.
func done(t *testing.T, s *Skip, k *model, call, v, height uint8) *Skip {
	t.Helper()
	switch call % 5 {
	case 0, 1:
		puts(t, s, k, int32(int8(v)), int(int8(height))%11)
	case 2:
		got, is := s.Min()
		if want, wantIs := k.min(); got != want || is != wantIs {
			t.Fatalf("Min is %d, %v, not %d, %v", got, is, want, wantIs)
		}
	case 3:
		vs, heights := rising(int(call / 5 % 7))
		for i := range vs {
			vs[i] += int32(int8(v)) / 4
		}
		if v%5 == 4 {
			slices.Reverse(vs)
		}
		putsAll(t, s, k, vs, heights[:min(len(heights), int(height)%9)])
	case 4:
		other := s
		s = s.Copy()
		other.Insert(3, 8)
		other.Min()
		other.Min()
	}
	like(t, s, k)
	return s
}

// TestLongRuns has calls that come of a short rule, with lists that are full at times, and at times empty.
func TestLongRuns(t *testing.T) {
	for seed := range uint32(24) {
		s, k := both(t, int(seed*3))
		state := seed
		for i := range 1500 {
			state = state*1664525 + 1013904223
			call := uint8(state >> 24)
			if i/200%2 == 1 && state>>8%3 == 0 {
				call = 2
			}
			s = done(t, s, k, call, uint8(state>>16), uint8(state>>11))
		}
		empties(t, s, k)
	}
}

// FuzzSkip holds a list to the model, whatever the calls are.
func FuzzSkip(f *testing.F) {
	f.Add(uint8(3), []byte{0, 5, 2, 0, 3, 1, 4, 0, 0, 2, 0, 0})
	f.Add(uint8(20), []byte{13, 4, 3, 0, 1, 8, 33, 8, 200, 28, 9, 1, 2, 0, 0})
	f.Add(uint8(0), []byte{0, 1, 1, 3, 0, 0, 2, 0, 0, 4, 0, 0})
	f.Fuzz(func(t *testing.T, most uint8, b []byte) {
		s, k := both(t, int(most))
		for ; len(b) >= 3; b = b[3:] {
			s = done(t, s, k, b[0], b[1], b[2])
		}
		empties(t, s, k)
	})
}
