package object

import (
	"math"
	"slices"
	"strconv"
	"strings"
	"testing"

	"reaper/api"
	"reaper/coin"
	"reaper/ends"
	"reaper/match"
	"reaper/ring"
	"reaper/skip"
	"reaper/sorted"
	"reaper/spec"
	"reaper/stack"
)

// Short names of the codes, as a batch's answers are many.
const (
	done  = uint8(1)
	got   = uint8(2)
	full  = uint8(3)
	empty = uint8(4)
	bad   = uint8(5)
)

// byWords are operations: k:v is one of the Kind k with the Val v, k alone is one with a Val of its place, which is to say nothing.
func byWords(words string) []api.Op {
	var ops []api.Op
	for i, w := range strings.Fields(words) {
		kind, val, is := strings.Cut(w, ":")
		k, _ := strconv.Atoi(kind)
		v := -700 - i
		if is {
			v, _ = strconv.Atoi(val)
		}
		ops = append(ops, api.Op{Kind: uint8(k), Val: int32(v)})
	}
	return ops
}

// toldBy are what operations are told: a number is Got and it, + is Done, F is Full, E is Empty, any other one is Bad.
func toldBy(words string) []api.Res {
	var l []api.Res
	for _, w := range strings.Fields(words) {
		r := api.Res{Code: bad}
		n, err := strconv.Atoi(w)
		switch {
		case err == nil:
			r = api.Res{Code: got, Val: int32(n)}
		case w == "+":
			r.Code = done
		case w == "F":
			r.Code = full
		case w == "E":
			r.Code = empty
		}
		l = append(l, r)
	}
	return l
}

// item is an item of the model. Only a heap's have a height.
type item struct {
	v      int32
	height int
}

// model is an object in the chapters' words: a list of items, and bits of which the first one is tossed next.
type model struct {
	object uint8
	most   int
	items  []item
	bits   string
}

// copied is a model that is the same.
func (m *model) copied() *model {
	k := *m
	k.items = slices.Clone(m.items)
	return &k
}

// feed puts bits, the least of each byte first, 20000 of them at most.
func (m *model) feed(bytes ...uint8) {
	for _, b := range bytes {
		for range 8 {
			if len(m.bits) < 20000 {
				m.bits += string('0' + b%2)
			}
			b /= 2
		}
	}
}

// height takes bits up to the first 0, seven at most.
func (m *model) height() int {
	for h := 1; ; h++ {
		if h == 8 || m.bits == "" {
			return h
		}
		is := m.bits[0] == '1'
		m.bits = m.bits[1:]
		if !is {
			return h
		}
	}
}

// order is in which order operations are done: of a heap, what adds comes first, the least ahead of all.
func (m *model) order(ops []api.Op) []int {
	var l []int
	if m.object == 3 {
		for place, o := range ops {
			at := len(l)
			for at > 0 && ops[l[at-1]].Val > o.Val {
				at--
			}
			if o.Kind == 1 {
				l = slices.Insert(l, at, place)
			}
		}
	}
	for place, o := range ops {
		if m.object != 3 || o.Kind != 1 {
			l = append(l, place)
		}
	}
	return l
}

// do is what operations of a batch are told, each in its own place.
func (m *model) do(ops ...api.Op) []api.Res {
	told := make([]api.Res, len(ops))
	for _, place := range m.order(ops) {
		told[place] = m.one(ops[place])
	}
	return told
}

// one does one operation.
func (m *model) one(o api.Op) api.Res {
	switch {
	case m.object == 1 && o.Kind == 1:
		return m.put(len(m.items), o.Val)
	case m.object == 1 && o.Kind == 2:
		return m.take(len(m.items) - 1)
	case m.object == 2 && o.Kind == 1:
		return m.put(0, o.Val)
	case m.object == 2 && o.Kind == 2:
		return m.put(len(m.items), o.Val)
	case m.object == 2 && o.Kind == 3:
		return m.take(0)
	case m.object == 2 && o.Kind == 4:
		return m.take(len(m.items) - 1)
	case m.object == 3 && o.Kind == 1:
		at := 0
		for at < len(m.items) && m.items[at].v <= o.Val {
			at++
		}
		return m.put(at, o.Val)
	case m.object == 3 && o.Kind == 2:
		return m.take(0)
	}
	return api.Res{Code: bad}
}

// put puts an item at a place, if there is room. What finds none has no height.
func (m *model) put(at int, v int32) api.Res {
	if len(m.items) >= m.most {
		return api.Res{Code: full}
	}
	it := item{v: v}
	if m.object == 3 {
		it.height = m.height()
	}
	m.items = slices.Insert(m.items, at, it)
	return api.Res{Code: done}
}

// take takes the item at a place, if there is one.
func (m *model) take(at int) api.Res {
	if len(m.items) == 0 {
		return api.Res{Code: empty}
	}
	v := m.items[at].v
	m.items = slices.Delete(m.items, at, at+1)
	return api.Res{Code: got, Val: v}
}

// values are the items, those alone that are of a height at least.
func (m *model) values(height int) []int32 {
	var l []int32
	for _, it := range m.items {
		if it.height >= height {
			l = append(l, it.v)
		}
	}
	return l
}

// both are an empty object that is not plain, one that is, and the model of both.
type both struct {
	ways  [2]*Object
	model *model
}

// bothOf are those of an object of most, with bits fed.
func bothOf(object uint8, most int, bytes ...uint8) *both {
	b := &both{[2]*Object{New(object, most, false), New(object, most, true)}, &model{object: object, most: min(max(most, 0), 1000)}}
	b.feed(bytes...)
	return b
}

// copied are copies of both.
func (b *both) copied() *both {
	return &both{[2]*Object{b.ways[0].Copy(), b.ways[1].Copy()}, b.model.copied()}
}

// feed feeds both.
func (b *both) feed(bytes ...uint8) {
	b.ways[0].Feed(bytes...)
	b.ways[1].Feed(bytes...)
	b.model.feed(bytes...)
}

// holds checks all that a call shows of both, and the bits that are left.
func (b *both) holds(t *testing.T) {
	t.Helper()
	m := b.model
	for i, o := range b.ways {
		if o == nil || o.plain != (i == 1) {
			t.Fatalf("the object %d, plain %v, is %+v", m.object, i == 1, o)
		}
		if n := o.Len(); n != len(m.items) {
			t.Fatalf("the object %d, plain %v, has %d items, not %d", m.object, o.plain, n, len(m.items))
		}
		if l := o.Items(); !slices.Equal(l, m.values(0)) {
			t.Fatalf("the object %d, plain %v, holds %v, not %v", m.object, o.plain, l, m.values(0))
		}
		for k := -1; k <= 10; k++ {
			var want []int32
			if m.object == 3 && k >= 1 && k <= 8 {
				want = m.values(k)
			}
			if l := o.Level(k); !slices.Equal(l, want) {
				t.Fatalf("the object %d, plain %v, has %v on the level %d, not %v", m.object, o.plain, l, k, want)
			}
		}
		c := o.coin.Copy()
		if c.Left() != len(m.bits) {
			t.Fatalf("the object %d, plain %v, has %d bits, not %d", m.object, o.plain, c.Left(), len(m.bits))
		}
		for at := range m.bits {
			if c.Toss() != (m.bits[at] == '1') {
				t.Fatalf("the object %d, plain %v: the bit %d is not %c", m.object, o.plain, at, m.bits[at])
			}
		}
	}
}

// does has both do a batch, which is told what the model is, and spec, and is as it was behind it; and is what it is told.
func (b *both) does(t *testing.T, ops ...api.Op) []api.Res {
	t.Helper()
	was, had := slices.Clone(ops), b.model.values(0)
	want := b.model.do(ops...)
	stay, r := spec.Batch(b.model.object, b.model.most, had, ops)
	if !slices.Equal(r, want) || !slices.Equal(stay, b.model.values(0)) {
		t.Fatalf("the test's model differs from spec.Batch of %d at %v: %v, %v and %v, %v", b.model.object, ops, want, b.model.values(0), r, stay)
	}
	for _, o := range b.ways {
		if l := o.Do(ops...); !slices.Equal(l, want) {
			t.Fatalf("the object %d of %d, plain %v, with %v, is told of %v %v, not %v", b.model.object, b.model.most, o.plain, had, was, l, want)
		}
		if !slices.Equal(ops, was) {
			t.Fatalf("Do leaves the operations as %v, not %v", ops, was)
		}
	}
	b.holds(t)
	return want
}

// fill puts as many items as said, of short values.
func (b *both) fill(t *testing.T, many int) {
	t.Helper()
	for i := range many {
		b.does(t, api.Op{Kind: 1, Val: int32(i*7%31 - 9)})
	}
	if b.ways[0].Len() != many {
		t.Fatalf("the test put %d items, not %d", b.ways[0].Len(), many)
	}
}

// sown are operations that come of a short rule: of each eight as many of the Kinds that put as said, as many of those that take, and others. The values are of as many as said.
func sown(object uint8, n, puts, takes int, values, seed uint32) []api.Op {
	ops := make([]api.Op, n)
	state := seed*2654435761 + 12345
	for i := range ops {
		state = state*1664525 + 1013904223
		kind := uint8(state >> 16)
		ends, side := uint8(1), uint8(0)
		if object == 2 {
			ends, side = 2, uint8(state>>24&1)
		}
		switch which := int(state >> 29); {
		case which < puts:
			kind = 1 + side
		case which < puts+takes:
			kind = 1 + ends + side
		}
		state = state*1664525 + 1013904223
		ops[i] = api.Op{Kind: kind, Val: int32(state>>3%values) - int32(values/2)}
	}
	return ops
}

// bytesOf are n bytes that come of a short rule, in which most bits are 1.
func bytesOf(n int, seed uint32) []uint8 {
	l := make([]uint8, n)
	state := seed*2654435761 + 54321
	for i := range l {
		state = state*1664525 + 1013904223
		l[i] = uint8(state>>24) | uint8(state>>16)
	}
	return l
}

// objects are all three.
func objects() []uint8 {
	return []uint8{1, 2, 3}
}

// TestExample is the chapter's example.
func TestExample(t *testing.T) {
	for _, plain := range []bool{false, true} {
		o := New(api.Stack, 1, plain)
		told := o.Do(api.Op{Kind: api.Push, Val: 5}, api.Op{Kind: api.Push, Val: 6}, api.Op{Kind: api.Pop})
		if !slices.Equal(told, []api.Res{{Code: api.Done}, {Code: api.Full}, {Code: api.Got, Val: 5}}) {
			t.Errorf("plain %v: it is told %v", plain, told)
		}
	}
}

// TestNew: each is empty, and has room for as many as may be, and no more.
func TestNew(t *testing.T) {
	for _, object := range objects() {
		for _, c := range []struct{ most, is int }{
			{math.MinInt, 0}, {-1000, 0}, {-1, 0}, {0, 0}, {1, 1}, {2, 2}, {7, 7}, {500, 500}, {999, 999}, {1000, 1000}, {1001, 1000}, {1 << 32, 1000}, {math.MaxInt, 1000},
		} {
			b := bothOf(object, c.most)
			b.holds(t)
			ops := slices.Repeat([]api.Op{{Kind: 1, Val: 3}}, c.is+2)
			told := b.does(t, ops...)
			for i, r := range told {
				if is := r == (api.Res{Code: done}); is != (i < c.is) || !is && r != (api.Res{Code: full}) {
					t.Fatalf("New(%d, %d): the Push %d is told %v", object, c.most, i, r)
				}
			}
			b.does(t, ops...)
		}
	}
}

// TestNewOfNoObject: nil of any other one, whatever else is said.
func TestNewOfNoObject(t *testing.T) {
	for object := range 256 {
		for _, most := range []int{math.MinInt, -1, 0, 1, 5, 1000, math.MaxInt} {
			for _, plain := range []bool{false, true} {
				is := object >= 1 && object <= 3
				if o := New(uint8(object), most, plain); (o != nil) != is {
					t.Fatalf("New(%d, %d, %v) is %v", object, most, plain, o)
				}
			}
		}
	}
}

// TestBatches: what is told, and what stays, said word by word.
func TestBatches(t *testing.T) {
	for _, c := range []struct {
		object    uint8
		most      int
		put       string
		ops, told string
		stay      []int32
	}{
		{1, 3, "", "", "", nil},
		{1, 3, "1:5", "", "", []int32{5}},
		{1, 3, "", "2", "E", nil},
		{1, 3, "", "1:5", "+", []int32{5}},
		{1, 3, "", "1:5 1:6 2 2 2", "+ + 6 5 E", nil},
		{1, 3, "1:1 1:2", "2 1:3 1:4 1:5 2 1:6", "2 + + F 4 +", []int32{1, 3, 6}},
		{1, 2, "1:1 1:2", "1:3 3 2 0 1:4 255 1:5", "F ? 2 ? + ? F", []int32{1, 4}},
		{1, 0, "", "1:3 2 4 1:3", "F E ? F", nil},
		{1, 5, "1:1 1:2 1:3", "2 2 2 2 1:8", "3 2 1 E +", []int32{8}},
		{2, 3, "", "", "", nil},
		{2, 3, "", "1:5 2:6", "+ +", []int32{5, 6}},
		{2, 3, "", "3 4", "E E", nil},
		{2, 4, "", "1:5 1:6 2:7 4 4 4 3", "+ + + 7 5 6 E", nil},
		{2, 3, "2:1 2:2", "3 1:3 2:4 2:5 1:6 4 4", "1 + + F F 4 2", []int32{3}},
		{2, 2, "2:1 2:2", "2:3 5 4 0 1:4 255 1:5", "F ? 2 ? + ? F", []int32{4, 1}},
		{2, 0, "", "1:3 2:4 3 4 5", "F F E E ?", nil},
		{3, 3, "", "", "", nil},
		{3, 2, "", "2 1:5 1:3", "3 + +", []int32{5}},
		{3, 2, "", "2 1:5 1:3 1:9", "3 + + F", []int32{5}},
		{3, 3, "1:4", "1:9 2 1:-1 2 1:7 3", "F -1 + 4 + ?", []int32{7}},
		{3, 2, "1:4 1:6", "1:1 2 2 2 1:0 0 255", "F 4 6 E F ? ?", nil},
		{3, 0, "", "1:3 2 4 1:3", "F E ? F", nil},
		{3, 4, "1:4 1:6", "4 3 2", "? ? 4", []int32{6}},
	} {
		b := bothOf(c.object, c.most)
		b.does(t, byWords(c.put)...)
		if told := b.does(t, byWords(c.ops)...); !slices.Equal(told, toldBy(c.told)) {
			t.Errorf("the object %d of %d with %q is told of %q %v, not %q", c.object, c.most, c.put, c.ops, told, c.told)
		}
		if l := b.ways[0].Items(); !slices.Equal(l, c.stay) {
			t.Errorf("the object %d of %d with %q, behind %q, holds %v, not %v", c.object, c.most, c.put, c.ops, l, c.stay)
		}
	}
}

// TestOfNone: a batch of none is told nothing, and all stays.
func TestOfNone(t *testing.T) {
	for _, object := range objects() {
		for _, most := range []int{0, 1, 5} {
			b := bothOf(object, most, 0x2b)
			b.fill(t, most/2)
			had := b.model.copied()
			for _, ops := range [][]api.Op{nil, {}} {
				if told := b.does(t, ops...); len(told) != 0 {
					t.Errorf("the object %d is told of none %v", object, told)
				}
			}
			if b.model.bits != had.bits || !slices.Equal(b.model.items, had.items) {
				t.Errorf("the test's model is not as it was behind none")
			}
		}
	}
}

// TestEachKind: alone, and between others, where there is room, and where there is none. Of Kinds that an object has not, Bad is told, and all stays.
func TestEachKind(t *testing.T) {
	for _, object := range objects() {
		kinds := uint8(2)
		if object == 2 {
			kinds = 4
		}
		for kind := range 256 {
			for have := range 4 {
				k := uint8(kind)
				is := k >= 1 && k <= kinds
				b := bothOf(object, 3, 0x35, 0x0b)
				b.fill(t, have)
				had := b.model.copied()
				if told := b.does(t, api.Op{Kind: k, Val: 77}); (told[0] == api.Res{Code: bad}) == is {
					t.Fatalf("the object %d is told of the Kind %d %v", object, k, told)
				}
				if !is && (b.model.bits != had.bits || !slices.Equal(b.model.items, had.items)) {
					t.Fatalf("the test's model does the Kind %d of %d", k, object)
				}
				b.does(t, api.Op{Kind: 2, Val: 4}, api.Op{Kind: k, Val: 3}, api.Op{Kind: 1, Val: 2}, api.Op{Kind: k, Val: 1}, api.Op{Kind: 3, Val: 0})
			}
		}
	}
}

// TestAllThatIsShort goes through all there are of up to five operations, at all small objects.
func TestAllThatIsShort(t *testing.T) {
	longest := 5
	if testing.Short() {
		longest = 3
	}
	for _, object := range objects() {
		some := byWords("1:1 1:-1 2:0 3:5 4:5")
		for n, all := 0, 1; n <= longest; n, all = n+1, all*len(some) {
			for which := range all {
				ops := make([]api.Op, n)
				for i, left := 0, which; i < n; i, left = i+1, left/len(some) {
					ops[i] = some[left%len(some)]
				}
				for most := range 4 {
					b := bothOf(object, most, 0xd6)
					b.does(t, byWords("1:0 1:2 1:-2")[:(which+n)%(most+1)]...)
					b.does(t, ops...)
				}
			}
		}
	}
}

// TestRoomAndItems: for all of a batch, for some, and for none.
func TestRoomAndItems(t *testing.T) {
	for _, object := range objects() {
		for _, most := range []int{1, 4, 12, 30} {
			for _, have := range []int{0, 1, most / 2, most - 1, most} {
				for seed := range uint32(6) {
					for _, c := range []struct{ puts, takes int }{{8, 0}, {0, 8}, {4, 3}, {6, 2}, {2, 6}} {
						b := bothOf(object, most, bytesOf(9, seed)...)
						b.fill(t, have)
						b.does(t, sown(object, 12, c.puts, c.takes, 9, seed)...)
					}
				}
			}
		}
	}
}

// TestBatchBehindBatch: at one object, with bits that are fed between batches, and copies that stand still.
func TestBatchBehindBatch(t *testing.T) {
	for _, object := range objects() {
		for _, most := range []int{0, 1, 5, 40, 1000} {
			b := bothOf(object, most)
			for seed := range uint32(50) {
				if seed%3 == 1 {
					b.feed(bytesOf(int(seed), seed)...)
				}
				k := b.copied()
				b.does(t, sown(object, int(seed)*2, 4, 3, 40, seed)...)
				k.holds(t)
			}
		}
	}
}

// TestManyOperations: hundreds and thousands, of few values and of many.
func TestManyOperations(t *testing.T) {
	for _, object := range objects() {
		for seed, most := range []int{-1, 0, 1, 7, 400, 999, 1000, 1001} {
			b := bothOf(object, most, bytesOf(300, uint32(seed))...)
			b.does(t, sown(object, 700, 5, 2, 3, uint32(seed))...)
			b.does(t, sown(object, 900, 3, 4, 2000, uint32(seed))...)
			b.does(t, sown(object, 1500, 7, 1, math.MaxUint32, uint32(seed))...)
			b.does(t, sown(object, 2500, 1, 7, 1000, uint32(seed))...)
		}
	}
}

// TestAnyValue: the smallest and the largest are put and got as others are.
func TestAnyValue(t *testing.T) {
	for _, object := range objects() {
		take := uint8(2)
		if object == 2 {
			take = 4
		}
		for _, v := range []int32{math.MinInt32, math.MinInt32 + 1, -65537, -1, 0, 1, 65536, math.MaxInt32 - 1, math.MaxInt32} {
			b := bothOf(object, 2)
			b.does(t, api.Op{Kind: 1, Val: v}, api.Op{Kind: 1, Val: ^v}, api.Op{Kind: 1, Val: v}, api.Op{Kind: take, Val: 9})
			b.does(t, api.Op{Kind: take, Val: v}, api.Op{Kind: take, Val: v})
			b.does(t, api.Op{Kind: 1, Val: v})
			if l := b.ways[0].Items(); !slices.Equal(l, []int32{v}) {
				t.Fatalf("the object %d holds %v, not %d", object, l, v)
			}
		}
	}
}

// TestLikeTheLayersBelow: what each of them that the chapter names tells and leaves, batch behind batch.
func TestLikeTheLayersBelow(t *testing.T) {
	for _, most := range []int{-1, 0, 1, 5, 60, 1000} {
		b := [4]*both{}
		for _, object := range objects() {
			b[object] = bothOf(object, most, bytesOf(40, 3)...)
		}
		s, r, h, c := stack.New(most), ring.New(most), skip.New(most), coin.New()
		c.Feed(bytesOf(40, 3)...)
		for seed := range uint32(40) {
			ops := [4][]api.Op{}
			for _, object := range objects() {
				ops[object] = sown(object, int(seed)*3, 4, 3, 30, seed)
			}
			want := [4][]api.Res{1: match.Apply(s, ops[1]), 2: ends.Apply(r, ops[2]), 3: sorted.Apply(h, c, ops[3])}
			stay := [4][]int32{1: s.Items(), 2: r.Items(), 3: h.Items()}
			for _, object := range objects() {
				if told := b[object].does(t, ops[object]...); !slices.Equal(told, want[object]) {
					t.Fatalf("the object %d is told of %v %v, not %v", object, ops[object], told, want[object])
				}
				if l := b[object].ways[0].Items(); !slices.Equal(l, stay[object]) {
					t.Fatalf("the object %d behind %v holds %v, not %v", object, ops[object], l, stay[object])
				}
			}
			for k := 1; k <= 8; k++ {
				if l := b[3].ways[0].Level(k); !slices.Equal(l, h.Level(k)) {
					t.Fatalf("on the level %d are %v, not %v", k, l, h.Level(k))
				}
			}
		}
	}
}

// TestFeedTellsHeights: the bits that were fed tell the heights of a heap, in their order, from one batch to the next.
func TestFeedTellsHeights(t *testing.T) {
	b := bothOf(api.Heap, 9)
	b.feed(0b00101011)                        // 1 1 0, 1 0, 1 0, 0
	b.does(t, byWords("1:30 1:10 1:20 2")...) // 10 of 3, 20 of 2, 30 of 2; 10 is taken
	b.feed(0xff, 0x01)                        // and behind the 0: 1 1 1 1 1 1 1, 1 1 0, 0 0 0 0 0 0
	b.does(t, byWords("1:5")...)              // of 1
	b.does(t, byWords("1:6 1:7 1:8")...)      // of 8, 3, 1
	for _, o := range b.ways {
		for k, want := range [][]int32{nil, {5, 6, 7, 8, 20, 30}, {6, 7, 20, 30}, {6, 7}, {6}, {6}, {6}, {6}, {6}, nil} {
			if l := o.Level(k); !slices.Equal(l, want) {
				t.Errorf("plain %v: on the level %d are %v, not %v", o.plain, k, l, want)
			}
		}
		if n := o.coin.Left(); n != 5 {
			t.Errorf("plain %v: %d bits are left, not 5", o.plain, n)
		}
	}
}

// TestFeedWithoutBits: all heights are 1, till bits are fed.
func TestFeedWithoutBits(t *testing.T) {
	b := bothOf(api.Heap, 5)
	b.does(t, byWords("1:3 1:1")...)
	b.feed()
	b.feed([]uint8{}...)
	b.feed(nil...)
	b.does(t, byWords("1:2")...)
	b.feed(1)
	b.does(t, byWords("1:0 1:9")...)
	for _, o := range b.ways {
		if l := o.Level(2); !slices.Equal(l, []int32{0}) {
			t.Errorf("plain %v: on the level 2 are %v", o.plain, l)
		}
	}
}

// TestWhoFindsNoRoomTossesNothing: the bits are those of who comes next.
func TestWhoFindsNoRoomTossesNothing(t *testing.T) {
	b := bothOf(api.Heap, 1, 0b00000110) // 0, 1 1 0
	b.does(t, byWords("1:7 1:8 1:9")...)
	b.does(t, byWords("1:6 2")...)
	b.does(t, byWords("1:5 1:6")...)
	for _, o := range b.ways {
		if l := o.Level(3); !slices.Equal(l, []int32{5}) || len(o.Level(4)) != 0 {
			t.Errorf("plain %v: on the level 3 are %v, on the level 4 %v", o.plain, l, o.Level(4))
		}
	}
}

// TestFeedOfEachObject: those of a stack and of a deque stay, whatever is done, and so they do in a copy.
func TestFeedOfEachObject(t *testing.T) {
	for _, object := range []uint8{1, 2} {
		b := bothOf(object, 5)
		want := ""
		for seed := range uint32(20) {
			b.feed(0x2b)
			want += "11010100"
			b.does(t, sown(object, 20, 5, 3, 9, seed)...)
			k := b.copied()
			k.holds(t)
			b.does(t, sown(object, 20, 3, 5, 9, seed)...)
			if b.model.bits != want || k.model.bits != want {
				t.Fatalf("the test's model tosses bits of the object %d", object)
			}
		}
	}
}

// TestFeedTooMany: 20000 bits that were not tossed yet, and no more; where some are tossed, as many find room.
func TestFeedTooMany(t *testing.T) {
	for _, object := range objects() {
		b := bothOf(object, 5)
		b.feed(slices.Repeat([]uint8{0xff}, 2499)...)
		b.feed(0x01, 0xff, 0xff)
		if n := b.ways[0].coin.Left(); n != 20000 {
			t.Fatalf("the object %d has %d bits, not 20000", object, n)
		}
		b.holds(t)
		b.does(t, byWords("1:1 1:2")...)
		b.feed(0x55, 0x33, 0x0f)
		b.holds(t)
		if n := b.ways[1].coin.Left(); n != 20000 {
			t.Fatalf("the object %d has %d bits, not 20000", object, n)
		}
	}
}

// TestBitsAreAsTheyWere: also behind their length; and none of that is fed. What was fed is not changed by a change of it.
func TestBitsAreAsTheyWere(t *testing.T) {
	for _, object := range objects() {
		memory := bytesOf(20, 5)
		was := slices.Clone(memory)
		b := bothOf(object, 9, memory[:4]...)
		if !slices.Equal(memory, was) {
			t.Fatalf("the bits are %v, not %v", memory, was)
		}
		clear(memory)
		b.holds(t)
		b.does(t, byWords("1:3 1:1 1:2")...)
	}
}

// TestLevel: of a heap those of each level; none of what is below the first or above the last, and none of a stack and of a deque.
func TestLevel(t *testing.T) {
	for _, object := range objects() {
		b := bothOf(object, 100, bytesOf(200, 8)...)
		b.does(t, sown(object, 90, 8, 0, 50, 4)...)
		for _, o := range b.ways {
			if o.Len() != 90 {
				t.Fatalf("the test put %d", o.Len())
			}
			for _, k := range []int{math.MinInt, -1 << 32, -8, -1, 0, 9, 10, 255, 256, 257, 1<<32 + 1, math.MaxInt} {
				if l := o.Level(k); len(l) != 0 {
					t.Errorf("the object %d has %v on the level %d", object, l, k)
				}
			}
			for k := 1; k <= 8; k++ {
				if is := len(o.Level(k)) > 0; is != (object == 3) {
					t.Errorf("the object %d, plain %v, has %v on the level %d", object, o.plain, o.Level(k), k)
				}
			}
		}
	}
}

// TestCopy goes on as the first one would have: with its object, size, items, levels, bits, and its way.
func TestCopy(t *testing.T) {
	for _, object := range objects() {
		for _, most := range []int{-3, 0, 1, 6, 1000, 2000} {
			b := bothOf(object, most, bytesOf(30, 2)...)
			for seed := range uint32(12) {
				k := b.copied()
				k.holds(t)
				k.copied().holds(t)
				ops := sown(object, 40, 5, 2, 20, seed)
				told := b.does(t, ops...)
				if l := k.does(t, ops...); !slices.Equal(l, told) {
					t.Fatalf("the copy of %d is told of %v %v, not %v", object, ops, l, told)
				}
				b.holds(t)
			}
		}
	}
}

// TestCopyKnowsNothing: of what is done to the other one then, bits too; nor does the first one.
func TestCopyKnowsNothing(t *testing.T) {
	for _, object := range objects() {
		for seed := range uint32(20) {
			b := bothOf(object, 12, bytesOf(5, seed)...)
			b.does(t, sown(object, 15, 6, 2, 20, seed)...)
			k := b.copied()
			b.feed(0xff, 0xff)
			b.does(t, sown(object, 9, 3, 4, 20, seed+50)...)
			k.holds(t)
			k.feed(0x00, 0x11)
			k.does(t, sown(object, 9, 5, 2, 20, seed+90)...)
			b.holds(t)
			k2 := k.copied()
			k.feed(0xff)
			k.does(t, sown(object, 30, 1, 6, 20, seed)...)
			k2.holds(t)
			b.does(t, sown(object, 9, 5, 2, 20, seed+90)...)
			k.holds(t)
		}
	}
}

// TestTwoKnowNothingOfOneAnother: two that are new, of one object and of others.
func TestTwoKnowNothingOfOneAnother(t *testing.T) {
	var all []*both
	for range 2 {
		for _, object := range objects() {
			all = append(all, bothOf(object, 8))
		}
	}
	for seed := range uint32(30) {
		b := all[seed%6]
		b.feed(uint8(seed * 37))
		b.does(t, sown(b.model.object, 10, 4, 3, 9, seed)...)
		for _, other := range all {
			other.holds(t)
		}
	}
}

// TestNil: nothing, 0; of no object either.
func TestNil(t *testing.T) {
	for _, o := range []*Object{nil, New(0, 5, false), New(4, 5, true), New(255, 5, false)} {
		o.Feed()
		o.Feed(1, 2, 3)
		if l := o.Do(); len(l) != 0 {
			t.Errorf("a nil object is told of none %v", l)
		}
		for _, ops := range [][]api.Op{byWords("1:5"), byWords("2"), byWords("1:5 2 3 4 0"), sown(2, 500, 4, 3, 9, 1)} {
			if l := o.Do(ops...); len(l) != 0 {
				t.Errorf("a nil object is told of %v %v", ops, l)
			}
		}
		if l := o.Items(); len(l) != 0 {
			t.Errorf("a nil object holds %v", l)
		}
		for k := -1; k <= 9; k++ {
			if l := o.Level(k); len(l) != 0 {
				t.Errorf("a nil object has %v on the level %d", l, k)
			}
		}
		if o.Len() != 0 || o.Copy() != nil {
			t.Errorf("a nil object has %d items, its copy is %v", o.Len(), o.Copy())
		}
	}
}

// TestOperationsAreAsTheyWere: also behind their length; and what stands there is not done.
func TestOperationsAreAsTheyWere(t *testing.T) {
	for _, object := range objects() {
		for n := range 30 {
			memory := sown(object, 30, 5, 2, 9, uint32(n))
			was := slices.Clone(memory)
			b := bothOf(object, 6, 0x37)
			b.fill(t, 2)
			b.does(t, memory[:n]...)
			if !slices.Equal(memory, was) {
				t.Fatalf("the operations are %v, not %v", memory, was)
			}
		}
	}
}

// TestNothingHandedInIsKept: what came out, and what stays, is the same when the operations are written over.
func TestNothingHandedInIsKept(t *testing.T) {
	for _, object := range objects() {
		for n := range 2 {
			b := bothOf(object, 6, 0x37)
			ops := sown(object, 20, 5, 2, 9, 4)
			want := b.model.do(ops...)
			told, other := b.ways[n].Do(ops...), b.ways[1-n].Do(ops...)
			clear(ops)
			if !slices.Equal(told, want) || !slices.Equal(other, want) {
				t.Errorf("behind a change of the operations it is told %v, %v", told, other)
			}
			b.holds(t)
			b.does(t, sown(object, 20, 3, 4, 9, 4)...)
		}
	}
}

// written writes over all memory of a list, behind its length too.
func written[T any](l []T, v T) {
	l = l[:cap(l)]
	for i := range l {
		l[i] = v
	}
}

// TestAnswersAreNewMemory: what is written over what one call told shows in no other one, nor in the object.
func TestAnswersAreNewMemory(t *testing.T) {
	for _, object := range objects() {
		b := bothOf(object, 30, bytesOf(30, 1)...)
		b.does(t, sown(object, 20, 7, 1, 9, 2)...)
		for _, o := range b.ways {
			items, levels := o.Items(), [10][]int32{}
			for k := range levels {
				levels[k] = o.Level(k)
				written(o.Level(k), -99)
			}
			written(o.Items(), -99)
			if !slices.Equal(items, b.model.values(0)) {
				t.Errorf("two lists of the items share memory: %v", items)
			}
			for k := 1; k <= 8 && object == 3; k++ {
				if !slices.Equal(levels[k], b.model.values(k)) {
					t.Errorf("two lists of the level %d share memory: %v", k, levels[k])
				}
			}
			written(items, -98)
			for k := range levels {
				written(levels[k], -97)
			}
		}
		b.holds(t)
		ops := sown(object, 20, 3, 4, 9, 3)
		want := b.model.do(ops...)
		for _, o := range b.ways {
			k := o.Copy()
			told, same := o.Do(ops...), k.Do(ops...)
			written(same, api.Res{Code: 9, Val: 9})
			if !slices.Equal(told, want) {
				t.Errorf("two answers share memory: %v", told)
			}
			written(told, api.Res{Code: 9, Val: 9})
		}
		b.holds(t)
	}
}

// TestNothingBehindTheLength: of what comes out nothing lies behind it.
func TestNothingBehindTheLength(t *testing.T) {
	for _, object := range objects() {
		for n := range 40 {
			b := bothOf(object, 30, bytesOf(30, 1)...)
			b.does(t, sown(object, 30, 7, 1, 9, 2)...)
			for _, o := range b.ways {
				told := o.Do(sown(object, 40, 3, 4, 9, uint32(n))[:n]...)
				if slices.ContainsFunc(told[n:cap(told)], func(r api.Res) bool { return r != api.Res{} }) {
					t.Errorf("behind what %d are told stands %v", n, told[n:cap(told)])
				}
				for k := range 9 {
					l := o.Level(k)
					if k == 0 {
						l = o.Items()
					}
					if slices.ContainsFunc(l[len(l):cap(l)], func(v int32) bool { return v != 0 }) {
						t.Errorf("behind the items, or the level %d, stands %v", k, l[len(l):cap(l)])
					}
				}
			}
		}
	}
}

// TestLookingChangesNothing: whatever is asked of one in between, it goes on as if it was not.
func TestLookingChangesNothing(t *testing.T) {
	for _, object := range objects() {
		for _, plain := range []bool{false, true} {
			o, k := New(object, 20, plain), New(object, 20, plain)
			for seed := range uint32(30) {
				o.Feed(0x5b)
				k.Feed(0x5b)
				k.Items()
				k.Len()
				k.Level(int(seed % 10))
				k.Copy().Do(sown(object, 9, 4, 4, 9, seed+7)...)
				k.Do()
				ops := sown(object, 12, 4, 3, 9, seed)
				if l, told := o.Do(ops...), k.Do(ops...); !slices.Equal(l, told) {
					t.Fatalf("the object %d, that was looked at, is told of %v %v, not %v", object, ops, told, l)
				}
				for n := 1; n <= 8; n++ {
					if !slices.Equal(o.Level(n), k.Level(n)) {
						t.Fatalf("the object %d, that was looked at, has %v on the level %d, not %v", object, k.Level(n), n, o.Level(n))
					}
				}
			}
		}
	}
}

// TestInTurn: each is asked once, in order, and told in its place.
func TestInTurn(t *testing.T) {
	var asked []api.Op
	ops := byWords("1:5 2 7:3")
	told := inTurn(ops, func(o api.Op) api.Res {
		asked = append(asked, o)
		return api.Res{Code: o.Kind, Val: int32(len(asked))}
	})
	if !slices.Equal(asked, ops) || !slices.Equal(told, []api.Res{{Code: 1, Val: 1}, {Code: 2, Val: 2}, {Code: 7, Val: 3}}) {
		t.Errorf("asked are %v, told %v", asked, told)
	}
	if l := inTurn(nil, func(api.Op) api.Res { panic("asked of none") }); len(l) != 0 {
		t.Errorf("of none is told %v", l)
	}
}

// FuzzObject holds all three objects, plain and not, to the chapter's words, whatever they are asked: a byte below 200 is the Kind of an operation, whose value is the next one; 255 feeds the next one; any other one ends a batch.
func FuzzObject(f *testing.F) {
	f.Add(1, []byte{1, 5, 1, 6, 2, 0})
	f.Add(2, []byte{255, 0x37, 1, 5, 2, 6, 3, 0, 250, 4, 0, 2, 9, 255, 1, 0, 1})
	f.Add(-1, []byte{2, 5, 1, 3, 250, 1, 1, 4, 128})
	f.Add(1001, []byte{255, 255, 255, 7, 1, 9, 1, 4, 250, 2, 0, 2, 0, 1, 200, 250, 2, 2})
	f.Fuzz(func(t *testing.T, most int, b []byte) {
		b = b[:min(len(b), 600)]
		for _, object := range objects() {
			for _, n := range []int{most, int(uint(most) % 6)} {
				a := bothOf(object, n)
				var ops []api.Op
				for i := 0; i+1 < len(b); i++ {
					switch {
					case b[i] == 255:
						i++
						a.feed(b[i])
					case b[i] >= 200:
						a.does(t, ops...)
						ops = nil
					default:
						kind := b[i]
						i++
						ops = append(ops, api.Op{Kind: kind, Val: int32(int8(b[i])) << (b[i] % 25)})
					}
				}
				a.does(t, ops...)
				a.copied().holds(t)
			}
		}
	})
}
