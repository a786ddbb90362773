package sorted

import (
	"math"
	"slices"
	"strconv"
	"strings"
	"testing"

	"reaper/api"
	"reaper/coin"
	"reaper/skip"
	"reaper/spec"
)

// Short names of the codes, as a batch's answers are many.
const (
	done  = uint8(1)
	got   = uint8(2)
	full  = uint8(3)
	empty = uint8(4)
	bad   = uint8(5)
)

const (
	smallest = math.MinInt32
	largest  = math.MaxInt32
)

// byWords are operations: a number is an Add of it, m is a Min, x and a number is an operation of that Kind. What is no Add has a value of its place, which is to say nothing.
func byWords(words string) []api.Op {
	var ops []api.Op
	for i, w := range strings.Fields(words) {
		o := api.Op{Kind: 2, Val: int32(-700 - i)}
		if n, err := strconv.Atoi(strings.TrimPrefix(w, "x")); err == nil && w[0] == 'x' {
			o.Kind = uint8(n)
		} else if err == nil {
			o = api.Op{Kind: 1, Val: int32(n)}
		}
		ops = append(ops, o)
	}
	return ops
}

// toldBy are what operations are told: a number is Got and it, + is Done, F is Full, E is Empty, any other one is Bad.
func toldBy(words string) []api.Res {
	var l []api.Res
	for _, w := range strings.Fields(words) {
		r := api.Res{Code: bad}
		n, err := strconv.Atoi(w)
		switch {
		case err == nil:
			r = api.Res{Code: got, Val: int32(n)}
		case w == "+":
			r.Code = done
		case w == "F":
			r.Code = full
		case w == "E":
			r.Code = empty
		}
		l = append(l, r)
	}
	return l
}

// item is an item of the model.
type item struct {
	v      int32
	height int
}

// valuesOf are the values of items, heights left out.
func valuesOf(items []item) []int32 {
	var l []int32
	for _, it := range items {
		l = append(l, it.v)
	}
	return l
}

// there are items of these values, whose heights are 1, 2, .., 8, 1 and so on.
func there(values ...int32) []item {
	var l []item
	for i, v := range values {
		l = append(l, item{v, i%8 + 1})
	}
	return l
}

// evens are n items, of which the first ones are negative.
func evens(n int) []item {
	l := make([]int32, n)
	for i := range l {
		l[i] = int32(2 * (i - n/4))
	}
	return there(l...)
}

// tossOf takes the first of bits, 0 if there is none.
func tossOf(bits string) (bool, string) {
	if bits == "" {
		return false, ""
	}
	return bits[0] == '1', bits[1:]
}

// heightOf is what bits tell as a height, and the bits behind it.
func heightOf(bits string) (int, string) {
	h, is := 1, true
	for h < 8 {
		if is, bits = tossOf(bits); !is {
			break
		}
		h++
	}
	return h, bits
}

// orderOf is the order in the chapter's words: what adds, the least first, is looked for one by one.
func orderOf(ops []api.Op) []int {
	var l []int
	left := make([]bool, len(ops))
	for i, o := range ops {
		left[i] = o.Kind == 1
	}
	for {
		first := -1
		for i, o := range ops {
			if left[i] && (first < 0 || o.Val < ops[first].Val) {
				first = i
			}
		}
		if first < 0 {
			break
		}
		l, left[first] = append(l, first), false
	}
	for i, o := range ops {
		if o.Kind != 1 {
			l = append(l, i)
		}
	}
	return l
}

// model does operations as the chapters say, on a list of most of these items, with a coin of these bits: what each is told, and items and bits behind all.
func model(most int, items []item, bits string, ops []api.Op) ([]api.Res, []item, string) {
	items, told := slices.Clone(items), make([]api.Res, len(ops))
	for _, place := range orderOf(ops) {
		switch o := ops[place]; {
		case o.Kind == 1 && len(items) >= most:
			told[place].Code = full
		case o.Kind == 1:
			at := 0
			for at < len(items) && items[at].v <= o.Val {
				at++
			}
			it := item{v: o.Val}
			it.height, bits = heightOf(bits)
			items = slices.Insert(items, at, it)
			told[place].Code = done
		case o.Kind == 2 && len(items) == 0:
			told[place].Code = empty
		case o.Kind == 2:
			told[place] = api.Res{Code: got, Val: items[0].v}
			items = slices.Delete(items, 0, 1)
		default:
			told[place].Code = bad
		}
	}
	return told, items, bits
}

// listOf is a list of most that has these items.
func listOf(t *testing.T, most int, items []item) *skip.Skip {
	t.Helper()
	s := skip.New(most)
	for _, it := range items {
		if !s.Insert(it.v, it.height) {
			t.Fatalf("a list of %d has no room for %v", most, it)
		}
	}
	return s
}

// coinOf is a coin of these bits. What makes its first byte whole is tossed.
func coinOf(t *testing.T, bits string) *coin.Coin {
	t.Helper()
	c := coin.New()
	more := (8 - len(bits)%8) % 8
	whole := strings.Repeat("0", more) + bits
	for ; whole != ""; whole = whole[8:] {
		b := uint8(0)
		for nth := range 8 {
			b |= (whole[nth] - '0') << nth
		}
		c.Feed(b)
	}
	for range more {
		c.Toss()
	}
	if c.Left() != len(bits) {
		t.Fatalf("the test's coin has %d bits, not %d", c.Left(), len(bits))
	}
	return c
}

// holds checks a list on all levels. It is looked at beside them too: what is put where it has as many as may be is not put.
func holds(t *testing.T, s *skip.Skip, most int, items []item) {
	t.Helper()
	if s.Len() != len(items) || s.Most() != most {
		t.Fatalf("the list holds %d of %d, not %d of %d", s.Len(), s.Most(), len(items), most)
	}
	if l := s.Items(); !slices.Equal(l, valuesOf(items)) {
		t.Fatalf("the list holds %v, not %v", l, valuesOf(items))
	}
	for k := 1; k <= 8; k++ {
		var on []int32
		for _, it := range items {
			if it.height >= k {
				on = append(on, it.v)
			}
		}
		if l := s.Level(k); !slices.Equal(l, on) {
			t.Fatalf("on the level %d are %v, not %v", k, l, on)
		}
	}
}

// has checks a coin: how many bits, and which.
func has(t *testing.T, c *coin.Coin, bits string) {
	t.Helper()
	if c.Left() != len(bits) {
		t.Fatalf("the coin has %d bits left, not %d", c.Left(), len(bits))
	}
	k := c.Copy()
	for i := range bits {
		if is := k.Toss(); is != (bits[i] == '1') {
			t.Fatalf("the bit %d that is left is %v, not %c", i, is, bits[i])
		}
	}
}

// orders checks one Order, also against spec.Order.
func orders(t *testing.T, ops []api.Op, want []int) {
	t.Helper()
	was := slices.Clone(ops)
	l := Order(ops)
	if !slices.Equal(l, want) {
		t.Fatalf("Order of %v is %v, not %v", was, l, want)
	}
	if k := spec.Order(api.Heap, ops); !slices.Equal(l, k) {
		t.Fatalf("Order of %v is %v, spec.Order %v", was, l, k)
	}
	if !slices.Equal(ops, was) {
		t.Fatalf("Order leaves the operations as %v, not %v", ops, was)
	}
}

// way is Apply or Plain.
type way struct {
	name string
	do   func(*skip.Skip, *coin.Coin, []api.Op) []api.Res
}

// ways are both.
func ways() []way {
	return []way{{"Apply", Apply}, {"Plain", Plain}}
}

// does checks Apply and Plain, the list and the coin behind them, and the operations, that stay as they were.
func does(t *testing.T, most int, items []item, bits string, ops []api.Op, told []api.Res, stay []item, left string) {
	t.Helper()
	for _, w := range ways() {
		s, c, was := listOf(t, most, items), coinOf(t, bits), slices.Clone(ops)
		if l := w.do(s, c, ops); !slices.Equal(l, told) {
			t.Fatalf("%s at %v of %d of %v is %v, not %v", w.name, items, most, ops, l, told)
		}
		holds(t, s, min(max(most, 0), 1000), stay)
		has(t, c, left)
		if !slices.Equal(ops, was) {
			t.Fatalf("%s leaves the operations as %v, not %v", w.name, ops, was)
		}
	}
}

// likeAll checks all three calls against the chapter's words, and against spec.
func likeAll(t *testing.T, most int, items []item, bits string, ops []api.Op) {
	t.Helper()
	orders(t, ops, orderOf(ops))
	told, stay, left := model(min(max(most, 0), 1000), items, bits, ops)
	does(t, most, items, bits, ops, told, stay, left)
	l, r := spec.Batch(api.Heap, most, valuesOf(items), ops)
	if !slices.Equal(l, valuesOf(stay)) || !slices.Equal(r, told) {
		t.Fatalf("the test's model differs from spec.Batch of %v: %v, %v and %v, %v", ops, stay, told, l, r)
	}
}

// sown are operations that come of a short rule: of each eight as many Adds as said, as many Mins, and others. The values are of as many as said.
func sown(n, adds, mins int, values, seed uint32) []api.Op {
	ops := make([]api.Op, n)
	state := seed*2654435761 + 12345
	for i := range ops {
		state = state*1664525 + 1013904223
		kind := uint8(state >> 16)
		switch which := int(state >> 29); {
		case which < adds:
			kind = 1
		case which < adds+mins:
			kind = 2
		}
		state = state*1664525 + 1013904223
		ops[i] = api.Op{Kind: kind, Val: int32(state>>3%values) - int32(values/2)}
	}
	return ops
}

// bitsOf are n bits that come of a short rule; of each eight as many are 1 as said.
func bitsOf(n, ones int, seed uint32) string {
	l := make([]byte, n)
	state := seed*2654435761 + 54321
	for i := range l {
		state = state*1664525 + 1013904223
		l[i] = '0'
		if int(state>>29) < ones {
			l[i] = '1'
		}
	}
	return string(l)
}

// TestExample is the chapter's example.
func TestExample(t *testing.T) {
	ops := []api.Op{{Kind: api.Min}, {Kind: api.Add, Val: 5}, {Kind: api.Add, Val: 3}}
	told := []api.Res{{Code: api.Got, Val: 3}, {Code: api.Done}, {Code: api.Done}}
	orders(t, ops, []int{2, 1, 0})
	does(t, 2, nil, "", ops, told, []item{{5, 1}}, "")
}

// TestOrder: what adds comes first, by its value.
func TestOrder(t *testing.T) {
	for _, c := range []struct {
		words string
		want  []int
	}{
		{"", nil},
		{"5", []int{0}}, {"m", []int{0}}, {"x0", []int{0}}, {"x3", []int{0}}, {"x255", []int{0}},
		{"5 6", []int{0, 1}}, {"6 5", []int{1, 0}}, {"5 5", []int{0, 1}},
		{"m 5", []int{1, 0}}, {"5 m", []int{0, 1}}, {"m m", []int{0, 1}},
		{"3 1 2", []int{1, 2, 0}}, {"1 2 3", []int{0, 1, 2}}, {"3 2 1", []int{2, 1, 0}},
		{"m 9 m 7 m 8 m", []int{3, 5, 1, 0, 2, 4, 6}},
		{"x0 9 x3 7 x255 8 m", []int{3, 5, 1, 0, 2, 4, 6}},
		{"m x255 x3 m x0", []int{0, 1, 2, 3, 4}},
		{"0 -1 1 -2 2", []int{3, 1, 0, 2, 4}},
		{"-1 -10 -9 10 9 1", []int{1, 2, 0, 5, 4, 3}},
		{"2147483647 -2147483648 0 2147483646 -2147483647", []int{1, 4, 2, 3, 0}},
		{"-2147483648 2147483647 -2147483648 2147483647", []int{0, 2, 1, 3}},
		{"1 -2147483648 m -1 2147483647", []int{1, 3, 0, 4, 2}},
		{"7 7 7 7 7", []int{0, 1, 2, 3, 4}},
		{"7 m 7 x9 7 m 7", []int{0, 2, 4, 6, 1, 3, 5}},
		{"8 7 8 7 m 7 8 6", []int{7, 1, 3, 5, 0, 2, 6, 4}},
	} {
		orders(t, byWords(c.words), c.want)
	}
	orders(t, nil, nil)
	orders(t, []api.Op{}, nil)
}

// TestOrderOfEachKind: no value of what adds nothing says anything.
func TestOrderOfEachKind(t *testing.T) {
	for n := range 256 {
		o := api.Op{Kind: uint8(n), Val: -5}
		want := []int{3, 1, 0, 2, 4}
		if n == 1 {
			want = []int{0, 2, 4, 3, 1}
		}
		orders(t, []api.Op{o, {Kind: 1, Val: 9}, o, {Kind: 1, Val: 3}, o}, want)
		orders(t, []api.Op{o}, []int{0})
		k := o
		k.Val = -9
		if n != 1 {
			orders(t, []api.Op{o, k, o, k}, []int{0, 1, 2, 3})
		}
	}
}

// TestOrderOfMany has hundreds and thousands, of few values and of many, in all the ways that they can stand.
func TestOrderOfMany(t *testing.T) {
	for _, n := range []int{11, 12, 13, 20, 21, 50, 300, 999, 1000, 1001, 2500} {
		var rising, falling, alike, turns []api.Op
		for i := range n {
			rising = append(rising, api.Op{Kind: 1, Val: int32(i)})
			falling = append(falling, api.Op{Kind: 1, Val: int32(-i)})
			alike = append(alike, api.Op{Kind: 1, Val: 7})
			turns = append(turns, api.Op{Kind: uint8(1 + i%2), Val: int32(i % 4)})
		}
		for _, ops := range [][]api.Op{rising, falling, alike, turns} {
			orders(t, ops, orderOf(ops))
		}
		for seed, values := range []uint32{1, 2, 3, 10, 1000, math.MaxUint32} {
			for adds := range 9 {
				ops := sown(n, adds, (8-adds)/2, values, uint32(seed))
				orders(t, ops, orderOf(ops))
			}
		}
	}
}

// TestOrderOfAllThatIsShort goes through all there are of up to six operations: of three values, Min, and another one.
func TestOrderOfAllThatIsShort(t *testing.T) {
	for n, all := 0, 1; n <= 6; n, all = n+1, all*5 {
		for which := range all {
			ops := shortOne(n, which)
			orders(t, ops, orderOf(ops))
		}
	}
}

// shortOne is one of all there are of so many operations.
func shortOne(n, which int) []api.Op {
	five := byWords("-1 0 1 m x3")
	ops := make([]api.Op, n)
	for i := range ops {
		ops[i], which = five[which%5], which/5
	}
	return ops
}

// some is an input with what is told, and what stays; the items have the heights 1, 2, 3 and so on, the coin is one without bits.
type some struct {
	most  int
	items []int32
	ops   string
	told  string
	stay  []int32
}

// check holds each to what is told.
func check(t *testing.T, l []some) {
	t.Helper()
	for _, c := range l {
		ops := byWords(c.ops)
		for _, w := range ways() {
			s := listOf(t, c.most, there(c.items...))
			if told := w.do(s, coin.New(), ops); !slices.Equal(told, toldBy(c.told)) {
				t.Errorf("%s at %v of %d of %q is %v, not %q", w.name, c.items, c.most, c.ops, told, c.told)
			}
			if stay := s.Items(); !slices.Equal(stay, c.stay) {
				t.Errorf("%s at %v of %d of %q leaves %v, not %v", w.name, c.items, c.most, c.ops, stay, c.stay)
			}
		}
		for _, bits := range []string{"", "1", "110100", bitsOf(100, 4, 1)} {
			likeAll(t, c.most, there(c.items...), bits, ops)
		}
	}
}

// TestOfNone: nothing is told, and all stays.
func TestOfNone(t *testing.T) {
	for _, n := range []int{0, 1, 5, 999, 1000} {
		for _, have := range []int{0, n / 2, n} {
			does(t, n, evens(have), "1101", nil, nil, evens(have), "1101")
			does(t, n, evens(have), "1101", []api.Op{}, nil, evens(have), "1101")
		}
	}
}

// TestOnlyAdds: all are put, each in its place.
func TestOnlyAdds(t *testing.T) {
	check(t, []some{
		{9, nil, "5", "+", []int32{5}},
		{9, nil, "5 3 4", "+ + +", []int32{3, 4, 5}},
		{9, nil, "5 5 5", "+ + +", []int32{5, 5, 5}},
		{9, []int32{4}, "5 3", "+ +", []int32{3, 4, 5}},
		{9, []int32{4, 4}, "4 3 4 5", "+ + + +", []int32{3, 4, 4, 4, 4, 5}},
		{9, []int32{-7, 0, 7}, "8 -8 1 -1", "+ + + +", []int32{-8, -7, -1, 0, 1, 7, 8}},
		{9, []int32{0}, "2147483647 -2147483648", "+ +", []int32{smallest, 0, largest}},
		{9, []int32{smallest, largest}, "-2147483648 2147483647", "+ +", []int32{smallest, smallest, largest, largest}},
	})
}

// TestOnlyMins: the first item, one by one, and Empty when none is left.
func TestOnlyMins(t *testing.T) {
	check(t, []some{
		{9, nil, "m", "E", nil},
		{9, nil, "m m m", "E E E", nil},
		{9, []int32{4}, "m", "4", nil},
		{9, []int32{4}, "m m m", "4 E E", nil},
		{9, []int32{4, 5, 6}, "m m", "4 5", []int32{6}},
		{9, []int32{4, 4, 6}, "m m m m", "4 4 6 E", nil},
		{9, []int32{smallest, -1, 0, largest}, "m m m m", "-2147483648 -1 0 2147483647", nil},
		{3, []int32{1, 2, 3}, "m", "1", []int32{2, 3}},
		{0, nil, "m", "E", nil},
	})
}

// TestWhoeverPutsComesFirst: a Min that stands ahead of an Add gets what that puts, if it is the least.
func TestWhoeverPutsComesFirst(t *testing.T) {
	check(t, []some{
		{9, nil, "m 5", "5 +", nil},
		{9, nil, "5 m", "+ 5", nil},
		{9, []int32{7}, "m 5", "5 +", []int32{7}},
		{9, []int32{5}, "m 7", "5 +", []int32{7}},
		{9, []int32{7}, "m m 5 6", "5 6 + +", []int32{7}},
		{9, []int32{6}, "m 7 m 5 m", "5 + 6 + 7", nil},
		{9, nil, "m m m 2 1", "1 2 E + +", nil},
		{9, nil, "3 m 2 m 1 m", "+ 1 + 2 + 3", nil},
		{9, nil, "m 1 m 2 m 3 m", "1 + 2 + 3 + E", nil},
		{9, []int32{0}, "m -1 m m -2147483648", "-2147483648 + -1 0 +", nil},
		{9, []int32{largest}, "2147483647 m 2147483646 m", "+ 2147483646 + 2147483647", []int32{largest}},
	})
}

// TestAsManyAsThereIsRoomFor: those with the least values, and of one value those that stand ahead.
func TestAsManyAsThereIsRoomFor(t *testing.T) {
	check(t, []some{
		{0, nil, "5", "F", nil},
		{0, nil, "5 3 4", "F F F", nil},
		{1, nil, "5 3 4", "F + F", []int32{3}},
		{2, nil, "5 3 4", "F + +", []int32{3, 4}},
		{3, nil, "5 3 4", "+ + +", []int32{3, 4, 5}},
		{2, nil, "3 2 1", "F + +", []int32{1, 2}},
		{1, nil, "7 7 7", "+ F F", []int32{7}},
		{2, nil, "7 7 7", "+ + F", []int32{7, 7}},
		{3, nil, "8 7 8 7 7 8 7", "F + F + + F F", []int32{7, 7, 7}},
		{5, nil, "8 7 8 7 7 8 7", "+ + F + + F +", []int32{7, 7, 7, 7, 8}},
		{3, []int32{1}, "0 5 -5", "+ F +", []int32{-5, 0, 1}},
		{3, []int32{1, 1}, "9 8", "F +", []int32{1, 1, 8}},
		{3, []int32{9, 9}, "8 8", "+ F", []int32{8, 9, 9}},
		{3, []int32{9, 9, 9}, "8 -8", "F F", []int32{9, 9, 9}},
		{2, nil, "2147483647 -2147483648 0", "F + +", []int32{smallest, 0}},
		{1, nil, "-1 -2147483648 2147483647", "F + F", []int32{smallest}},
	})
}

// TestTheRoomIsThatAheadOfTheBatch: a Min of the same batch makes none, wherever it stands.
func TestTheRoomIsThatAheadOfTheBatch(t *testing.T) {
	check(t, []some{
		{0, nil, "m 5 m", "E F E", nil},
		{1, []int32{4}, "m 5", "4 F", nil},
		{1, []int32{4}, "m 3", "4 F", nil},
		{1, []int32{4}, "m m 5 m 6", "4 E F E F", nil},
		{1, nil, "5 m 6 m", "+ 5 F E", nil},
		{1, nil, "6 m 5 m", "F 5 + E", nil},
		{2, []int32{4}, "m m m 5 6", "4 5 E + F", nil},
		{2, []int32{4}, "m m 3 2 1", "1 4 F F +", nil},
		{3, []int32{4, 6}, "m 5 m 5 m 5 m", "4 + 5 F 6 F E", nil},
		{3, []int32{4, 5, 6}, "m m m 1 2 3", "4 5 6 F F F", nil},
		{2, nil, "m m m m 9 8 7", "7 8 E E F + +", nil},
	})
}

// TestMinThatFindsNothingLeft is told Empty, behind those that got some.
func TestMinThatFindsNothingLeft(t *testing.T) {
	for _, have := range []int{0, 1, 2, 7} {
		for _, puts := range []int{0, 1, 3} {
			var ops []api.Op
			for range have + puts + 2 {
				ops = append(ops, api.Op{Kind: 2})
			}
			for i := range puts {
				ops = append(ops, api.Op{Kind: 1, Val: int32(i)})
			}
			told, stay, left := model(10, evens(have), "", ops)
			for i := range have + puts + 2 {
				if want := map[bool]uint8{true: got, false: empty}[i < have+puts]; told[i].Code != want {
					t.Fatalf("the test's Min %d of %d is told %v", i, have+puts, told[i])
				}
			}
			does(t, 10, evens(have), "", ops, told, stay, left)
		}
	}
}

// TestBadAmongOthers: of a Kind that a heap has not, between others.
func TestBadAmongOthers(t *testing.T) {
	check(t, []some{
		{9, nil, "x0 x3 x255", "? ? ?", nil},
		{9, []int32{4, 5}, "x0 x3 x255", "? ? ?", []int32{4, 5}},
		{0, nil, "x3", "?", nil},
		{9, []int32{4}, "x3 m x0 5 x4 3 x255", "? 3 ? + ? + ?", []int32{4, 5}},
		{1, nil, "x3 5 x3 4 x3 m x3 m", "? F ? + ? 4 ? E", nil},
	})
}

// TestBadLeavesAllAsItWas: whatever other Kind it is, and whatever value it has; no bit is tossed for it.
func TestBadLeavesAllAsItWas(t *testing.T) {
	for n := range 256 {
		kind := uint8(n)
		if kind == 1 || kind == 2 {
			continue
		}
		for _, v := range []int32{0, 1, -1, 5, smallest, largest} {
			b := api.Op{Kind: kind, Val: v}
			for _, have := range []int{0, 1, 3} {
				does(t, 3, evens(have), "1101", []api.Op{b, b}, []api.Res{{Code: bad}, {Code: bad}}, evens(have), "1101")
			}
			does(t, 2, there(7), "110101", []api.Op{b, {Kind: 1, Val: 5}, b, {Kind: 1, Val: 3}, b, {Kind: 2}, b, {Kind: 2}, b, {Kind: 2}},
				toldBy("? F ? + ? 3 ? 7 ? E"), nil, "101")
			for _, w := range ways() {
				if told := w.do(nil, nil, []api.Op{b}); !slices.Equal(told, toldBy("?")) {
					t.Errorf("%s at nil of %v is %v", w.name, b, told)
				}
			}
		}
	}
}

// TestHeights: the coin tells one for each that is put, by the order, and none for any other.
func TestHeights(t *testing.T) {
	for _, c := range []struct {
		most  int
		items []item
		bits  string
		ops   string
		told  string
		stay  []item
		left  string
	}{
		{9, nil, "", "5", "+", []item{{5, 1}}, ""},
		{9, nil, "0", "5", "+", []item{{5, 1}}, ""},
		{9, nil, "1", "5", "+", []item{{5, 2}}, ""},
		{9, nil, "10", "5", "+", []item{{5, 2}}, ""},
		{9, nil, "11110", "5", "+", []item{{5, 5}}, ""},
		{9, nil, "111111111", "5", "+", []item{{5, 8}}, "11"},
		{9, nil, "1111111", "5 6", "+ +", []item{{5, 8}, {6, 1}}, ""},
		{9, nil, "11111111110", "5 6", "+ +", []item{{5, 8}, {6, 4}}, ""},
		{9, nil, "1101000", "7 5 6", "+ + +", []item{{5, 3}, {6, 2}, {7, 1}}, "0"},
		{9, nil, "1101", "7 5 6", "+ + +", []item{{5, 3}, {6, 2}, {7, 1}}, ""},
		{9, nil, "0111", "7 5 6", "+ + +", []item{{5, 1}, {6, 4}, {7, 1}}, ""},
		{9, nil, "110100111", "7 7 7", "+ + +", []item{{7, 3}, {7, 2}, {7, 1}}, "111"},
		{9, nil, "110", "m 5", "5 +", nil, ""},
		{9, nil, "110101", "m 5 m", "5 + E", nil, "101"},
		{9, []item{{6, 4}}, "1101", "m m m", "6 E E", nil, "1101"},
		{9, []item{{6, 4}}, "11010", "m 7 5", "5 + +", []item{{6, 4}, {7, 2}}, ""},
		{9, []item{{6, 4}, {6, 2}}, "11010", "6 6", "+ +", []item{{6, 4}, {6, 2}, {6, 3}, {6, 2}}, ""},
		{0, nil, "1101", "5 3", "F F", nil, "1101"},
		{1, []item{{6, 4}}, "1101", "5 m 3", "F 6 F", nil, "1101"},
		{1, nil, "1101", "5 3", "F +", []item{{3, 3}}, "1"},
		{2, nil, "11010111", "5 3 5 4 5", "F + F + F", []item{{3, 3}, {4, 2}}, "111"},
		{2, nil, "11010111", "7 7 7", "+ + F", []item{{7, 3}, {7, 2}}, "111"},
		{2, []item{{6, 4}}, "11010111", "x0 7 m m 5 x3 m", "? F 5 6 + ? E", nil, "10111"},
		{9, nil, "11010111", "x0 x3 x255 m", "? ? ? E", nil, "11010111"},
	} {
		does(t, c.most, c.items, c.bits, byWords(c.ops), toldBy(c.told), c.stay, c.left)
		likeAll(t, c.most, c.items, c.bits, byWords(c.ops))
	}
}

// TestAtEachList has lists without items, with some, with one less than as many as may be, and with as many, and coins without bits, with a few, and with many.
func TestAtEachList(t *testing.T) {
	for _, most := range []int{math.MinInt, -1, 0, 1, 2, 3, 8, 40, 999, 1000, 1001, math.MaxInt} {
		n := min(max(most, 0), 1000)
		for _, have := range []int{0, 1, n / 2, n - 2, n - 1, n} {
			if have < 0 || have > n {
				continue
			}
			for seed, bits := range []string{"", "1", "0110", bitsOf(25, 5, 1), bitsOf(400, 4, 2), bitsOf(999, 7, 3), bitsOf(300, 8, 4)} {
				values := uint32(2*have + 5)
				likeAll(t, most, evens(have), bits, sown(40, 4, 3, values, uint32(seed)))
				likeAll(t, most, evens(have), bits, sown(40, 3, 4, 4, uint32(seed)))
				likeAll(t, most, evens(have), bits, sown(12, 8, 0, values, uint32(seed)))
				likeAll(t, most, evens(have), bits, sown(12, 0, 8, values, uint32(seed)))
			}
		}
	}
}

// TestTheEdgesOfMost: two more are put than there may be.
func TestTheEdgesOfMost(t *testing.T) {
	for _, c := range []struct{ most, is int }{
		{math.MinInt, 0}, {-1000, 0}, {-1, 0}, {0, 0}, {1, 1}, {2, 2}, {999, 999}, {1000, 1000}, {1001, 1000}, {math.MaxInt, 1000},
	} {
		for _, have := range []int{0, c.is / 2, c.is} {
			var ops []api.Op
			for i := range c.is - have + 2 {
				ops = append(ops, api.Op{Kind: 1, Val: int32(-i)})
			}
			told, stay, left := model(c.is, evens(have), bitsOf(3000, 4, 5), ops)
			if told[0].Code != full || told[1].Code != full || len(ops) > 2 && told[2].Code != done || len(stay) != c.is {
				t.Fatalf("the test's first ones are told %v, %d stay", told[:2], len(stay))
			}
			does(t, c.most, evens(have), bitsOf(3000, 4, 5), ops, told, stay, left)
		}
	}
}

// TestAllThatIsShort goes through all there are of up to six operations, at all small lists, with a coin that has bits, or has none.
func TestAllThatIsShort(t *testing.T) {
	longest := 6
	if testing.Short() {
		longest = 4
	}
	for n, all := 0, 1; n <= longest; n, all = n+1, all*5 {
		for which := range all {
			ops := shortOne(n, which)
			for most := range 4 {
				for have := range most + 1 {
					bits := []string{"", "1", "0110110", "10111111111"}[(which+have)%4]
					likeAll(t, most, there(-1, 0, 0)[:have], bits, ops)
				}
			}
		}
	}
}

// TestNilList: no room, no item, and no bit is tossed.
func TestNilList(t *testing.T) {
	for _, w := range ways() {
		for _, s := range []*skip.Skip{nil, skip.New(0), skip.New(-7)} {
			for _, k := range []*coin.Coin{nil, coin.New(), coinOf(t, "1101")} {
				had := k.Left()
				for words, want := range map[string]string{
					"": "", "5": "F", "m": "E", "x3": "?", "m 5 x0 3 m -7 x255 x4": "E F ? F E F ? ?",
				} {
					if told := w.do(s, k, byWords(words)); !slices.Equal(told, toldBy(want)) {
						t.Errorf("%s at none of %q is %v, not %q", w.name, words, told, want)
					}
				}
				if told := w.do(s, k, sown(300, 4, 3, 50, 1)); slices.ContainsFunc(told, func(r api.Res) bool { return r.Code < full || r.Val != 0 }) {
					t.Errorf("%s at none of some hundreds is %v", w.name, told)
				}
				if s.Len() != 0 || len(s.Items()) != 0 || k.Left() != had {
					t.Errorf("%s at none leaves %v, and %d bits, not %d", w.name, s.Items(), k.Left(), had)
				}
			}
		}
	}
}

// TestNilCoin: as one without bits, so that all are of the height 1.
func TestNilCoin(t *testing.T) {
	for _, w := range ways() {
		for seed := range uint32(20) {
			ops := sown(60, 5, 2, 30, seed)
			told, stay, _ := model(20, evens(7), "", ops)
			s := listOf(t, 20, evens(7))
			if l := w.do(s, nil, ops); !slices.Equal(l, told) {
				t.Fatalf("%s without a coin of %v is %v, not %v", w.name, ops, l, told)
			}
			holds(t, s, 20, stay)
		}
	}
}

// TestAnyValue: the smallest and the largest are put and got as others are, and so is 0; the value of a Min says nothing.
func TestAnyValue(t *testing.T) {
	for _, v := range []int32{smallest, smallest + 1, -65537, -256, -1, 0, 1, 255, 65536, largest - 1, largest} {
		least, other := min(v, ^v), max(v, ^v)
		does(t, 3, there(0), "10", []api.Op{{Kind: 2, Val: ^v}, {Kind: 1, Val: v}, {Kind: 2, Val: v}, {Kind: 1, Val: ^v}, {Kind: 2, Val: 0}, {Kind: 2, Val: v}},
			[]api.Res{{Code: got, Val: least}, {Code: done}, {Code: got, Val: min(other, 0)}, {Code: done}, {Code: got, Val: max(other, 0)}, {Code: empty}}, nil, "")
		does(t, 1, nil, "10", []api.Op{{Kind: 1, Val: v}, {Kind: 1, Val: v}, {Kind: 2, Val: ^v}, {Kind: 2, Val: v}},
			[]api.Res{{Code: done}, {Code: full}, {Code: got, Val: v}, {Code: empty}}, nil, "")
	}
}

// TestManyOperations: hundreds and thousands, now more that add, now more that take, of few values and of many.
func TestManyOperations(t *testing.T) {
	for seed, most := range []int{-1, 0, 1, 2, 7, 50, 400, 999, 1000, 1001} {
		n := min(max(most, 0), 1000)
		for _, have := range []int{0, n / 2, n} {
			for _, c := range []struct {
				ops    []api.Op
				values string
			}{
				{sown(700, 5, 2, 3, uint32(seed)), bitsOf(500, 4, 6)},
				{sown(900, 3, 4, 2000, uint32(seed)), bitsOf(3000, 4, 7)},
				{sown(1500, 7, 1, math.MaxUint32, uint32(seed)), bitsOf(2000, 6, 8)},
				{sown(1800, 4, 4, 1000, uint32(seed)), ""},
			} {
				likeAll(t, most, evens(have), c.values, c.ops)
			}
		}
	}
}

// TestAgain: one batch behind the other at one list and one coin, with what is put, taken and fed in between.
func TestAgain(t *testing.T) {
	for _, w := range ways() {
		for _, most := range []int{1, 5, 30, 1000} {
			s, c := skip.New(most), coin.New()
			var items []item
			bits := ""
			for seed := range uint32(60) {
				ops := sown(int(seed), 4, 3, 40, seed)
				told, stay, left := model(most, items, bits, ops)
				if l := w.do(s, c, ops); !slices.Equal(l, told) {
					t.Fatalf("%s, batch %d: %v, not %v", w.name, seed, l, told)
				}
				holds(t, s, most, stay)
				has(t, c, left)
				items, bits = stay, left
				if seed%3 == 0 {
					c.Feed(0x5b)
					bits += "11011010"
				}
				if _, is := s.Min(); is {
					items = items[1:]
				}
			}
		}
	}
}

// TestBothTellTheSame: also where the two come by turns, each at the list and the coin that the other one left.
func TestBothTellTheSame(t *testing.T) {
	for _, most := range []int{0, 3, 50, 1000} {
		s, c := skip.New(most), coinOf(t, bitsOf(2000, 5, 9))
		for seed := range uint32(40) {
			ops := sown(int(seed)*7, 5, 2, 100, seed)
			k, d := s.Copy(), c.Copy()
			a, b := ways()[seed%2], ways()[1-seed%2]
			if l, m := a.do(s, c, ops), b.do(k, d, ops); !slices.Equal(l, m) {
				t.Fatalf("of %v %s is %v, %s %v", ops, a.name, l, b.name, m)
			}
			for n := 1; n <= 8; n++ {
				if l, m := s.Level(n), k.Level(n); !slices.Equal(l, m) {
					t.Fatalf("behind %v the level %d is %v by %s, %v by %s", ops, n, l, a.name, m, b.name)
				}
			}
			if s.Len() != k.Len() || c.Left() != d.Left() {
				t.Fatalf("behind %v the two differ: %d items and %d, %d bits and %d", ops, s.Len(), k.Len(), c.Left(), d.Left())
			}
		}
	}
}

// TestOperationsAreAsTheyWere: also behind their length; and what stands there is not done.
func TestOperationsAreAsTheyWere(t *testing.T) {
	for n := range 30 {
		memory := sown(30, 5, 2, 9, uint32(n))
		was := slices.Clone(memory)
		likeAll(t, 5, evens(2), bitsOf(30, 4, 1), memory[:n])
		if !slices.Equal(memory, was) {
			t.Fatalf("the operations are %v, not %v", memory, was)
		}
	}
}

// TestNothingHandedInIsKept: what came out, and what stays in the list, is the same when the operations are written over.
func TestNothingHandedInIsKept(t *testing.T) {
	for _, w := range ways() {
		ops := byWords("m 5 3 x0 9 3 m 7 1")
		told, stay, left := model(6, there(2, 4), "110101110", ops)
		want := orderOf(ops)
		s, c := listOf(t, 6, there(2, 4)), coinOf(t, "110101110")
		order, l := Order(ops), w.do(s, c, ops)
		clear(ops)
		if !slices.Equal(order, want) || !slices.Equal(l, told) {
			t.Errorf("behind a change of the operations it is told %v, %v", order, l)
		}
		holds(t, s, 6, stay)
		has(t, c, left)
	}
}

// TestWhatIsToldIsNewMemory: two answers of the same know nothing of one another, nor of the list.
func TestWhatIsToldIsNewMemory(t *testing.T) {
	for _, w := range ways() {
		ops := byWords("m 5 3 x0 9 3 m 7 1")
		told, stay, left := model(6, there(2, 4), "110101110", ops)
		s, c := listOf(t, 6, there(2, 4)), coinOf(t, "110101110")
		order, l := Order(ops), w.do(s, c, ops)
		order2, l2 := Order(ops), w.do(listOf(t, 6, there(2, 4)), coinOf(t, ""), ops)
		clear(order2[:cap(order2)])
		clear(l2[:cap(l2)])
		if !slices.Equal(order, orderOf(ops)) || !slices.Equal(l, told) {
			t.Errorf("two answers share memory: %v, %v", order, l)
		}
		clear(order)
		clear(l)
		holds(t, s, 6, stay)
		has(t, c, left)
	}
}

// TestNothingBehindTheLength: of what is told nothing lies behind it.
func TestNothingBehindTheLength(t *testing.T) {
	for n := range 40 {
		ops := sown(40, 4, 3, 9, uint32(n))[:n]
		order := Order(ops)
		for _, place := range order[n:cap(order)] {
			if place != 0 {
				t.Errorf("behind the order of %d stands %d", n, place)
			}
		}
		for _, w := range ways() {
			l := w.do(listOf(t, 5, evens(2)), coin.New(), ops)
			for _, r := range l[n:cap(l)] {
				if r != (api.Res{}) {
					t.Errorf("behind what %d are told stands %v", n, r)
				}
			}
		}
	}
}

// TestTwoKnowNothingOfOneAnother: neither lists nor coins, nor their copies.
func TestTwoKnowNothingOfOneAnother(t *testing.T) {
	for _, w := range ways() {
		s, c := listOf(t, 5, there(1, 2)), coinOf(t, "1101")
		s2, c2, k, d := listOf(t, 5, there(1, 2)), coinOf(t, "1101"), s.Copy(), c.Copy()
		w.do(s, c, byWords("m 7"))
		holds(t, s, 5, []item{{2, 2}, {7, 3}})
		has(t, c, "1")
		for _, other := range []*skip.Skip{s2, k} {
			holds(t, other, 5, there(1, 2))
		}
		has(t, c2, "1101")
		has(t, d, "1101")
		w.do(k, d, byWords("m m m 9 8"))
		holds(t, s, 5, []item{{2, 2}, {7, 3}})
		holds(t, k, 5, []item{{9, 2}})
		has(t, c, "1")
	}
}

// TestNothingIsKept: the same question is told the same, whatever was asked in between.
func TestNothingIsKept(t *testing.T) {
	for range 3 {
		does(t, 2, nil, "1101", byWords("m 5 3"), toldBy("3 + +"), []item{{5, 2}}, "")
		for _, w := range ways() {
			w.do(skip.New(1000), coinOf(t, bitsOf(900, 7, 1)), sown(500, 7, 0, 1000, 1))
		}
		orders(t, byWords("m 5 3"), []int{2, 1, 0})
		does(t, 0, nil, "1101", byWords("m 5 3"), toldBy("E F F"), nil, "1101")
	}
}

// pair is something to sort that is no place.
type pair struct {
	name string
	key  string
}

// TestSortBy: whatever the list is of, and whatever it is sorted by, those that are told the same stay in order.
func TestSortBy(t *testing.T) {
	l := []pair{{"a", "z"}, {"b", "y"}, {"c", "z"}, {"d", "x"}, {"e", "y"}, {"f", "z"}}
	sortBy(l, func(p pair) string { return p.key })
	if !slices.Equal(l, []pair{{"d", "x"}, {"b", "y"}, {"e", "y"}, {"a", "z"}, {"c", "z"}, {"f", "z"}}) {
		t.Errorf("by the key: %v", l)
	}
	ints := []int{3, -1, 2, -2, 1}
	sortBy(ints, func(n int) int { return n * n })
	if !slices.Equal(ints, []int{-1, 1, 2, -2, 3}) {
		t.Errorf("by the square: %v", ints)
	}
	sortBy(ints[:0], func(int) int { panic("asked of none") })
}

// FuzzSorted holds all three calls to the chapter's words, whatever the arguments are.
func FuzzSorted(f *testing.F) {
	f.Add(2, 0, []byte{}, []byte{2, 0, 1, 5, 1, 3})
	f.Add(-1, 5, []byte{255}, []byte{1, 5, 2, 5})
	f.Add(1001, 1001, []byte{255, 255, 3, 7}, []byte{1, 128, 3, 255, 1, 7, 1, 7, 2, 1, 0, 0, 5, 3, 255, 255})
	f.Fuzz(func(t *testing.T, most, have int, bytes, b []byte) {
		var ops []api.Op
		for ; len(b) >= 2; b = b[2:] {
			ops = append(ops, api.Op{Kind: b[0], Val: int32(int8(b[1])) << (b[1] % 25)})
		}
		var bits strings.Builder
		for _, eight := range bytes[:min(len(bytes), 200)] {
			for nth := range 8 {
				bits.WriteByte('0' + eight>>nth&1)
			}
		}
		is := min(max(most, 0), 1000)
		likeAll(t, most, evens(min(max(have, 0), is)), bits.String(), ops)
		small := int(uint(most) % 6)
		likeAll(t, small, evens(int(uint(have)%uint(small+1))), bits.String(), ops)
	})
}
