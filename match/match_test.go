package match

import (
	"math"
	"slices"
	"testing"

	"reaper/api"
	"reaper/stack"
)

// Short names of the codes, as a batch's answers are many.
const (
	done  = uint8(1)
	got   = uint8(2)
	full  = uint8(3)
	empty = uint8(4)
	bad   = uint8(5)
)

// push is a Push of a value.
func push(v int32) api.Op {
	return api.Op{Kind: 1, Val: v}
}

// pop is a Pop, with a value that says nothing.
func pop() api.Op {
	return api.Op{Kind: 2, Val: -99}
}

// byLetters are operations: + is a Push, - is a Pop, any other one is of no kind that a stack has. The values are 1, 2, 3 and so on.
func byLetters(letters string) []api.Op {
	ops := make([]api.Op, len(letters))
	for i, c := range []byte(letters) {
		kind := uint8(0)
		switch c {
		case '+':
			kind = 1
		case '-':
			kind = 2
		case 'x':
			kind = 3
		case 'y':
			kind = 255
		}
		ops[i] = api.Op{Kind: kind, Val: int32(i + 1)}
	}
	return ops
}

// filled is a stack of most, onto which values were pushed, the first one first.
func filled(t *testing.T, most int, values ...int32) *stack.Stack {
	t.Helper()
	s := stack.New(most)
	for _, v := range values {
		if !s.Push(v) {
			t.Fatalf("Push(%d) onto a stack of %d that holds %v is false", v, most, s.Items())
		}
	}
	return s
}

// there are n items, 1001, 1002 and so on.
func there(n int) []int32 {
	l := make([]int32, n)
	for i := range l {
		l[i] = int32(1001 + i)
	}
	return l
}

// put is an item of the model: its value, and the place of the push that put it, or -1.
type put struct {
	v    int32
	from int
}

// model does operations as the chapters say, at a stack of most with these items: which push each pop gets, what each is told, and the items behind all.
func model(most int, items []int32, ops []api.Op) ([]int, []api.Res, []int32) {
	var l []put
	for _, v := range items {
		l = append(l, put{v, -1})
	}
	with, told := make([]int, len(ops)), make([]api.Res, len(ops))
	for i, o := range ops {
		with[i] = -1
		switch {
		case o.Kind == 1 && len(l) == most:
			told[i].Code = full
		case o.Kind == 1:
			l = append(l, put{o.Val, i})
			told[i].Code = done
		case o.Kind == 2 && len(l) == 0:
			told[i].Code = empty
		case o.Kind == 2:
			top := l[len(l)-1]
			l = l[:len(l)-1]
			with[i], told[i] = top.from, api.Res{Code: got, Val: top.v}
		default:
			told[i].Code = bad
		}
	}
	var stay []int32
	for _, p := range l {
		stay = append(stay, p.v)
	}
	return with, told, stay
}

// codesOf are the codes of what operations are told.
func codesOf(told []api.Res) []uint8 {
	l := make([]uint8, len(told))
	for i, r := range told {
		l[i] = r.Code
	}
	return l
}

// pairs checks one Pairs, and the Spared of the same.
func pairs(t *testing.T, have, most int, ops []api.Op, with []int, codes []uint8) {
	t.Helper()
	w, c := Pairs(have, most, ops)
	if !slices.Equal(w, with) || !slices.Equal(c, codes) {
		t.Errorf("Pairs(%d, %d, %v) is %v, %v, not %v, %v", have, most, ops, w, c, with, codes)
	}
	many := 0
	for _, i := range with {
		if i >= 0 {
			many++
		}
	}
	if n := Spared(have, most, ops); n != many {
		t.Errorf("Spared(%d, %d, %v) is %d, not %d", have, most, ops, n, many)
	}
}

// holds checks the items of a stack, how many it may have, and that there is room for just the others.
func holds(t *testing.T, s *stack.Stack, most int, items []int32) {
	t.Helper()
	if l := s.Items(); !slices.Equal(l, items) || s.Len() != len(items) || s.Most() != most {
		t.Fatalf("the stack holds %v, %d of %d, not %v, %d of %d", l, s.Len(), s.Most(), items, len(items), most)
	}
	k := s.Copy()
	for range most - len(items) {
		if !k.Push(0) {
			t.Fatalf("a stack that holds %d of %d has less room", len(items), most)
		}
	}
	if k.Push(0) {
		t.Fatalf("a stack that holds %d of %d has more room", len(items), most)
	}
}

// applies checks one Apply at a stack, and the stack behind it.
func applies(t *testing.T, s *stack.Stack, ops []api.Op, told []api.Res, items []int32) {
	t.Helper()
	most, was := s.Most(), s.Items()
	if l := Apply(s, ops); !slices.Equal(l, told) {
		t.Fatalf("Apply at %v of %d of %v is %v, not %v", was, most, ops, l, told)
	}
	holds(t, s, most, items)
}

// likeEach checks all three calls at a stack of most with some items against the chapter's words, and against stack.Do.
func likeEach(t *testing.T, most int, items []int32, ops []api.Op) {
	t.Helper()
	with, told, stay := model(min(max(most, 0), 1000), items, ops)
	pairs(t, len(items), most, ops, with, codesOf(told))
	applies(t, filled(t, most, items...), ops, told, stay)
	s, k := filled(t, most, items...), filled(t, most, items...)
	each := make([]api.Res, len(ops))
	for i, o := range ops {
		each[i] = k.Do(o)
	}
	applies(t, s, ops, each, k.Items())
}

// sown are operations that come of a short rule: of each eight as many of Push as said, as many of Pop, and others.
func sown(n, pushes, pops int, seed uint32) []api.Op {
	ops := make([]api.Op, n)
	state := seed*2654435761 + 12345
	for i := range ops {
		state = state*1664525 + 1013904223
		kind := uint8(state >> 16)
		switch which := int(state >> 29); {
		case which < pushes:
			kind = 1
		case which < pushes+pops:
			kind = 2
		}
		ops[i] = api.Op{Kind: kind, Val: int32(state)}
	}
	return ops
}

// TestExample is the chapter's example, also the document's seventh one of the whole.
func TestExample(t *testing.T) {
	pairs(t, 0, 1, []api.Op{push(0), pop(), pop()}, []int{-1, 0, -1}, []uint8{done, got, empty})
}

// TestPairsOfNone: no operations, whatever the stack is.
func TestPairsOfNone(t *testing.T) {
	for _, n := range []int{math.MinInt, -1, 0, 1, 5, 1000, 1001, math.MaxInt} {
		for _, most := range []int{math.MinInt, -1, 0, 1, 5, 1000, 1001, math.MaxInt} {
			pairs(t, n, most, nil, nil, nil)
			pairs(t, n, most, []api.Op{}, nil, nil)
		}
	}
}

// TestPairsOfOne has one of each kind, at a stack that is empty, or has some, or is full.
func TestPairsOfOne(t *testing.T) {
	for _, c := range []struct {
		have, most int
		put, taken uint8
	}{
		{0, 0, full, empty},
		{0, 1, done, empty},
		{1, 1, full, got},
		{0, 5, done, empty},
		{1, 5, done, got},
		{4, 5, done, got},
		{5, 5, full, got},
		{999, 1000, done, got},
		{1000, 1000, full, got},
	} {
		pairs(t, c.have, c.most, []api.Op{push(7)}, []int{-1}, []uint8{c.put})
		pairs(t, c.have, c.most, []api.Op{pop()}, []int{-1}, []uint8{c.taken})
		for _, kind := range []uint8{0, 3, 4, 5, 128, 255} {
			pairs(t, c.have, c.most, []api.Op{{Kind: kind, Val: 7}}, []int{-1}, []uint8{bad})
		}
	}
}

// TestPairsOfSome: a pop gets what was put last of what no pop has got, also where they are nested, and where others stand in between.
func TestPairsOfSome(t *testing.T) {
	for _, c := range []struct {
		letters string
		with    []int
		codes   []uint8
	}{
		{"+-", []int{-1, 0}, []uint8{done, got}},
		{"-+", []int{-1, -1}, []uint8{empty, done}},
		{"-+-", []int{-1, -1, 1}, []uint8{empty, done, got}},
		{"++-", []int{-1, -1, 1}, []uint8{done, done, got}},
		{"++--", []int{-1, -1, 1, 0}, []uint8{done, done, got, got}},
		{"++---", []int{-1, -1, 1, 0, -1}, []uint8{done, done, got, got, empty}},
		{"+-+-", []int{-1, 0, -1, 2}, []uint8{done, got, done, got}},
		{"++-+--", []int{-1, -1, 1, -1, 3, 0}, []uint8{done, done, got, done, got, got}},
		{"+++--+-++---", []int{-1, -1, -1, 2, 1, -1, 5, -1, -1, 8, 7, 0},
			[]uint8{done, done, done, got, got, done, got, done, done, got, got, got}},
		{"+x-", []int{-1, -1, 0}, []uint8{done, bad, got}},
		{"x+0+y-x-0-", []int{-1, -1, -1, -1, -1, 3, -1, 1, -1, -1},
			[]uint8{bad, done, bad, done, bad, got, bad, got, bad, empty}},
		{"--+--+", []int{-1, -1, -1, 2, -1, -1}, []uint8{empty, empty, done, got, empty, done}},
	} {
		pairs(t, 0, 9, byLetters(c.letters), c.with, c.codes)
	}
}

// TestPopOfAnItemThatWasThere: it meets nobody, however deep down it is, and gets one only when nobody waits any more.
func TestPopOfAnItemThatWasThere(t *testing.T) {
	pairs(t, 1, 9, byLetters("-"), []int{-1}, []uint8{got})
	pairs(t, 1, 9, byLetters("--"), []int{-1, -1}, []uint8{got, empty})
	pairs(t, 2, 9, byLetters("---+-"), []int{-1, -1, -1, -1, 3}, []uint8{got, got, empty, done, got})
	pairs(t, 2, 9, byLetters("+----"), []int{-1, 0, -1, -1, -1}, []uint8{done, got, got, got, empty})
	pairs(t, 2, 9, byLetters("-++----"), []int{-1, -1, -1, 2, 1, -1, -1},
		[]uint8{got, done, done, got, got, got, empty})
	pairs(t, 3, 3, byLetters("-+-+-"), []int{-1, -1, 1, -1, 3}, []uint8{got, done, got, done, got})
}

// TestPushThatFindsNoRoom: no pop gets it, and behind a pop there is room for one again.
func TestPushThatFindsNoRoom(t *testing.T) {
	pairs(t, 0, 1, byLetters("++--"), []int{-1, -1, 0, -1}, []uint8{done, full, got, empty})
	pairs(t, 0, 2, byLetters("+++---"), []int{-1, -1, -1, 1, 0, -1}, []uint8{done, done, full, got, got, empty})
	pairs(t, 1, 1, byLetters("+-+-"), []int{-1, -1, -1, 2}, []uint8{full, got, done, got})
	pairs(t, 2, 2, byLetters("+-++-"), []int{-1, -1, -1, -1, 2}, []uint8{full, got, done, full, got})
	pairs(t, 1, 2, byLetters("++--++"), []int{-1, -1, 0, -1, -1, -1}, []uint8{done, full, got, got, done, done})
	pairs(t, 0, 0, byLetters("+-+-"), []int{-1, -1, -1, -1}, []uint8{full, empty, full, empty})
	pairs(t, 0, 1, byLetters("+-+-++-"), []int{-1, 0, -1, 2, -1, -1, 4}, []uint8{done, got, done, got, done, full, got})
}

// TestBadLeavesAllAsItWas: whatever other kind stands in between, who meets, and what is told, is the same.
func TestBadLeavesAllAsItWas(t *testing.T) {
	for n := range 256 {
		kind := uint8(n)
		if kind == 1 || kind == 2 {
			continue
		}
		for _, v := range []int32{0, 1, -1, math.MinInt32, math.MaxInt32} {
			b := api.Op{Kind: kind, Val: v}
			pairs(t, 1, 2, []api.Op{b, push(5), b, push(6), b, pop(), b, pop(), b, pop(), b},
				[]int{-1, -1, -1, -1, -1, 1, -1, -1, -1, -1, -1},
				[]uint8{bad, done, bad, full, bad, got, bad, got, bad, empty, bad})
			applies(t, filled(t, 2, 4), []api.Op{b, push(5), b},
				[]api.Res{{Code: bad}, {Code: done}, {Code: bad}}, []int32{4, 5})
			applies(t, filled(t, 2, 4), []api.Op{b, b}, []api.Res{{Code: bad}, {Code: bad}}, []int32{4})
			applies(t, stack.New(2), []api.Op{b}, []api.Res{{Code: bad}}, nil)
			applies(t, nil, []api.Op{b}, []api.Res{{Code: bad}}, nil)
		}
	}
}

// TestTheEdgesOfMost: it is from 0 to 1000, whichever is nearest.
func TestTheEdgesOfMost(t *testing.T) {
	for _, c := range []struct{ most, is int }{
		{math.MinInt, 0}, {-1001, 0}, {-1000, 0}, {-1, 0}, {0, 0}, {1, 1}, {2, 2}, {998, 998},
		{999, 999}, {1000, 1000}, {1001, 1000}, {2000, 1000}, {1 << 32, 1000}, {math.MaxInt, 1000},
	} {
		var ops []api.Op
		var with []int
		var codes []uint8
		for i := range c.is + 2 {
			ops, with = append(ops, push(int32(i))), append(with, -1)
			codes = append(codes, map[bool]uint8{true: done, false: full}[i < c.is])
		}
		for i := range c.is + 2 {
			ops, with = append(ops, pop()), append(with, max(c.is-1-i, -1))
			codes = append(codes, map[bool]uint8{true: got, false: empty}[i < c.is])
		}
		pairs(t, 0, c.most, ops, with, codes)
		likeEach(t, c.most, nil, ops)
	}
}

// TestTheEdgesOfHave: it is from 0 to as many as may be, whichever is nearest.
func TestTheEdgesOfHave(t *testing.T) {
	for _, c := range []struct{ have, most, is, of int }{
		{math.MinInt, 3, 0, 3}, {-1, 3, 0, 3}, {0, 3, 0, 3}, {1, 3, 1, 3}, {2, 3, 2, 3}, {3, 3, 3, 3},
		{4, 3, 3, 3}, {1000, 3, 3, 3}, {math.MaxInt, 3, 3, 3},
		{1, 0, 0, 0}, {5, -1, 0, 0}, {-5, -1, 0, 0}, {5, -5, 0, 0}, {math.MaxInt, math.MinInt, 0, 0},
		{999, 1000, 999, 1000}, {1000, 1000, 1000, 1000}, {1001, 1000, 1000, 1000},
		{1000, 1001, 1000, 1000}, {1001, 1001, 1000, 1000}, {1001, 5000, 1000, 1000}, {1500, 2000, 1000, 1000},
		{999, 2000, 999, 1000}, {math.MaxInt, math.MaxInt, 1000, 1000}, {math.MinInt, math.MaxInt, 0, 1000},
	} {
		ups, downs := c.of-c.is+1, c.of+1
		var ops []api.Op
		for range ups {
			ops = append(ops, push(1))
		}
		for range downs {
			ops = append(ops, pop())
		}
		with, told, _ := model(c.of, there(c.is), ops)
		pairs(t, c.have, c.most, ops, with, codesOf(told))
		if last := codesOf(told)[ups-1]; last != full {
			t.Fatalf("the test's last push is told %d", last)
		}
	}
}

// TestSpared: how many pops meet a push.
func TestSpared(t *testing.T) {
	for _, c := range []struct {
		have, most int
		letters    string
		many       int
	}{
		{0, 9, "", 0}, {0, 9, "+", 0}, {0, 9, "-", 0}, {5, 9, "-", 0}, {0, 9, "x0y", 0},
		{0, 9, "+++", 0}, {5, 9, "----", 0}, {0, 9, "----", 0}, {5, 9, "---++", 0}, {0, 9, "-+", 0},
		{0, 0, "+-+-", 0}, {0, -3, "+-", 0}, {2, 2, "+-", 0},
		{0, 9, "+-", 1}, {5, 9, "+-", 1}, {0, 1, "++--", 1}, {2, 2, "+-+-", 1}, {0, 9, "-+-", 1}, {5, 9, "-+--", 1},
		{0, 9, "++--", 2}, {0, 9, "+-+-", 2}, {5, 9, "+-+---", 2}, {0, 2, "+++---", 2}, {0, 9, "+x+-0-y", 2},
		{0, 9, "+++---", 3}, {9, 9, "+-+-+-+-", 3}, {0, 1, "+-+-+-", 3}, {0, 1001, "++-+-++---", 5},
	} {
		if n := Spared(c.have, c.most, byLetters(c.letters)); n != c.many {
			t.Errorf("Spared(%d, %d, %s) is %d, not %d", c.have, c.most, c.letters, n, c.many)
		}
	}
}

// TestSparedOfAll: all pops meet, or none does, also of many.
func TestSparedOfAll(t *testing.T) {
	for _, n := range []int{1, 2, 10, 999, 1000, 1001, 3000} {
		var turns, pushes, pops, behind []api.Op
		for range n {
			turns = append(turns, push(1), pop())
			pushes, pops = append(pushes, push(1)), append(pops, pop())
		}
		behind = append(append(behind, pushes...), pops...)
		for _, c := range []struct {
			ops  []api.Op
			many int
		}{{turns, n}, {behind, min(n, 1000)}, {pushes, 0}, {pops, 0}, {append(append([]api.Op{}, pops...), pushes...), 0}} {
			if many := Spared(0, 1000, c.ops); many != c.many {
				t.Errorf("Spared of %d operations is %d, not %d", len(c.ops), many, c.many)
			}
			if many := Spared(0, 0, c.ops); many != 0 {
				t.Errorf("Spared of %d operations at a stack of 0 is %d", len(c.ops), many)
			}
		}
	}
}

// TestApply: what is told, the values too, and what stays.
func TestApply(t *testing.T) {
	applies(t, stack.New(1), []api.Op{push(5), push(6), pop()},
		[]api.Res{{Code: done}, {Code: full}, {Code: got, Val: 5}}, nil)
	applies(t, filled(t, 4, 1, 2), []api.Op{pop(), push(7), push(8), pop(), push(9), push(6), push(5)},
		[]api.Res{{Code: got, Val: 2}, {Code: done}, {Code: done}, {Code: got, Val: 8}, {Code: done}, {Code: done}, {Code: full}},
		[]int32{1, 7, 9, 6})
	applies(t, filled(t, 4, 1, 2), []api.Op{pop(), pop(), pop(), push(7), pop(), push(3)},
		[]api.Res{{Code: got, Val: 2}, {Code: got, Val: 1}, {Code: empty}, {Code: done}, {Code: got, Val: 7}, {Code: done}},
		[]int32{3})
	applies(t, filled(t, 2, 1, 2), []api.Op{push(7), pop(), {Kind: 9, Val: 9}, push(8), push(9)},
		[]api.Res{{Code: full}, {Code: got, Val: 2}, {Code: bad}, {Code: done}, {Code: full}},
		[]int32{1, 8})
	applies(t, filled(t, 3, 1, 2), nil, nil, []int32{1, 2})
	applies(t, filled(t, 3, 1, 2), []api.Op{}, []api.Res{}, []int32{1, 2})
}

// TestApplyAtEachStack has stacks without items, with some, with one less than as many as may be, and with as many.
func TestApplyAtEachStack(t *testing.T) {
	for _, most := range []int{-1, 0, 1, 2, 3, 8, 999, 1000, 1001} {
		n := min(max(most, 0), 1000)
		for _, have := range []int{0, 1, n / 2, n - 1, n} {
			if have < 0 || have > n {
				continue
			}
			for seed := range uint32(8) {
				likeEach(t, most, there(have), sown(40, 3, 4, seed))
				likeEach(t, most, there(have), sown(40, 4, 3, seed))
				likeEach(t, most, there(have), sown(12, 8, 0, seed))
				likeEach(t, most, there(have), sown(12, 0, 8, seed))
			}
		}
	}
}

// TestApplyIsDoOfEach goes through all there are of up to seven operations of three kinds, at all small stacks.
func TestApplyIsDoOfEach(t *testing.T) {
	for n, all := 0, 1; n <= 7; n, all = n+1, all*3 {
		for which := range all {
			letters := make([]byte, n)
			for i := range letters {
				letters[i] = "+-x"[which%3]
				which /= 3
			}
			for most := range 4 {
				for have := range most + 1 {
					likeEach(t, most, there(have), byLetters(string(letters)))
				}
			}
		}
	}
}

// TestApplyAgain: one batch behind the other at one stack, with what stack.Do does in between.
func TestApplyAgain(t *testing.T) {
	for _, most := range []int{1, 5, 30, 1000} {
		s, k := stack.New(most), stack.New(most)
		for seed := range uint32(60) {
			ops := sown(int(seed), 4, 3, seed)
			each := make([]api.Res, len(ops))
			for i, o := range ops {
				each[i] = k.Do(o)
			}
			applies(t, s, ops, each, k.Items())
			if o := push(int32(seed)); s.Do(o) != k.Do(o) {
				t.Fatalf("behind batch %d at a stack of %d the two differ", seed, most)
			}
			if seed%4 == 3 && s.Do(pop()) != k.Do(pop()) {
				t.Fatalf("behind batch %d at a stack of %d the two differ", seed, most)
			}
		}
	}
}

// TestApplyAtNil is as at stack.New of 0.
func TestApplyAtNil(t *testing.T) {
	for _, s := range []*stack.Stack{nil, stack.New(0), stack.New(-7)} {
		applies(t, s, nil, nil, nil)
		applies(t, s, []api.Op{push(5), pop(), {Kind: 3, Val: 3}, {Kind: 0, Val: 3}, pop(), push(0)},
			[]api.Res{{Code: full}, {Code: empty}, {Code: bad}, {Code: bad}, {Code: empty}, {Code: full}}, nil)
	}
	for seed := range uint32(20) {
		ops := sown(200, 3, 3, seed)
		if a, b := Apply(nil, ops), Apply(stack.New(0), ops); !slices.Equal(a, b) {
			t.Errorf("Apply at nil is %v, at New of 0 %v", a, b)
		}
	}
}

// TestAnyValue: the smallest and the largest are handed on as others are, and so is 0; the value of a Pop says nothing.
func TestAnyValue(t *testing.T) {
	for _, v := range []int32{math.MinInt32, math.MinInt32 + 1, -65537, -256, -1, 0, 1, 255, 65536, math.MaxInt32 - 1, math.MaxInt32} {
		applies(t, filled(t, 2, ^v), []api.Op{push(v), {Kind: 2, Val: ^v}, {Kind: 2, Val: v}, {Kind: 2, Val: v}, push(v), push(^v), push(v)},
			[]api.Res{{Code: done}, {Code: got, Val: v}, {Code: got, Val: ^v}, {Code: empty}, {Code: done}, {Code: done}, {Code: full}},
			[]int32{v, ^v})
		pairs(t, 0, 2, []api.Op{push(v), {Kind: 2, Val: ^v}, {Kind: 2, Val: v}}, []int{-1, 0, -1}, []uint8{done, got, empty})
	}
}

// TestManyOperations: hundreds and thousands, now more pushes, now more pops, so that stacks are come to from below and from above.
func TestManyOperations(t *testing.T) {
	for seed, most := range []int{-1, 0, 1, 2, 7, 50, 400, 999, 1000, 1001} {
		n := min(max(most, 0), 1000)
		for _, have := range []int{0, n / 2, n} {
			var ops []api.Op
			for turn := range uint32(6) {
				ops = append(ops, sown(700, 5, 2, turn+uint32(seed))...)
				ops = append(ops, sown(900, 2, 5, turn+uint32(seed))...)
			}
			likeEach(t, most, there(have), ops)
		}
	}
}

// TestNestedDeep: a thousand pushes, and as many pops, the last one first.
func TestNestedDeep(t *testing.T) {
	for _, n := range []int{300, 999, 1000, 1001, 1500} {
		ops := make([]api.Op, 2*n)
		for i := range n {
			ops[i], ops[n+i] = push(int32(i)), pop()
		}
		with, codes := Pairs(0, 1000, ops)
		told := Apply(stack.New(1000), ops)
		in := min(n, 1000)
		for i := range in {
			if last := in - 1 - i; with[n+i] != last || codes[n+i] != got || told[n+i] != (api.Res{Code: got, Val: int32(last)}) {
				t.Fatalf("of %d, pop %d meets %d, code %d, is told %v", n, i, with[n+i], codes[n+i], told[n+i])
			}
		}
		for i := in; i < n; i++ {
			if codes[i] != full || codes[n+i] != empty || with[n+i] != -1 || told[n+i] != (api.Res{Code: empty}) {
				t.Fatalf("of %d, push %d is told %d, pop %d meets %d, is told %v", n, i, codes[i], i, with[n+i], told[n+i])
			}
		}
		likeEach(t, 1000, nil, ops)
	}
}

// TestOperationsAreAsTheyWere: also behind their length; and what stands there is not done.
func TestOperationsAreAsTheyWere(t *testing.T) {
	for n := range 30 {
		memory := sown(30, 4, 4, uint32(n))
		was := slices.Clone(memory)
		likeEach(t, 5, there(2), memory[:n])
		if !slices.Equal(memory, was) {
			t.Fatalf("the operations are %v, not %v", memory, was)
		}
	}
}

// TestNothingHandedInIsKept: what came out, and what stays in the stack, is the same when the operations are written over.
func TestNothingHandedInIsKept(t *testing.T) {
	ops := byLetters("++-+x+-++")
	with, told, stay := model(4, there(1), ops)
	s := filled(t, 4, there(1)...)
	w, c := Pairs(1, 4, ops)
	l := Apply(s, ops)
	clear(ops)
	if !slices.Equal(w, with) || !slices.Equal(c, codesOf(told)) || !slices.Equal(l, told) {
		t.Errorf("behind a change of the operations it is told %v, %v, %v", w, c, l)
	}
	holds(t, s, 4, stay)
}

// TestWhatIsToldIsNewMemory: two answers of the same know nothing of one another, nor of the stack.
func TestWhatIsToldIsNewMemory(t *testing.T) {
	ops := byLetters("-++-+x+-++")
	with, told, stay := model(4, there(1), ops)
	s := filled(t, 4, there(1)...)
	w, c := Pairs(1, 4, ops)
	l := Apply(s, ops)
	w2, c2 := Pairs(1, 4, ops)
	l2 := Apply(filled(t, 4, there(1)...), ops)
	clear(w2[:cap(w2)])
	clear(c2[:cap(c2)])
	clear(l2[:cap(l2)])
	if !slices.Equal(w, with) || !slices.Equal(c, codesOf(told)) || !slices.Equal(l, told) {
		t.Errorf("two answers share memory: %v, %v, %v", w, c, l)
	}
	clear(l)
	holds(t, s, 4, stay)
}

// TestNothingBehindTheLength: of what is told nothing lies behind it.
func TestNothingBehindTheLength(t *testing.T) {
	for n := range 20 {
		ops := sown(20, 4, 3, uint32(n))[:n]
		w, c := Pairs(2, 5, ops)
		l := Apply(filled(t, 5, there(2)...), ops)
		for _, v := range w[n:cap(w)] {
			if v != 0 {
				t.Errorf("behind the pairs of %d stands %d", n, v)
			}
		}
		for _, v := range c[n:cap(c)] {
			if v != 0 {
				t.Errorf("behind the codes of %d stands %d", n, v)
			}
		}
		for _, r := range l[n:cap(l)] {
			if r != (api.Res{}) {
				t.Errorf("behind what %d are told stands %v", n, r)
			}
		}
	}
}

// TestTwoStacksKnowNothingOfOneAnother, nor does a copy.
func TestTwoStacksKnowNothingOfOneAnother(t *testing.T) {
	a := filled(t, 5, 1, 2)
	b, k := filled(t, 5, 1, 2), a.Copy()
	Apply(a, []api.Op{pop(), push(7), push(8)})
	holds(t, a, 5, []int32{1, 7, 8})
	holds(t, b, 5, []int32{1, 2})
	holds(t, k, 5, []int32{1, 2})
	Apply(k, []api.Op{pop(), pop(), push(9)})
	holds(t, a, 5, []int32{1, 7, 8})
	holds(t, k, 5, []int32{9})
}

// TestWhoMeetsNeedNotCome: at the stack arrive only the pops that meet nobody and get an item, and the pushes that nobody met, each once: pops ahead of all pushes, pushes as they stand.
func TestWhoMeetsNeedNotCome(t *testing.T) {
	for seed := range uint32(200) {
		ops := sown(int(seed), 4, 3, seed)
		have, most := int(seed%5), 12
		with, told, _ := model(most, there(have), ops)
		var took, stayed, wantTook, wantStayed []int
		var met, wantMet [][2]int
		isMet := map[int]bool{}
		for i, w := range with {
			if w >= 0 {
				wantMet = append(wantMet, [2]int{i, w})
				isMet[w] = true
			} else if told[i].Code == got {
				wantTook = append(wantTook, i)
			}
		}
		for i, r := range told {
			if r.Code == done && !isMet[i] {
				wantStayed = append(wantStayed, i)
			}
		}
		codes := make([]uint8, len(ops))
		through(have, most, ops, tells{
			code: func(place int) *uint8 { return &codes[place] },
			meet: func(pop, push int) { met = append(met, [2]int{pop, push}) },
			take: func(pop int) {
				took = append(took, pop)
				if len(stayed) > 0 {
					t.Error("a pop comes behind a push that stays")
				}
			},
			stay: func(push int) { stayed = append(stayed, push) },
		})
		if !slices.Equal(took, wantTook) || !slices.Equal(stayed, wantStayed) || !slices.Equal(met, wantMet) {
			t.Fatalf("of %v: %v come, %v stay, %v meet, not %v, %v, %v", ops, took, stayed, met, wantTook, wantStayed, wantMet)
		}
		if n := Spared(have, most, ops); n != len(met) {
			t.Fatalf("of %v: %d are spared, %d meet", ops, n, len(met))
		}
	}
}

// TestPairsKeepNothing: the same question is told the same, whatever was asked in between.
func TestPairsKeepNothing(t *testing.T) {
	for range 3 {
		pairs(t, 1, 2, byLetters("++--"), []int{-1, -1, 0, -1}, []uint8{done, full, got, got})
		Pairs(0, 1000, sown(500, 7, 0, 1))
		Apply(stack.New(9), sown(500, 7, 0, 1))
		pairs(t, 0, 0, byLetters("-+"), []int{-1, -1}, []uint8{empty, full})
	}
}

// FuzzMatch holds all three calls to the chapter's words, whatever the arguments are.
func FuzzMatch(f *testing.F) {
	f.Add(0, 1, []byte{1, 0, 2, 0, 2, 0})
	f.Add(-1, -1, []byte{1, 5, 2, 5})
	f.Add(1001, 1001, []byte{1, 128, 2, 255, 1, 7, 1, 8, 2, 1, 0, 0, 3, 3, 255, 255})
	f.Fuzz(func(t *testing.T, have, most int, b []byte) {
		var ops []api.Op
		for ; len(b) >= 2; b = b[2:] {
			ops = append(ops, api.Op{Kind: b[0], Val: int32(int8(b[1])) << (b[1] % 25)})
		}
		is := min(max(most, 0), 1000)
		had := there(min(max(have, 0), is))
		with, told, _ := model(is, had, ops)
		pairs(t, have, most, ops, with, codesOf(told))
		likeEach(t, most, had, ops)
		small := int(uint(most) % 6)
		likeEach(t, small, there(min(len(had), small)), ops)
	})
}
