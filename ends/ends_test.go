package ends

import (
	"math"
	"slices"
	"testing"

	"reaper/api"
	"reaper/ring"
)

// Short names of the codes, as a batch's answers are many.
const (
	done  = uint8(1)
	got   = uint8(2)
	full  = uint8(3)
	empty = uint8(4)
	bad   = uint8(5)
)

// byLetters are operations: L and R are a PushL and a PushR, l and r a PopL and a PopR; any other one is of no kind that a deque has. The values are 1, 2, 3 and so on.
func byLetters(letters string) []api.Op {
	ops := make([]api.Op, len(letters))
	for i, c := range []byte(letters) {
		kind := uint8(0)
		switch c {
		case 'L':
			kind = 1
		case 'R':
			kind = 2
		case 'l':
			kind = 3
		case 'r':
			kind = 4
		case 'x':
			kind = 5
		case 'y':
			kind = 255
		}
		ops[i] = api.Op{Kind: kind, Val: int32(i + 1)}
	}
	return ops
}

// byCodes are codes: + is Done, ! is Got, F is Full, E is Empty, any other one is Bad.
func byCodes(letters string) []uint8 {
	l := make([]uint8, len(letters))
	for i, c := range []byte(letters) {
		switch c {
		case '+':
			l[i] = done
		case '!':
			l[i] = got
		case 'F':
			l[i] = full
		case 'E':
			l[i] = empty
		default:
			l[i] = bad
		}
	}
	return l
}

// mirrored are the same operations, each at the other end.
func mirrored(ops []api.Op) []api.Op {
	l := slices.Clone(ops)
	for i, o := range l {
		switch o.Kind {
		case 1:
			l[i].Kind = 2
		case 2:
			l[i].Kind = 1
		case 3:
			l[i].Kind = 4
		case 4:
			l[i].Kind = 3
		}
	}
	return l
}

// turned are values the other way round.
func turned(l []int32) []int32 {
	k := slices.Clone(l)
	slices.Reverse(k)
	return k
}

// filled is a deque of most that holds values, from left to right.
func filled(t *testing.T, most int, values ...int32) *ring.Ring {
	t.Helper()
	return shifted(t, 0, most, values...)
}

// shifted is a deque of most that holds values, from left to right; its items have gone round as many cells.
func shifted(t *testing.T, by, most int, values ...int32) *ring.Ring {
	t.Helper()
	r := ring.New(most)
	for range by {
		r.PushR(-99)
		r.PopL()
	}
	for _, v := range values {
		if !r.PushR(v) {
			t.Fatalf("PushR(%d) to a deque of %d that holds %v is false", v, most, r.Items())
		}
	}
	return r
}

// there are n items, 1001, 1002 and so on.
func there(n int) []int32 {
	l := make([]int32, n)
	for i := range l {
		l[i] = int32(1001 + i)
	}
	return l
}

// put is an item of the model: its value, and the place of the push that put it, or -1.
type put struct {
	v    int32
	from int
}

// model does operations as the chapters say, at a deque of most with these items: which push each pop gets, what each is told, and the items behind all.
func model(most int, items []int32, ops []api.Op) ([]int, []api.Res, []int32) {
	var l []put
	for _, v := range items {
		l = append(l, put{v, -1})
	}
	with, told := make([]int, len(ops)), make([]api.Res, len(ops))
	for i, o := range ops {
		with[i] = -1
		switch {
		case o.Kind < 1 || o.Kind > 4:
			told[i].Code = bad
		case o.Kind <= 2 && len(l) == most:
			told[i].Code = full
		case o.Kind == 1:
			l = slices.Insert(l, 0, put{o.Val, i})
			told[i].Code = done
		case o.Kind == 2:
			l = append(l, put{o.Val, i})
			told[i].Code = done
		case len(l) == 0:
			told[i].Code = empty
		default:
			at := map[uint8]int{3: 0, 4: len(l) - 1}[o.Kind]
			with[i], told[i] = l[at].from, api.Res{Code: got, Val: l[at].v}
			l = slices.Delete(l, at, at+1)
		}
	}
	var stay []int32
	for _, p := range l {
		stay = append(stay, p.v)
	}
	return with, told, stay
}

// codesOf are the codes of what operations are told.
func codesOf(told []api.Res) []uint8 {
	l := make([]uint8, len(told))
	for i, r := range told {
		l[i] = r.Code
	}
	return l
}

// pairs checks one Pairs, and the Spared of the same; and both of the same at the other ends, as all that differs is which end is which.
func pairs(t *testing.T, have, most int, ops []api.Op, with []int, codes []uint8) {
	t.Helper()
	many := 0
	for _, i := range with {
		if i >= 0 {
			many++
		}
	}
	for _, l := range [][]api.Op{ops, mirrored(ops)} {
		w, c := Pairs(have, most, l)
		if !slices.Equal(w, with) || !slices.Equal(c, codes) {
			t.Errorf("Pairs(%d, %d, %v) is %v, %v, not %v, %v", have, most, l, w, c, with, codes)
		}
		if n := Spared(have, most, l); n != many {
			t.Errorf("Spared(%d, %d, %v) is %d, not %d", have, most, l, n, many)
		}
	}
}

// holds checks the items of a deque, how many it may have, and that there is room for just the others, at either end.
func holds(t *testing.T, r *ring.Ring, most int, items []int32) {
	t.Helper()
	if l := r.Items(); !slices.Equal(l, items) || r.Len() != len(items) || r.Most() != most {
		t.Fatalf("the deque holds %v, %d of %d, not %v, %d of %d", l, r.Len(), r.Most(), items, len(items), most)
	}
	k := r.Copy()
	for range most - len(items) {
		if !k.PushL(0) {
			t.Fatalf("a deque that holds %d of %d has less room", len(items), most)
		}
	}
	if k.PushL(0) || k.PushR(0) {
		t.Fatalf("a deque that holds %d of %d has more room", len(items), most)
	}
}

// applies checks one Apply at a deque, and the deque behind it.
func applies(t *testing.T, r *ring.Ring, ops []api.Op, told []api.Res, items []int32) {
	t.Helper()
	most, was := r.Most(), r.Items()
	if l := Apply(r, ops); !slices.Equal(l, told) {
		t.Fatalf("Apply at %v of %d of %v is %v, not %v", was, most, ops, l, told)
	}
	holds(t, r, most, items)
}

// likeEach checks all three calls at a deque of most with some items, which have gone round, against the chapter's words, and against ring.Do.
func likeEach(t *testing.T, by, most int, items []int32, ops []api.Op) {
	t.Helper()
	with, told, stay := model(min(max(most, 0), 1000), items, ops)
	pairs(t, len(items), most, ops, with, codesOf(told))
	applies(t, shifted(t, by, most, items...), ops, told, stay)
	applies(t, shifted(t, by, most, turned(items)...), mirrored(ops), told, turned(stay))
	r, k := shifted(t, by, most, items...), shifted(t, by, most, items...)
	each := make([]api.Res, len(ops))
	for i, o := range ops {
		each[i] = k.Do(o)
	}
	applies(t, r, ops, each, k.Items())
}

// sown are operations that come of a short rule: of each eight as many pushes as said, as many pops, and others; of the ends the left one as often, of each eight, as said.
func sown(n, pushes, pops, lefts int, seed uint32) []api.Op {
	ops := make([]api.Op, n)
	state := seed*2654435761 + 12345
	for i := range ops {
		state = state*1664525 + 1013904223
		kind := uint8(state >> 16)
		side := uint8(2)
		if int(state>>26&7) < lefts {
			side = 1
		}
		switch which := int(state >> 29); {
		case which < pushes:
			kind = side
		case which < pushes+pops:
			kind = side + 2
		}
		ops[i] = api.Op{Kind: kind, Val: int32(state)}
	}
	return ops
}

// TestExample is the chapter's example.
func TestExample(t *testing.T) {
	ops := []api.Op{{Kind: api.PushL}, {Kind: api.PushR}, {Kind: api.PopL}, {Kind: api.PopL}}
	pairs(t, 0, 2, ops, []int{-1, -1, 0, 1}, []uint8{done, done, got, got})
}

// TestPairsOfNone: no operations, whatever the deque is.
func TestPairsOfNone(t *testing.T) {
	for _, n := range []int{math.MinInt, -1, 0, 1, 5, 1000, 1001, math.MaxInt} {
		for _, most := range []int{math.MinInt, -1, 0, 1, 5, 1000, 1001, math.MaxInt} {
			pairs(t, n, most, nil, nil, nil)
			pairs(t, n, most, []api.Op{}, nil, nil)
		}
	}
}

// TestPairsOfOne has one of each kind, at a deque that is empty, or has some, or is full.
func TestPairsOfOne(t *testing.T) {
	for _, c := range []struct {
		have, most int
		put, taken uint8
	}{
		{0, 0, full, empty},
		{0, 1, done, empty},
		{1, 1, full, got},
		{0, 5, done, empty},
		{1, 5, done, got},
		{4, 5, done, got},
		{5, 5, full, got},
		{999, 1000, done, got},
		{1000, 1000, full, got},
	} {
		for n := range 256 {
			code := bad
			switch n {
			case 1, 2:
				code = c.put
			case 3, 4:
				code = c.taken
			}
			pairs(t, c.have, c.most, []api.Op{{Kind: uint8(n), Val: 7}}, []int{-1}, []uint8{code})
		}
	}
}

// some is an input with what is told.
type some struct {
	have, most int
	letters    string
	with       []int
	codes      string
}

// check holds each to what is told, and Apply to the same codes.
func check(t *testing.T, l []some) {
	t.Helper()
	for _, c := range l {
		ops := byLetters(c.letters)
		pairs(t, c.have, c.most, ops, c.with, byCodes(c.codes))
		with, told, _ := model(c.most, there(c.have), ops)
		if !slices.Equal(with, c.with) || !slices.Equal(codesOf(told), byCodes(c.codes)) {
			t.Errorf("the test's two sides differ at %s: %v, %v", c.letters, with, told)
		}
		for by := range 4 {
			likeEach(t, by, c.most, there(c.have), ops)
		}
	}
}

// TestAtTheSameEnd: the last one comes first, also where they are nested.
func TestAtTheSameEnd(t *testing.T) {
	check(t, []some{
		{0, 9, "Ll", []int{-1, 0}, "+!"},
		{0, 9, "lL", []int{-1, -1}, "E+"},
		{0, 9, "lLl", []int{-1, -1, 1}, "E+!"},
		{0, 9, "LLl", []int{-1, -1, 1}, "++!"},
		{0, 9, "LLll", []int{-1, -1, 1, 0}, "++!!"},
		{0, 9, "LLlll", []int{-1, -1, 1, 0, -1}, "++!!E"},
		{0, 9, "LlLl", []int{-1, 0, -1, 2}, "+!+!"},
		{0, 9, "LLlLll", []int{-1, -1, 1, -1, 3, 0}, "++!+!!"},
		{0, 9, "LLLllLlLLlll", []int{-1, -1, -1, 2, 1, -1, 5, -1, -1, 8, 7, 0}, "+++!!+!++!!!"},
		{0, 9, "llLllL", []int{-1, -1, -1, 2, -1, -1}, "EE+!E+"},
		{3, 9, "LLLlll", []int{-1, -1, -1, 2, 1, 0}, "+++!!!"},
	})
}

// TestAtTheOtherEnd: the first one comes first.
func TestAtTheOtherEnd(t *testing.T) {
	check(t, []some{
		{0, 9, "Lr", []int{-1, 0}, "+!"},
		{0, 9, "rLr", []int{-1, -1, 1}, "E+!"},
		{0, 9, "LLr", []int{-1, -1, 0}, "++!"},
		{0, 9, "LLrr", []int{-1, -1, 0, 1}, "++!!"},
		{0, 9, "LLLrrr", []int{-1, -1, -1, 0, 1, 2}, "+++!!!"},
		{0, 9, "LLLrrrr", []int{-1, -1, -1, 0, 1, 2, -1}, "+++!!!E"},
		{0, 9, "LrLrLr", []int{-1, 0, -1, 2, -1, 4}, "+!+!+!"},
		{0, 9, "LLrLrLrr", []int{-1, -1, 0, -1, 1, -1, 3, 5}, "++!+!+!!"},
		{0, 2, "LLrLrLrLrr", []int{-1, -1, 0, -1, 1, -1, 3, -1, 5, 7}, "++!+!+!+!!"},
	})
}

// TestBothEndsMixed: pushes and pops at both ends, where one end takes what the other one has put, and puts again.
func TestBothEndsMixed(t *testing.T) {
	check(t, []some{
		{0, 9, "LRll", []int{-1, -1, 0, 1}, "++!!"},
		{0, 9, "LRrr", []int{-1, -1, 1, 0}, "++!!"},
		{0, 9, "LRlr", []int{-1, -1, 0, 1}, "++!!"},
		{0, 9, "LRrl", []int{-1, -1, 1, 0}, "++!!"},
		{0, 9, "RLll", []int{-1, -1, 1, 0}, "++!!"},
		{0, 9, "LLlr", []int{-1, -1, 1, 0}, "++!!"},
		{0, 9, "LLLlrl", []int{-1, -1, -1, 2, 0, 1}, "+++!!!"},
		{0, 9, "LRLRllll", []int{-1, -1, -1, -1, 2, 0, 1, 3}, "++++!!!!"},
		{0, 9, "LRLRrrrr", []int{-1, -1, -1, -1, 3, 1, 0, 2}, "++++!!!!"},
		{0, 9, "LRLRlrrl", []int{-1, -1, -1, -1, 2, 3, 1, 0}, "++++!!!!"},
		{0, 9, "LLrRrlL", []int{-1, -1, 0, -1, 3, 1, -1}, "++!+!!+"},
		{0, 9, "LLrRllr", []int{-1, -1, 0, -1, 1, 3, -1}, "++!+!!E"},
		{0, 9, "RlLrRlLr", []int{-1, 0, -1, 2, -1, 4, -1, 6}, "+!+!+!+!"},
		{0, 9, "RRRlLllrr", []int{-1, -1, -1, 0, -1, 4, 1, 2, -1}, "+++!+!!!E"},
		{0, 9, "RRRllLRlrr", []int{-1, -1, -1, 0, 1, -1, -1, 5, 6, 2}, "+++!!++!!!"},
		{0, 9, "LLLrrrRRlLrrl", []int{-1, -1, -1, 0, 1, 2, -1, -1, 6, -1, 7, 9, -1}, "+++!!!++!+!!E"},
	})
}

// TestItemsThatWereThere: who gets one meets nobody; items of ops stand on both sides of them, and an end comes to the other one's only behind them.
func TestItemsThatWereThere(t *testing.T) {
	check(t, []some{
		{1, 9, "l", []int{-1}, "!"},
		{1, 9, "lr", []int{-1, -1}, "!E"},
		{2, 9, "lr", []int{-1, -1}, "!!"},
		{2, 9, "llrLr", []int{-1, -1, -1, -1, 3}, "!!E+!"},
		{1, 9, "Lr", []int{-1, -1}, "+!"},
		{1, 9, "Lrr", []int{-1, -1, 0}, "+!!"},
		{1, 9, "Lll", []int{-1, 0, -1}, "+!!"},
		{2, 9, "Lllll", []int{-1, 0, -1, -1, -1}, "+!!!E"},
		{2, 9, "Lrrrr", []int{-1, -1, -1, 0, -1}, "+!!!E"},
		{2, 9, "LRllll", []int{-1, -1, 0, -1, -1, 1}, "++!!!!"},
		{2, 9, "LRrrrr", []int{-1, -1, 1, -1, -1, 0}, "++!!!!"},
		{2, 9, "LLRRlrlrlr", []int{-1, -1, -1, -1, 1, 3, 0, 2, -1, -1}, "++++!!!!!!"},
		{2, 9, "LLRRllllll", []int{-1, -1, -1, -1, 1, 0, -1, -1, 2, 3}, "++++!!!!!!"},
		{2, 9, "LLRRrrrlrrr", []int{-1, -1, -1, -1, 3, 2, -1, 1, -1, 0, -1}, "++++!!!!!!E"},
		{1, 9, "lLRrr", []int{-1, -1, -1, 2, 1}, "!++!!"},
		{3, 9, "rLlLlrlrr", []int{-1, -1, 1, -1, 3, -1, -1, -1, -1}, "!+!+!!!EE"},
		{3, 9, "RlllLll", []int{-1, -1, -1, -1, -1, 4, 0}, "+!!!+!!"},
		{3, 3, "lLlRrR", []int{-1, -1, 1, -1, 3, -1}, "!+!+!+"},
	})
}

// TestPushThatFindsNoRoom: at either end, and no pop gets it; behind a pop, at whichever end, there is room for one again.
func TestPushThatFindsNoRoom(t *testing.T) {
	check(t, []some{
		{0, 1, "LLll", []int{-1, -1, 0, -1}, "+F!E"},
		{0, 1, "LRrr", []int{-1, -1, 0, -1}, "+F!E"},
		{0, 1, "LRlr", []int{-1, -1, 0, -1}, "+F!E"},
		{0, 2, "LRLRlll", []int{-1, -1, -1, -1, 0, 1, -1}, "++FF!!E"},
		{0, 2, "LLRrrr", []int{-1, -1, -1, 0, 1, -1}, "++F!!E"},
		{1, 1, "LlRl", []int{-1, -1, -1, 2}, "F!+!"},
		{1, 1, "LrLr", []int{-1, -1, -1, 2}, "F!+!"},
		{2, 2, "RlLRrr", []int{-1, -1, -1, -1, -1, 2}, "F!+F!!"},
		{2, 2, "LlRRl", []int{-1, -1, -1, -1, -1}, "F!+F!"},
		{1, 2, "LRlrRL", []int{-1, -1, 0, -1, -1, -1}, "+F!!++"},
		{0, 0, "LlRr", []int{-1, -1, -1, -1}, "FEFE"},
		{0, 1, "LrRlLRr", []int{-1, 0, -1, 2, -1, -1, 4}, "+!+!+F!"},
		{3, 3, "LRlrLRLr", []int{-1, -1, -1, -1, -1, -1, -1, 5}, "FF!!++F!"},
	})
}

// TestBadAmongOthers: of a kind that a deque has not, between those that meet.
func TestBadAmongOthers(t *testing.T) {
	check(t, []some{
		{0, 9, "0xy", []int{-1, -1, -1}, "???"},
		{0, 9, "Lxl", []int{-1, -1, 0}, "+?!"},
		{0, 9, "xL0R0yrxl", []int{-1, -1, -1, -1, -1, -1, 3, -1, 1}, "?+?+??!?!"},
		{1, 2, "xL0RylxrxR", []int{-1, -1, -1, -1, -1, 1, -1, -1, -1, -1}, "?+?F?!?!?+"},
	})
}

// TestBadLeavesAllAsItWas: whatever other kind stands in between, who meets, and what is told, is the same.
func TestBadLeavesAllAsItWas(t *testing.T) {
	for n := range 256 {
		kind := uint8(n)
		if 1 <= kind && kind <= 4 {
			continue
		}
		for _, v := range []int32{0, 1, -1, math.MinInt32, math.MaxInt32} {
			b := api.Op{Kind: kind, Val: v}
			in, over, out := api.Op{Kind: 1, Val: 5}, api.Op{Kind: 2, Val: 6}, api.Op{Kind: 4, Val: 7}
			pairs(t, 1, 2, []api.Op{b, in, b, over, b, out, b, out, b, out, b},
				[]int{-1, -1, -1, -1, -1, -1, -1, 1, -1, -1, -1}, byCodes("?+?F?!?!?E?"))
			applies(t, filled(t, 2, 4), []api.Op{b, in, b},
				[]api.Res{{Code: bad}, {Code: done}, {Code: bad}}, []int32{5, 4})
			applies(t, filled(t, 2, 4), []api.Op{b, b}, []api.Res{{Code: bad}, {Code: bad}}, []int32{4})
			applies(t, ring.New(2), []api.Op{b}, []api.Res{{Code: bad}}, nil)
			applies(t, nil, []api.Op{b}, []api.Res{{Code: bad}}, nil)
		}
	}
}

// filling are as many pushes as said, then as many pops, at ends that come by turns as the letters say.
func filling(pushes, pops int, in, out string) []api.Op {
	letters := make([]byte, 0, pushes+pops)
	for i := range pushes {
		letters = append(letters, in[i%len(in)])
	}
	for i := range pops {
		letters = append(letters, out[i%len(out)])
	}
	return byLetters(string(letters))
}

// TestTheEdgesOfMost: it is from 0 to 1000, whichever is nearest.
func TestTheEdgesOfMost(t *testing.T) {
	for _, c := range []struct{ most, is int }{
		{math.MinInt, 0}, {-1001, 0}, {-1000, 0}, {-1, 0}, {0, 0}, {1, 1}, {2, 2}, {998, 998},
		{999, 999}, {1000, 1000}, {1001, 1000}, {2000, 1000}, {1 << 32, 1000}, {math.MaxInt, 1000},
	} {
		for _, in := range []string{"L", "R", "LR", "LLR"} {
			for _, out := range []string{"l", "r", "lr", "lrr"} {
				ops := filling(c.is+2, c.is+2, in, out)
				with, told, _ := model(c.is, nil, ops)
				if told[c.is].Code != full || told[c.is+1].Code != full || c.is > 0 && told[c.is-1].Code != done {
					t.Fatalf("the test's pushes at %d are told %v", c.is, told[:c.is+2])
				}
				pairs(t, 0, c.most, ops, with, codesOf(told))
			}
		}
		likeEach(t, 3, c.most, nil, filling(c.is+2, c.is+2, "LRR", "lrl"))
	}
}

// TestTheEdgesOfHave: it is from 0 to as many as may be, whichever is nearest.
func TestTheEdgesOfHave(t *testing.T) {
	for _, c := range []struct{ have, most, is, of int }{
		{math.MinInt, 3, 0, 3}, {-1, 3, 0, 3}, {0, 3, 0, 3}, {1, 3, 1, 3}, {2, 3, 2, 3}, {3, 3, 3, 3},
		{4, 3, 3, 3}, {1000, 3, 3, 3}, {math.MaxInt, 3, 3, 3},
		{1, 0, 0, 0}, {5, -1, 0, 0}, {-5, -1, 0, 0}, {5, -5, 0, 0}, {math.MaxInt, math.MinInt, 0, 0},
		{999, 1000, 999, 1000}, {1000, 1000, 1000, 1000}, {1001, 1000, 1000, 1000},
		{1000, 1001, 1000, 1000}, {1001, 1001, 1000, 1000}, {1001, 5000, 1000, 1000}, {1500, 2000, 1000, 1000},
		{999, 2000, 999, 1000}, {math.MaxInt, math.MaxInt, 1000, 1000}, {math.MinInt, math.MaxInt, 0, 1000},
	} {
		for _, in := range []string{"L", "R", "LR"} {
			for _, out := range []string{"l", "r", "lr"} {
				ups, downs := c.of-c.is+1, c.of+1
				ops := filling(ups, downs, in, out)
				with, told, _ := model(c.of, there(c.is), ops)
				pairs(t, c.have, c.most, ops, with, codesOf(told))
				if up, down := told[ups-1].Code, told[ups+downs-1].Code; up != full || down != empty {
					t.Fatalf("the test's last push is told %d, its last pop %d", up, down)
				}
			}
		}
	}
}

// TestSpared: how many pops meet a push.
func TestSpared(t *testing.T) {
	for _, c := range []struct {
		have, most int
		letters    string
		many       int
	}{
		{0, 9, "", 0}, {0, 9, "L", 0}, {0, 9, "r", 0}, {5, 9, "l", 0}, {0, 9, "x0y", 0},
		{0, 9, "LRL", 0}, {5, 9, "lrlr", 0}, {0, 9, "lrlr", 0}, {5, 9, "rrrLR", 0}, {0, 9, "rL", 0},
		{0, 0, "LlRr", 0}, {0, -3, "Rr", 0}, {2, 2, "Ll", 0}, {1, 9, "Lr", 0}, {3, 9, "RlRlRl", 0},
		{0, 9, "Ll", 1}, {0, 9, "Lr", 1}, {5, 9, "Rr", 1}, {0, 1, "LRrl", 1}, {2, 2, "LlRr", 1}, {0, 9, "rRl", 1},
		{5, 9, "lRrr", 1}, {1, 9, "Lrr", 1}, {1, 9, "Lrl", 1},
		{0, 9, "LRll", 2}, {0, 9, "RlLr", 2}, {5, 9, "LlLlrr", 2}, {0, 2, "RLRlrl", 2}, {0, 9, "LxrR0ly", 2},
		{1, 9, "LRlll", 2}, {0, 9, "LRRlrl", 3}, {9, 9, "LrLlLlLl", 3}, {0, 1, "LrRlLr", 3}, {0, 1001, "LRrLlRLrrl", 5},
	} {
		for _, ops := range [][]api.Op{byLetters(c.letters), mirrored(byLetters(c.letters))} {
			if n := Spared(c.have, c.most, ops); n != c.many {
				t.Errorf("Spared(%d, %d, %v) is %d, not %d", c.have, c.most, ops, n, c.many)
			}
		}
	}
}

// TestSparedOfAll: all pops meet, or none does, also of many.
func TestSparedOfAll(t *testing.T) {
	for _, n := range []int{1, 2, 10, 999, 1000, 1001, 3000} {
		for _, ends := range []string{"Ll", "Lr", "Rl", "Rr"} {
			var turns []api.Op
			for range n {
				turns = append(turns, byLetters(ends)...)
			}
			pushes, pops := filling(n, 0, ends[:1], "l"), filling(0, n, "L", ends[1:])
			for _, c := range []struct {
				ops  []api.Op
				many int
			}{{turns, n}, {slices.Concat(pushes, pops), min(n, 1000)}, {pushes, 0}, {pops, 0}, {slices.Concat(pops, pushes), 0}} {
				if many := Spared(0, 1000, c.ops); many != c.many {
					t.Errorf("Spared of %d of %s is %d, not %d", len(c.ops), ends, many, c.many)
				}
				if many := Spared(0, 0, c.ops); many != 0 {
					t.Errorf("Spared of %d of %s at a deque of 0 is %d", len(c.ops), ends, many)
				}
			}
		}
	}
}

// TestApply: what is told, the values too, and what stays.
func TestApply(t *testing.T) {
	pushL, pushR := func(v int32) api.Op { return api.Op{Kind: 1, Val: v} }, func(v int32) api.Op { return api.Op{Kind: 2, Val: v} }
	popL, popR := api.Op{Kind: 3, Val: -99}, api.Op{Kind: 4, Val: -98}
	gets := func(v int32) api.Res { return api.Res{Code: got, Val: v} }
	applies(t, ring.New(1), []api.Op{pushL(5), pushR(6), popR},
		[]api.Res{{Code: done}, {Code: full}, gets(5)}, nil)
	applies(t, filled(t, 4, 1, 2), []api.Op{popR, pushR(7), pushL(8), popL, pushL(9), pushR(6), pushR(5)},
		[]api.Res{gets(2), {Code: done}, {Code: done}, gets(8), {Code: done}, {Code: done}, {Code: full}},
		[]int32{9, 1, 7, 6})
	applies(t, filled(t, 4, 1, 2), []api.Op{pushL(7), pushR(8), popL, popL, popL, popL, popL, pushR(3)},
		[]api.Res{{Code: done}, {Code: done}, gets(7), gets(1), gets(2), gets(8), {Code: empty}, {Code: done}},
		[]int32{3})
	applies(t, filled(t, 4, 1), []api.Op{pushL(7), pushL(8), popR, popR, pushR(9)},
		[]api.Res{{Code: done}, {Code: done}, gets(1), gets(7), {Code: done}},
		[]int32{8, 9})
	applies(t, filled(t, 2, 1, 2), []api.Op{pushL(7), popR, {Kind: 9, Val: 9}, pushL(8), pushR(9)},
		[]api.Res{{Code: full}, gets(2), {Code: bad}, {Code: done}, {Code: full}},
		[]int32{8, 1})
	applies(t, filled(t, 9, 4, 5), []api.Op{pushL(3), pushL(2), pushR(6), pushL(1), pushR(7)},
		[]api.Res{{Code: done}, {Code: done}, {Code: done}, {Code: done}, {Code: done}},
		[]int32{1, 2, 3, 4, 5, 6, 7})
	applies(t, filled(t, 3, 1, 2), nil, nil, []int32{1, 2})
	applies(t, filled(t, 3, 1, 2), []api.Op{}, []api.Res{}, []int32{1, 2})
}

// TestFullThoughWhoMeetsDoesNotCome: a push that finds no room while others wait is told so, though these leave the deque alone.
func TestFullThoughWhoMeetsDoesNotCome(t *testing.T) {
	for _, letters := range []string{"LRr", "LRl", "LLr", "LLl"} {
		applies(t, ring.New(1), byLetters(letters), []api.Res{{Code: done}, {Code: full}, {Code: got, Val: 1}}, nil)
	}
	for _, letters := range []string{"LRl", "LLl"} {
		applies(t, filled(t, 2, 9), byLetters(letters), []api.Res{{Code: done}, {Code: full}, {Code: got, Val: 1}}, []int32{9})
	}
	for _, letters := range []string{"LRrr", "LLrr"} {
		applies(t, filled(t, 2, 9), byLetters(letters), []api.Res{{Code: done}, {Code: full}, {Code: got, Val: 9}, {Code: got, Val: 1}}, nil)
	}
}

// TestApplyAtEachDeque has deques without items, with some, with one less than as many as may be, and with as many; their items have gone round.
func TestApplyAtEachDeque(t *testing.T) {
	for _, most := range []int{-1, 0, 1, 2, 3, 8, 999, 1000, 1001} {
		n := min(max(most, 0), 1000)
		for _, have := range []int{0, 1, n / 2, n - 1, n} {
			if have < 0 || have > n {
				continue
			}
			for seed := range uint32(8) {
				by := int(seed) * 137
				likeEach(t, by, most, there(have), sown(40, 3, 4, 4, seed))
				likeEach(t, by, most, there(have), sown(40, 4, 3, 4, seed))
				likeEach(t, by, most, there(have), sown(40, 4, 4, 7, seed))
				likeEach(t, by, most, there(have), sown(12, 8, 0, 4, seed))
				likeEach(t, by, most, there(have), sown(12, 0, 8, 4, seed))
			}
		}
	}
}

// TestWhereItemsGoRound has the items of a small deque begin at each of its cells.
func TestWhereItemsGoRound(t *testing.T) {
	for most := 1; most <= 6; most++ {
		for by := range most {
			for have := range most + 1 {
				for seed := range uint32(6) {
					likeEach(t, by, most, there(have), sown(20, 4, 4, 4, seed))
				}
			}
		}
	}
}

// TestApplyIsDoOfEach goes through all there are of up to six operations of five kinds, at all small deques.
func TestApplyIsDoOfEach(t *testing.T) {
	longest := 6
	if testing.Short() {
		longest = 4
	}
	for n, all := 0, 1; n <= longest; n, all = n+1, all*5 {
		for which := range all {
			letters := make([]byte, n)
			for i, rest := 0, which; i < n; i, rest = i+1, rest/5 {
				letters[i] = "LRlrx"[rest%5]
			}
			for most := range 4 {
				for have := range most + 1 {
					likeEach(t, which%3, most, there(have), byLetters(string(letters)))
				}
			}
		}
	}
}

// TestApplyAgain: one batch behind the other at one deque, with what ring.Do does in between.
func TestApplyAgain(t *testing.T) {
	for _, most := range []int{1, 5, 30, 1000} {
		r, k := ring.New(most), ring.New(most)
		for seed := range uint32(60) {
			ops := sown(int(seed), 4, 3, int(seed%7)+1, seed)
			each := make([]api.Res, len(ops))
			for i, o := range ops {
				each[i] = k.Do(o)
			}
			applies(t, r, ops, each, k.Items())
			for kind := uint8(1); kind <= 4; kind++ {
				if o := (api.Op{Kind: kind, Val: int32(seed)}); seed%4 < 2 && r.Do(o) != k.Do(o) {
					t.Fatalf("behind batch %d at a deque of %d the two differ", seed, most)
				}
			}
		}
	}
}

// TestApplyAtNil is as at ring.New of 0.
func TestApplyAtNil(t *testing.T) {
	for _, r := range []*ring.Ring{nil, ring.New(0), ring.New(-7)} {
		applies(t, r, nil, nil, nil)
		applies(t, r, byLetters("Llxr0RL"), []api.Res{{Code: full}, {Code: empty}, {Code: bad}, {Code: empty}, {Code: bad}, {Code: full}, {Code: full}}, nil)
	}
	for seed := range uint32(20) {
		ops := sown(200, 3, 3, 4, seed)
		if a, b := Apply(nil, ops), Apply(ring.New(0), ops); !slices.Equal(a, b) {
			t.Errorf("Apply at nil is %v, at New of 0 %v", a, b)
		}
	}
}

// TestAnyValue: the smallest and the largest are handed on as others are, and so is 0; the value of a pop says nothing.
func TestAnyValue(t *testing.T) {
	for _, v := range []int32{math.MinInt32, math.MinInt32 + 1, -65537, -256, -1, 0, 1, 255, 65536, math.MaxInt32 - 1, math.MaxInt32} {
		applies(t, filled(t, 2, ^v), []api.Op{{Kind: 1, Val: v}, {Kind: 3, Val: ^v}, {Kind: 4, Val: v}, {Kind: 4, Val: v}, {Kind: 2, Val: v}, {Kind: 1, Val: ^v}, {Kind: 2, Val: v}},
			[]api.Res{{Code: done}, {Code: got, Val: v}, {Code: got, Val: ^v}, {Code: empty}, {Code: done}, {Code: done}, {Code: full}},
			[]int32{^v, v})
		pairs(t, 0, 2, []api.Op{{Kind: 1, Val: v}, {Kind: 4, Val: ^v}, {Kind: 3, Val: v}}, []int{-1, 0, -1}, []uint8{done, got, empty})
	}
}

// TestManyOperations: hundreds and thousands, now more pushes, now more pops, now more at the left, so that deques are gone through from end to end.
func TestManyOperations(t *testing.T) {
	for seed, most := range []int{-1, 0, 1, 2, 7, 50, 400, 999, 1000, 1001} {
		n := min(max(most, 0), 1000)
		for _, have := range []int{0, n / 2, n} {
			var ops []api.Op
			for turn := range uint32(4) {
				ops = append(ops, sown(700, 5, 2, int(turn*2)+1, turn+uint32(seed))...)
				ops = append(ops, sown(900, 2, 5, 7-int(turn*2), turn+uint32(seed))...)
			}
			likeEach(t, 333, most, there(have), ops)
		}
	}
}

// TestFromEndToEnd: thousands that go in at one end and out at the other, with as many as said in between, so that both ends come far from where they began.
func TestFromEndToEnd(t *testing.T) {
	for _, most := range []int{1, 2, 10, 1000} {
		for _, in := range []string{"L", "R"} {
			out := map[string]string{"L": "r", "R": "l"}[in]
			ops := byLetters(in)
			for range 2500 {
				ops = append(ops, byLetters(in+out)...)
			}
			for i := range ops {
				ops[i].Val = int32(i)
			}
			likeEach(t, 7, most, nil, ops)
			likeEach(t, 7, most, there(most/2), ops)
			likeEach(t, 7, most, there(most), ops)
		}
	}
}

// TestNestedDeep: a thousand pushes, and as many pops: at the same end the last one first, at the other one the first one.
func TestNestedDeep(t *testing.T) {
	for _, n := range []int{300, 999, 1000, 1001, 1500} {
		in := min(n, 1000)
		for _, out := range []string{"l", "r"} {
			ops := filling(n, n, "L", out)
			with, codes := Pairs(0, 1000, ops)
			told := Apply(ring.New(1000), ops)
			for i := range n {
				push, res := i, api.Res{Code: got, Val: int32(i + 1)}
				if out == "l" {
					push, res.Val = in-1-i, int32(in-i)
				}
				if i >= in {
					push, res = -1, api.Res{Code: empty}
				}
				if with[n+i] != push || codes[n+i] != res.Code || told[n+i] != res {
					t.Fatalf("of %d, pop %d meets %d, code %d, is told %v", n, i, with[n+i], codes[n+i], told[n+i])
				}
				if want := map[bool]uint8{true: done, false: full}[i < in]; codes[i] != want || told[i] != (api.Res{Code: want}) {
					t.Fatalf("of %d, push %d is told %d, %v", n, i, codes[i], told[i])
				}
			}
			likeEach(t, 1, 1000, nil, ops)
		}
	}
}

// TestOperationsAreAsTheyWere: also behind their length; and what stands there is not done.
func TestOperationsAreAsTheyWere(t *testing.T) {
	for n := range 30 {
		memory := sown(30, 4, 4, 4, uint32(n))
		was := slices.Clone(memory)
		likeEach(t, 2, 5, there(2), memory[:n])
		if !slices.Equal(memory, was) {
			t.Fatalf("the operations are %v, not %v", memory, was)
		}
	}
}

// TestNothingHandedInIsKept: what came out, and what stays in the deque, is the same when the operations are written over.
func TestNothingHandedInIsKept(t *testing.T) {
	ops := byLetters("LRrLxlrRL")
	with, told, stay := model(4, there(1), ops)
	r := filled(t, 4, there(1)...)
	w, c := Pairs(1, 4, ops)
	l := Apply(r, ops)
	clear(ops)
	if !slices.Equal(w, with) || !slices.Equal(c, codesOf(told)) || !slices.Equal(l, told) {
		t.Errorf("behind a change of the operations it is told %v, %v, %v", w, c, l)
	}
	holds(t, r, 4, stay)
}

// TestWhatIsToldIsNewMemory: two answers of the same know nothing of one another, nor of the deque.
func TestWhatIsToldIsNewMemory(t *testing.T) {
	ops := byLetters("lLRrLxlrRL")
	with, told, stay := model(4, there(1), ops)
	r := filled(t, 4, there(1)...)
	w, c := Pairs(1, 4, ops)
	l := Apply(r, ops)
	w2, c2 := Pairs(1, 4, ops)
	l2 := Apply(filled(t, 4, there(1)...), ops)
	clear(w2[:cap(w2)])
	clear(c2[:cap(c2)])
	clear(l2[:cap(l2)])
	if !slices.Equal(w, with) || !slices.Equal(c, codesOf(told)) || !slices.Equal(l, told) {
		t.Errorf("two answers share memory: %v, %v, %v", w, c, l)
	}
	clear(l)
	holds(t, r, 4, stay)
}

// TestNothingBehindTheLength: of what is told nothing lies behind it.
func TestNothingBehindTheLength(t *testing.T) {
	for n := range 40 {
		ops := sown(40, 4, 3, 4, uint32(n))[:n]
		w, c := Pairs(2, 5, ops)
		l := Apply(filled(t, 5, there(2)...), ops)
		for _, v := range w[n:cap(w)] {
			if v != 0 {
				t.Errorf("behind the pairs of %d stands %d", n, v)
			}
		}
		for _, v := range c[n:cap(c)] {
			if v != 0 {
				t.Errorf("behind the codes of %d stands %d", n, v)
			}
		}
		for _, r := range l[n:cap(l)] {
			if r != (api.Res{}) {
				t.Errorf("behind what %d are told stands %v", n, r)
			}
		}
	}
}

// TestTwoDequesKnowNothingOfOneAnother, nor does a copy.
func TestTwoDequesKnowNothingOfOneAnother(t *testing.T) {
	a := filled(t, 5, 1, 2)
	b, k := filled(t, 5, 1, 2), a.Copy()
	Apply(a, []api.Op{{Kind: 3}, {Kind: 1, Val: 7}, {Kind: 2, Val: 8}})
	holds(t, a, 5, []int32{7, 2, 8})
	holds(t, b, 5, []int32{1, 2})
	holds(t, k, 5, []int32{1, 2})
	Apply(k, []api.Op{{Kind: 4}, {Kind: 4}, {Kind: 1, Val: 9}})
	holds(t, a, 5, []int32{7, 2, 8})
	holds(t, k, 5, []int32{9})
}

// TestWhoMeetsNeedNotCome: at the deque arrive, each once and in their order, only those that neither meet nor are told Full.
func TestWhoMeetsNeedNotCome(t *testing.T) {
	for seed := range uint32(300) {
		ops := sown(int(seed), 4, 3, int(seed%7)+1, seed)
		for i := range ops {
			ops[i].Val = int32(i)
		}
		have, most := int(seed%5), 12
		with, told, stay := model(most, there(have), ops)
		isMet := map[int]bool{}
		for _, w := range with {
			isMet[w] = true
		}
		var came, want []api.Op
		for i, o := range ops {
			if with[i] < 0 && !isMet[i] && told[i].Code != full {
				want = append(want, o)
			}
		}
		r := filled(t, most, there(have)...)
		l := come(ops, with, codesOf(told), func(o api.Op) api.Res {
			came = append(came, o)
			return r.Do(o)
		})
		if !slices.Equal(came, want) {
			t.Fatalf("of %v come %v, not %v", ops, came, want)
		}
		if !slices.Equal(l, told) {
			t.Fatalf("%v are told %v, not %v", ops, l, told)
		}
		holds(t, r, most, stay)
		if n, spared := len(ops)-len(came), Spared(have, most, ops); n < 2*spared {
			t.Fatalf("of %v: %d are spared, %d do not come", ops, spared, n)
		}
	}
}

// TestPairsKeepNothing: the same question is told the same, whatever was asked in between.
func TestPairsKeepNothing(t *testing.T) {
	for range 3 {
		pairs(t, 1, 2, byLetters("LRlr"), []int{-1, -1, 0, -1}, byCodes("+F!!"))
		Pairs(0, 1000, sown(500, 7, 0, 4, 1))
		Apply(ring.New(9), sown(500, 7, 0, 4, 1))
		pairs(t, 0, 0, byLetters("lL"), []int{-1, -1}, byCodes("EF"))
	}
}

// FuzzEnds holds all three calls to the chapter's words, whatever the arguments are.
func FuzzEnds(f *testing.F) {
	f.Add(0, 2, []byte{1, 0, 2, 0, 3, 0, 3, 0})
	f.Add(-1, -1, []byte{1, 5, 4, 5})
	f.Add(1001, 1001, []byte{1, 128, 3, 255, 1, 7, 2, 8, 4, 1, 0, 0, 5, 3, 255, 255})
	f.Fuzz(func(t *testing.T, have, most int, b []byte) {
		var ops []api.Op
		for ; len(b) >= 2; b = b[2:] {
			ops = append(ops, api.Op{Kind: b[0], Val: int32(int8(b[1])) << (b[1] % 25)})
		}
		is := min(max(most, 0), 1000)
		had := there(min(max(have, 0), is))
		with, told, _ := model(is, had, ops)
		pairs(t, have, most, ops, with, codesOf(told))
		likeEach(t, int(uint(have)%1000), most, had, ops)
		small := int(uint(most) % 6)
		likeEach(t, int(uint(have)%7), small, there(min(len(had), small)), ops)
	})
}
