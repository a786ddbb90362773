package script

import (
	"bytes"
	"math"
	"slices"
	"testing"

	"reaper/api"
)

// call, pick and draw are entries whose bytes are easy to see.
func call(thread int, kind uint8, val int32) api.Entry {
	return api.Entry{Kind: api.Call, Thread: thread, Op: api.Op{Kind: kind, Val: val}}
}

func pick(thread int) api.Entry { return api.Entry{Kind: api.Pick, Thread: thread} }

func draw(bits uint8) api.Entry { return api.Entry{Kind: api.Draw, Bits: bits} }

// known are entries and the bytes that Encode tells of them, by the chapter's rule.
var known = []struct {
	name    string
	bytes   []byte
	entries []api.Entry
}{
	{"nothing", nil, nil},
	{"the example", []byte{1, 0, 1, 7, 2, 0, 0, 0}, []api.Entry{call(0, api.Push, 7), pick(0)}},
	{"a call", []byte{1, 2, 3, 4}, []api.Entry{call(2, 3, 4)}},
	{"a call of noughts", []byte{1, 0, 0, 0}, []api.Entry{call(0, 0, 0)}},
	{"a call of the greatest bytes", []byte{1, 255, 255, 255}, []api.Entry{call(255, 255, 255)}},
	{"a call above what a signed byte holds", []byte{1, 128, 129, 130}, []api.Entry{call(128, 129, 130)}},
	{"a pick", []byte{2, 5, 0, 0}, []api.Entry{pick(5)}},
	{"a pick of the greatest thread", []byte{2, 255, 0, 0}, []api.Entry{pick(255)}},
	{"a draw", []byte{3, 0, 0, 6}, []api.Entry{draw(6)}},
	{"a draw of 0", []byte{3, 0, 0, 0}, []api.Entry{draw(0)}},
	{"a draw of all bits", []byte{3, 0, 0, 255}, []api.Entry{draw(255)}},
	{"another kind", []byte{0, 0, 0, 0}, []api.Entry{{}}},
	{"all kinds, in order", []byte{3, 0, 0, 9, 0, 0, 0, 0, 2, 1, 0, 0, 1, 1, 2, 3, 2, 1, 0, 0},
		[]api.Entry{draw(9), {}, pick(1), call(1, 2, 3), pick(1)}},
}

// unseen are bytes of which Decode does not look at some, so that Encode does not tell them.
var unseen = []struct {
	name    string
	bytes   []byte
	entries []api.Entry
}{
	{"one byte", []byte{1}, nil},
	{"two bytes", []byte{2, 1}, nil},
	{"three bytes", []byte{1, 1, 1}, nil},
	{"one byte left", []byte{2, 7, 0, 0, 1}, []api.Entry{pick(7)}},
	{"two bytes left", []byte{2, 7, 0, 0, 1, 1}, []api.Entry{pick(7)}},
	{"three bytes left", []byte{2, 7, 0, 0, 2, 8, 0, 0, 1, 1, 1}, []api.Entry{pick(7), pick(8)}},
	{"a pick with other bytes", []byte{2, 7, 8, 9}, []api.Entry{pick(7)}},
	{"a draw with other bytes", []byte{3, 7, 8, 9}, []api.Entry{draw(9)}},
	{"a first byte of 0", []byte{0, 7, 8, 9}, []api.Entry{{}}},
	{"a first byte of 4", []byte{4, 7, 8, 9}, []api.Entry{{}}},
	{"a first byte of 5, and a pick", []byte{5, 1, 1, 1, 2, 1, 1, 1}, []api.Entry{{}, pick(1)}},
	{"a first byte of 255", []byte{255, 255, 255, 255}, []api.Entry{{}}},
	{"first bytes whose low bits are a kind's", []byte{129, 1, 1, 1, 18, 1, 1, 1, 7, 1, 1, 1}, []api.Entry{{}, {}, {}}},
}

// noBytes are entries that Decode tells of no bytes.
var noBytes = []struct {
	name  string
	entry api.Entry
}{
	{"a call of a thread too great", call(256, 1, 1)},
	{"a call of the greatest thread", call(math.MaxInt, 1, 1)},
	{"a call of a thread whose low byte is 0", call(1<<32, 1, 1)},
	{"a call of a thread below 0", call(-1, 1, 1)},
	{"a call of the least thread", call(math.MinInt, 1, 1)},
	{"a call of a value too great", call(1, 1, 256)},
	{"a call of the greatest value", call(1, 1, math.MaxInt32)},
	{"a call of a value below 0", call(1, 1, -1)},
	{"a call of the least value", call(1, 1, math.MinInt32)},
	{"a call with bits", api.Entry{Kind: api.Call, Thread: 1, Op: api.Op{Kind: 1, Val: 1}, Bits: 1}},
	{"a pick of a thread too great", pick(256)},
	{"a pick of the greatest thread", pick(math.MaxInt)},
	{"a pick of a thread below 0", pick(-1)},
	{"a pick of the least thread", pick(math.MinInt)},
	{"a pick with an operation's kind", api.Entry{Kind: api.Pick, Op: api.Op{Kind: 1}}},
	{"a pick with an operation's value", api.Entry{Kind: api.Pick, Op: api.Op{Val: 1}}},
	{"a pick with bits", api.Entry{Kind: api.Pick, Bits: 1}},
	{"a draw with a thread", api.Entry{Kind: api.Draw, Thread: 1, Bits: 1}},
	{"a draw with a thread whose low byte is 0", api.Entry{Kind: api.Draw, Thread: 256, Bits: 1}},
	{"a draw with an operation's kind", api.Entry{Kind: api.Draw, Op: api.Op{Kind: 1}, Bits: 1}},
	{"a draw with an operation's value", api.Entry{Kind: api.Draw, Op: api.Op{Val: 1}, Bits: 1}},
	{"kind 0 with a thread", api.Entry{Thread: 1}},
	{"kind 0 with a thread below 0", api.Entry{Thread: -1}},
	{"kind 0 with an operation's kind", api.Entry{Op: api.Op{Kind: 1}}},
	{"kind 0 with an operation's value", api.Entry{Op: api.Op{Val: 1}}},
	{"kind 0 with bits", api.Entry{Bits: 1}},
	{"kind 4", api.Entry{Kind: 4}},
	{"kind 5 with bits", api.Entry{Kind: 5, Bits: 1}},
	{"kind 129", api.Entry{Kind: 129, Thread: 1}},
	{"kind 255", api.Entry{Kind: 255}},
}

// same is whether two lists hold the same, nil and empty being one.
func same[T comparable](t *testing.T, what string, got, want []T) {
	t.Helper()
	if !slices.Equal(got, want) {
		t.Errorf("%s is %v, not %v", what, got, want)
	}
}

// encoded is Encode of what has bytes.
func encoded(t *testing.T, l []api.Entry) []byte {
	t.Helper()
	b, e := Encode(l)
	if e != api.OK {
		t.Errorf("Encode(%v) is %v", l, e)
	}
	return b
}

func TestExample(t *testing.T) {
	l := Decode([]byte{1, 0, 1, 7, 2, 0, 0, 0})
	same(t, "the example", l, []api.Entry{{Kind: 1, Thread: 0, Op: api.Op{Kind: 1, Val: 7}}, {Kind: 2, Thread: 0}})
}

func TestDecodeKnown(t *testing.T) {
	for _, k := range known {
		same(t, k.name, Decode(k.bytes), k.entries)
	}
	same(t, "no bytes", Decode([]byte{}), nil)
}

func TestDecodeUnseen(t *testing.T) {
	for _, k := range unseen {
		same(t, k.name, Decode(k.bytes), k.entries)
	}
}

// TestDecodeAnyByte has each byte in each place, so that none is taken for another.
func TestDecodeAnyByte(t *testing.T) {
	for n := range 256 {
		x := byte(n)
		same(t, "a call's thread", Decode([]byte{1, x, 1, 2}), []api.Entry{call(n, 1, 2)})
		same(t, "a call's kind", Decode([]byte{1, 1, x, 2}), []api.Entry{call(1, x, 2)})
		same(t, "a call's value", Decode([]byte{1, 1, 2, x}), []api.Entry{call(1, 2, int32(n))})
		same(t, "a pick's thread", Decode([]byte{2, x, 1, 2}), []api.Entry{pick(n)})
		same(t, "a draw's bits", Decode([]byte{3, 1, 2, x}), []api.Entry{draw(x)})
		if n < 1 || n > 3 {
			same(t, "any other kind", Decode([]byte{x, 1, 2, 3}), []api.Entry{{}})
		}
	}
}

func TestEncodeKnown(t *testing.T) {
	for _, k := range known {
		same(t, k.name, encoded(t, k.entries), k.bytes)
	}
	same(t, "no entries", encoded(t, []api.Entry{}), nil)
}

// TestEncodeWrong has what is wrong alone, first, in the midst and last: the rest does not help it.
func TestEncodeWrong(t *testing.T) {
	right := []api.Entry{call(1, 1, 1), pick(1), draw(1), {}}
	for _, k := range noBytes {
		for at := range len(right) + 1 {
			for _, l := range [][]api.Entry{{k.entry}, slices.Insert(slices.Clone(right), at, k.entry)} {
				if b, e := Encode(l); len(b) != 0 || e != api.ErrArg {
					t.Errorf("%s: Encode(%v) is %v, %v, not nothing, ErrArg", k.name, l, b, e)
				}
			}
		}
	}
}

// TestEncodeAtTheEdge has each field at the last number of which there is a byte.
func TestEncodeAtTheEdge(t *testing.T) {
	for _, v := range []int{0, 255} {
		same(t, "a call's thread", encoded(t, []api.Entry{call(v, 1, 2)}), []byte{1, byte(v), 1, 2})
		same(t, "a call's value", encoded(t, []api.Entry{call(1, 2, int32(v))}), []byte{1, 1, 2, byte(v)})
		same(t, "a pick's thread", encoded(t, []api.Entry{pick(v)}), []byte{2, byte(v), 0, 0})
	}
}

func TestThereAndBack(t *testing.T) {
	for _, k := range known {
		same(t, k.name+", there and back", Decode(encoded(t, k.entries)), k.entries)
		same(t, k.name+", back and there", encoded(t, Decode(k.bytes)), k.bytes)
	}
	for _, k := range unseen {
		l := Decode(k.bytes)
		same(t, k.name+", there and back", Decode(encoded(t, l)), l)
	}
}

// checkRounds holds Rounds of numbers that are in bounds to the chapter's order.
func checkRounds(t *testing.T, threads, times int) {
	t.Helper()
	l := Rounds(threads, times)
	if len(l) != threads*times {
		t.Errorf("Rounds(%d, %d) has %d entries", threads, times, len(l))
	}
	for i, e := range l {
		if e != pick(i%threads) {
			t.Fatalf("Rounds(%d, %d): entry %d is %v", threads, times, i, e)
		}
	}
}

func TestRounds(t *testing.T) {
	same(t, "Rounds(2, 3)", Rounds(2, 3), []api.Entry{pick(0), pick(1), pick(0), pick(1), pick(0), pick(1)})
	same(t, "Rounds(3, 2)", Rounds(3, 2), []api.Entry{pick(0), pick(1), pick(2), pick(0), pick(1), pick(2)})
	same(t, "Rounds(1, 1)", Rounds(1, 1), []api.Entry{pick(0)})
	for threads := 1; threads <= 66; threads++ {
		for times := 1; times <= 9; times++ {
			checkRounds(t, threads, times)
		}
	}
}

func TestRoundsAtTheLimit(t *testing.T) {
	for _, c := range []struct{ threads, times int }{
		{1, 20000}, {20000, 1}, {2, 10000}, {10000, 2}, {100, 200}, {64, 312}, {3, 6666}, {6666, 3}, {19999, 1}, {1, 19999}, {141, 141},
	} {
		checkRounds(t, c.threads, c.times)
	}
}

// TestRoundsTooMany has pairs whose product goes round to one that would be in bounds.
func TestRoundsTooMany(t *testing.T) {
	for _, c := range []struct{ threads, times int }{
		{1, 20001}, {20001, 1}, {2, 10001}, {10001, 2}, {64, 313}, {313, 64}, {3, 6667}, {142, 141}, {20000, 20000}, {20000, 2}, {2, 20000},
		{1, math.MaxInt}, {math.MaxInt, 1}, {math.MaxInt, math.MaxInt}, {math.MaxInt, 2}, {2, math.MaxInt},
		{1 << 32, 1 << 32}, {1 << 62, 4}, {4, 1 << 62}, {1<<32 + 1, 1 << 32}, {1<<33 + 1, 1 << 31}, {math.MaxInt/3*2 + 2, 3}, {1<<62 + 1, 4},
		{1 << 16, 1 << 16}, {1<<16 + 1, 1 << 16}, {1<<32 + 1, 1}, {1, 1<<32 + 1},
	} {
		if l := Rounds(c.threads, c.times); len(l) != 0 {
			t.Errorf("Rounds(%d, %d) has %d entries", c.threads, c.times, len(l))
		}
	}
}

func TestRoundsBelowOne(t *testing.T) {
	for _, n := range []int{0, -1, -2, -20000, math.MinInt} {
		for _, m := range []int{math.MinInt, -20000, -2, -1, 0, 1, 2, 20000, math.MaxInt} {
			if l := Rounds(n, m); len(l) != 0 {
				t.Errorf("Rounds(%d, %d) has %d entries", n, m, len(l))
			}
			if l := Rounds(m, n); len(l) != 0 {
				t.Errorf("Rounds(%d, %d) has %d entries", m, n, len(l))
			}
		}
	}
}

func TestPicks(t *testing.T) {
	for _, c := range []struct {
		l []api.Entry
		n int
	}{
		{nil, 0},
		{[]api.Entry{}, 0},
		{[]api.Entry{pick(0)}, 1},
		{[]api.Entry{call(0, api.Pick, 2), draw(2), {}}, 0},
		{[]api.Entry{pick(0), call(2, 2, 2), pick(0), draw(2), pick(9), {}}, 3},
		{[]api.Entry{pick(-1), pick(64), pick(math.MaxInt), {Kind: api.Pick, Thread: 1, Op: api.Op{Kind: 9, Val: 9}, Bits: 9}}, 4},
		{[]api.Entry{{Kind: 0, Thread: 2}, {Kind: 6}, {Kind: 130}, {Kind: 255}}, 0},
		{Rounds(20, 1000), 20000},
	} {
		if n := Picks(c.l); n != c.n {
			t.Errorf("Picks of %d entries is %d, not %d", len(c.l), n, c.n)
		}
	}
}

func TestCalls(t *testing.T) {
	a, b, c := api.Op{Kind: 1, Val: 7}, api.Op{Kind: 2, Val: -7}, api.Op{Kind: 255, Val: math.MinInt32}
	for _, k := range []struct {
		threads []int
		ops     []api.Op
		want    []api.Entry
	}{
		{[]int{4}, []api.Op{a}, []api.Entry{call(4, 1, 7)}},
		{[]int{4, 3, 4}, []api.Op{a, b, c}, []api.Entry{call(4, 1, 7), call(3, 2, -7), call(4, 255, math.MinInt32)}},
		{[]int{4, 3}, []api.Op{a, b, c}, []api.Entry{call(4, 1, 7), call(3, 2, -7)}},
		{[]int{4, 3, 2}, []api.Op{b}, []api.Entry{call(4, 2, -7)}},
		{[]int{-1, math.MinInt, math.MaxInt}, []api.Op{a, a, {}}, []api.Entry{call(-1, 1, 7), call(math.MinInt, 1, 7), call(math.MaxInt, 0, 0)}},
		{nil, []api.Op{a, b}, nil},
		{[]int{}, []api.Op{a}, nil},
		{[]int{1, 2}, nil, nil},
		{[]int{1, 2}, []api.Op{}, nil},
		{nil, nil, nil},
	} {
		same(t, "Calls", Calls(k.threads, k.ops...), k.want)
	}
	same(t, "Calls of operations one by one", Calls([]int{0, 1}, a, b), []api.Entry{call(0, 1, 7), call(1, 2, -7)})
	same(t, "Calls of no operation", Calls([]int{0, 1}), nil)
}

// TestManyCalls: no limit is told for calls.
func TestManyCalls(t *testing.T) {
	const n = api.MaxScript + 5
	threads, ops := make([]int, n), make([]api.Op, n)
	for i := range n {
		threads[i], ops[i] = -i, api.Op{Kind: uint8(i), Val: int32(i)}
	}
	l := Calls(threads, ops...)
	if len(l) != n {
		t.Fatalf("Calls of %d has %d entries", n, len(l))
	}
	for i, e := range l {
		if e != call(-i, uint8(i), int32(i)) {
			t.Fatalf("entry %d is %v", i, e)
		}
	}
}

// TestManyEntries: no limit is told for Decode, Encode and Picks.
func TestManyEntries(t *testing.T) {
	const n = api.MaxScript + 5
	b := bytes.Repeat([]byte{2, 1, 0, 0}, n)
	l := Decode(b)
	if len(l) != n || Picks(l) != n || !bytes.Equal(encoded(t, l), b) {
		t.Errorf("Decode of %d entries has %d, %d picks", n, len(l), Picks(l))
	}
}

// TestBehindTheLength: what lies there would be entries, if it were read.
func TestBehindTheLength(t *testing.T) {
	b := []byte{2, 1, 0, 0, 2, 2, 0, 0, 2, 3, 0, 0}
	was := slices.Clone(b)
	for n := range len(b) + 1 {
		if l := Decode(b[:n]); len(l) != n/4 {
			t.Errorf("Decode of %d bytes has %d entries", n, len(l))
		}
		same(t, "what was handed in", b, was)
	}
	l := []api.Entry{pick(1), pick(2), pick(256)}
	same(t, "Encode", encoded(t, l[:1]), []byte{2, 1, 0, 0})
	same(t, "Encode", encoded(t, l[:0]), nil)
	if n := Picks(l[:2]); n != 2 {
		t.Errorf("Picks is %d, not 2", n)
	}
	same(t, "what was handed in", l, []api.Entry{pick(1), pick(2), pick(256)})
	threads, ops := []int{5, 6, 7}, []api.Op{{Kind: 1}, {Kind: 2}, {Kind: 3}}
	same(t, "Calls", Calls(threads[:1], ops...), []api.Entry{call(5, 1, 0)})
	same(t, "Calls", Calls(threads, ops[:2]...), []api.Entry{call(5, 1, 0), call(6, 2, 0)})
	same(t, "threads", threads, []int{5, 6, 7})
	same(t, "ops", ops, []api.Op{{Kind: 1}, {Kind: 2}, {Kind: 3}})
}

// spoil writes over all of a list, behind its length too.
func spoil[T any](l []T, x T) {
	l = l[:cap(l)]
	for i := range l {
		l[i] = x
	}
}

// TestNewMemory: what comes out is spoiled, and neither what was handed in nor what came out before it is.
func TestNewMemory(t *testing.T) {
	b := []byte{1, 2, 3, 4, 2, 5, 0, 0, 3, 0, 0, 6, 9}
	bytesWere := slices.Clone(b)
	l := Decode(b)
	entriesWere := slices.Clone(l)
	spoil(Decode(b), draw(77))
	same(t, "the bytes", b, bytesWere)
	same(t, "the entries", l, entriesWere)
	out := encoded(t, l)
	outWas := slices.Clone(out)
	spoil(encoded(t, l), 77)
	same(t, "the entries", l, entriesWere)
	same(t, "the bytes of Encode", out, outWas)
	r := Rounds(2, 2)
	spoil(Rounds(2, 2), draw(77))
	same(t, "Rounds", r, []api.Entry{pick(0), pick(1), pick(0), pick(1)})
	threads, ops := []int{1, 2}, []api.Op{{Kind: 1, Val: 1}, {Kind: 2, Val: 2}}
	c := Calls(threads, ops...)
	spoil(Calls(threads, ops...), draw(77))
	same(t, "Calls", c, []api.Entry{call(1, 1, 1), call(2, 2, 2)})
}

// TestNothingKept: what was handed in is spoiled, and what came out is not.
func TestNothingKept(t *testing.T) {
	b := []byte{1, 2, 3, 4, 2, 5, 0, 0}
	l := Decode(b)
	spoil(b, 77)
	same(t, "Decode", l, []api.Entry{call(2, 3, 4), pick(5)})
	out := encoded(t, l)
	spoil(l, draw(77))
	same(t, "Encode", out, []byte{1, 2, 3, 4, 2, 5, 0, 0})
	threads, ops := []int{1, 2}, []api.Op{{Kind: 1, Val: 1}, {Kind: 2, Val: 2}}
	c := Calls(threads, ops...)
	spoil(threads, 77)
	spoil(ops, api.Op{Kind: 77})
	same(t, "Calls", c, []api.Entry{call(1, 1, 1), call(2, 2, 2)})
}

// TestWrongIsNotChanged: what has no bytes is left as it is, too.
func TestWrongIsNotChanged(t *testing.T) {
	for _, k := range noBytes {
		l := []api.Entry{pick(1), k.entry, pick(2)}
		Encode(l)
		same(t, k.name, l, []api.Entry{pick(1), k.entry, pick(2)})
	}
}

// seen is the bytes at which Decode looks, the others 0.
func seen(b []byte) []byte {
	looks := map[byte][]byte{1: {1, 1, 1, 1}, 2: {1, 1, 0, 0}, 3: {1, 0, 0, 1}}
	out := make([]byte, len(b)/4*4)
	for i := range out {
		if mask := looks[b[i/4*4]]; mask != nil {
			out[i] = b[i] * mask[i%4]
		}
	}
	return out
}

// FuzzBytes holds Decode and Encode to each other, whatever the bytes are.
func FuzzBytes(f *testing.F) {
	f.Add([]byte{1, 0, 1, 7, 2, 0, 0, 0})
	f.Add([]byte{3, 1, 2, 3, 4, 5, 6, 7, 0, 1, 2, 3, 1, 255, 255, 255, 2})
	f.Fuzz(func(t *testing.T, b []byte) {
		was := slices.Clone(b)
		l := Decode(b)
		same(t, "what was handed in", b, was)
		if len(l) != len(b)/4 {
			t.Errorf("Decode of %d bytes has %d entries", len(b), len(l))
		}
		same(t, "the bytes of the entries", encoded(t, l), seen(b))
		same(t, "the entries of those bytes", Decode(seen(b)), l)
	})
}

// fits says, field by field, whether an entry has bytes.
func fits(e api.Entry) bool {
	byteful := func(v int) bool { return v >= 0 && v <= 255 }
	switch e.Kind {
	case api.Call:
		return byteful(e.Thread) && byteful(int(e.Op.Val)) && e.Bits == 0
	case api.Pick:
		return byteful(e.Thread) && e.Op == api.Op{} && e.Bits == 0
	case api.Draw:
		return e.Thread == 0 && e.Op == api.Op{}
	}
	return e == api.Entry{}
}

// FuzzEntry holds Encode to the chapter, whatever the entry is.
func FuzzEntry(f *testing.F) {
	f.Add(uint8(1), 255, uint8(4), int32(255), uint8(0))
	f.Add(uint8(1), 256, uint8(4), int32(-1), uint8(1))
	f.Add(uint8(3), 0, uint8(0), int32(0), uint8(255))
	f.Add(uint8(4), 0, uint8(0), int32(0), uint8(0))
	f.Fuzz(func(t *testing.T, kind uint8, thread int, op uint8, val int32, bits uint8) {
		for k := range uint8(6) {
			e := api.Entry{Kind: kind - k, Thread: thread, Op: api.Op{Kind: op, Val: val}, Bits: bits}
			b, is := Encode([]api.Entry{pick(3), e})
			if !fits(e) {
				if len(b) != 0 || is != api.ErrArg {
					t.Errorf("Encode(%v) is %v, %v, not nothing, ErrArg", e, b, is)
				}
				continue
			}
			if is != api.OK {
				t.Errorf("Encode(%v) is %v", e, is)
			}
			same(t, "there and back", Decode(b), []api.Entry{pick(3), e})
		}
	})
}

// FuzzRounds holds Rounds to the chapter, the product taken where it does not go round.
func FuzzRounds(f *testing.F) {
	f.Add(2, 3)
	f.Add(1<<32, 1<<32)
	f.Add(20000, 1)
	f.Fuzz(func(t *testing.T, threads, times int) {
		if threads >= 1 && times >= 1 && threads <= 20000 && times <= 20000 && threads*times <= 20000 {
			checkRounds(t, threads, times)
		} else if l := Rounds(threads, times); len(l) != 0 {
			t.Errorf("Rounds(%d, %d) has %d entries", threads, times, len(l))
		}
	})
}
