package word

import (
	"math"
	"testing"

	"reaper/api"
)

// vals are ordinary values, the edges, and those beside a change of a byte.
var vals = []int32{
	math.MinInt32, math.MinInt32 + 1, -65537, -65536, -257, -256, -255, -2, -1,
	0, 1, 2, 7, 255, 256, 257, 65535, 65536, 1 << 24, math.MaxInt32 - 1, math.MaxInt32,
}

// known are pairs whose words are worked out by hand from the chapter's rule.
var known = []struct {
	kind uint8
	val  int32
	word int64
}{
	{0, math.MinInt32, 1},
	{1, math.MinInt32, 2},
	{255, math.MinInt32, 256},
	{0, math.MinInt32 + 1, 257},
	{255, -1, 549755813888},
	{0, 0, 549755813889},
	{1, 0, 549755813890},
	{1, 7, 549755815682},
	{2, -7, 549755812099},
	{4, 1000, 549756069893},
	{0, math.MaxInt32, 1099511627521},
	{254, math.MaxInt32, 1099511627775},
	{255, math.MaxInt32, 1099511627776},
}

// noWords are what lies outside of 1 to 2^40; those far outside would be a pair if bits were cut off.
var noWords = []int64{
	0, -1, api.Closed, -2, -256, -257, -(1 << 40), -(1 << 40) + 1, math.MinInt64, math.MinInt64 + 1, math.MinInt64 + 2,
	1<<40 + 1, 1<<40 + 2, 1<<40 + 256, 1<<40 + 257, 1<<41 + 1, 1 << 48, 1<<62 + 2, math.MaxInt64 - 1, math.MaxInt64,
}

func TestExample(t *testing.T) {
	if w := Op(api.Op{Kind: api.Push, Val: -2147483648}); w != 2 {
		t.Errorf("Op of Kind 1, Val -2^31 is %d, not 2", w)
	}
}

func TestKnownOps(t *testing.T) {
	for _, k := range known {
		o := api.Op{Kind: k.kind, Val: k.val}
		if w := Op(o); w != k.word {
			t.Errorf("Op(%v) is %d, not %d", o, w, k.word)
		}
		if got, is := OfOp(k.word); !is || got != o {
			t.Errorf("OfOp(%d) is %v, %v, not %v, true", k.word, got, is, o)
		}
	}
}

func TestKnownRess(t *testing.T) {
	for _, k := range known {
		r := api.Res{Code: k.kind, Val: k.val}
		if w := Res(r); w != k.word {
			t.Errorf("Res(%v) is %d, not %d", r, w, k.word)
		}
		if got, is := OfRes(k.word); !is || got != r {
			t.Errorf("OfRes(%d) is %v, %v, not %v, true", k.word, got, is, r)
		}
	}
}

func TestOpThereAndBack(t *testing.T) {
	seen := map[int64]api.Op{}
	for kind := range kinds {
		for _, v := range vals {
			o := api.Op{Kind: uint8(kind), Val: v}
			w := Op(o)
			if w < 1 || w > 1<<40 {
				t.Fatalf("Op(%v) is %d: not from 1 to 2^40", o, w)
			}
			if p, twice := seen[w]; twice {
				t.Fatalf("%v and %v have one word, %d", p, o, w)
			}
			seen[w] = o
			if got, is := OfOp(w); !is || got != o {
				t.Fatalf("%v came back as %v, %v", o, got, is)
			}
		}
	}
}

func TestResThereAndBack(t *testing.T) {
	seen := map[int64]api.Res{}
	for code := range kinds {
		for _, v := range vals {
			r := api.Res{Code: uint8(code), Val: v}
			w := Res(r)
			if w < 1 || w > 1<<40 {
				t.Fatalf("Res(%v) is %d: not from 1 to 2^40", r, w)
			}
			if p, twice := seen[w]; twice {
				t.Fatalf("%v and %v have one word, %d", p, r, w)
			}
			seen[w] = r
			if got, is := OfRes(w); !is || got != r {
				t.Fatalf("%v came back as %v, %v", r, got, is)
			}
		}
	}
}

// backAndThere checks that a word is its own pair's word.
func backAndThere(t *testing.T, w int64) {
	t.Helper()
	if o, is := OfOp(w); !is || Op(o) != w {
		t.Errorf("the word %d came back from %v, %v as %d", w, o, is, Op(o))
	}
	if r, is := OfRes(w); !is || Res(r) != w {
		t.Errorf("the word %d came back from %v, %v as %d", w, r, is, Res(r))
	}
}

func TestWordsBackAndThere(t *testing.T) {
	const last = 1 << 40
	for i := int64(0); i < 1000; i++ {
		backAndThere(t, 1+i)
		backAndThere(t, last/2-500+i)
		backAndThere(t, last-i)
	}
	for w := int64(1); w <= last; w += last/4099 - 1 {
		backAndThere(t, w)
	}
}

func TestEdgeWords(t *testing.T) {
	if o, is := OfOp(1); !is || o != (api.Op{Kind: 0, Val: math.MinInt32}) {
		t.Errorf("OfOp(1) is %v, %v", o, is)
	}
	if r, is := OfRes(1); !is || r != (api.Res{Code: api.None, Val: math.MinInt32}) {
		t.Errorf("OfRes(1) is %v, %v", r, is)
	}
	if o, is := OfOp(1 << 40); !is || o != (api.Op{Kind: 255, Val: math.MaxInt32}) {
		t.Errorf("OfOp(2^40) is %v, %v", o, is)
	}
	if r, is := OfRes(1 << 40); !is || r != (api.Res{Code: 255, Val: math.MaxInt32}) {
		t.Errorf("OfRes(2^40) is %v, %v", r, is)
	}
}

func TestNoWord(t *testing.T) {
	for _, w := range noWords {
		if o, is := OfOp(w); is || o != (api.Op{}) {
			t.Errorf("OfOp(%d) is %v, %v, not nothing, false", w, o, is)
		}
		if r, is := OfRes(w); is || r != (api.Res{}) {
			t.Errorf("OfRes(%d) is %v, %v, not nothing, false", w, r, is)
		}
	}
}

func TestAsks(t *testing.T) {
	for _, w := range []int64{1, 2, 256, 1 << 32, 1 << 40, 1<<40 + 1, math.MaxInt64, Op(api.Op{}), Op(api.Op{Kind: 255, Val: math.MaxInt32})} {
		if !Asks(w) {
			t.Errorf("Asks(%d) is false", w)
		}
	}
	for _, w := range []int64{0, -1, api.Closed, -2, -(1 << 31), -(1 << 32), -(1 << 40), math.MinInt64} {
		if Asks(w) {
			t.Errorf("Asks(%d) is true", w)
		}
	}
}

func FuzzThereAndBack(f *testing.F) {
	f.Add(uint8(0), int32(math.MinInt32))
	f.Add(uint8(255), int32(math.MaxInt32))
	f.Add(uint8(1), int32(7))
	f.Fuzz(func(t *testing.T, kind uint8, val int32) {
		o, r := api.Op{Kind: kind, Val: val}, api.Res{Code: kind, Val: val}
		w := Op(o)
		if want := 256*(int64(val)+1<<31) + int64(kind) + 1; w != want || Res(r) != want {
			t.Errorf("the words of %d, %d are %d and %d, not %d", kind, val, w, Res(r), want)
		}
		if got, is := OfOp(w); !is || got != o {
			t.Errorf("%v came back as %v, %v", o, got, is)
		}
		if got, is := OfRes(w); !is || got != r {
			t.Errorf("%v came back as %v, %v", r, got, is)
		}
	})
}
