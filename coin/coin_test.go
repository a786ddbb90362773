package coin

import (
	"slices"
	"testing"
)

// most is how many bits that were not tossed yet there may be.
const most = 20000

// fed is a coin of bytes.
func fed(bits ...uint8) *Coin {
	c := New()
	c.Feed(bits...)
	return c
}

// bitsOf are the bits of bytes, the least of each first. They are come to by halves, and not as the package does.
func bitsOf(bytes ...uint8) []bool {
	var l []bool
	for _, b := range bytes {
		for range 8 {
			l = append(l, b%2 == 1)
			b /= 2
		}
	}
	return l
}

// bytesOf are bytes by a short rule, all 256 of them among the first 256.
func bytesOf(n int) []uint8 {
	l := make([]uint8, n)
	for i := range l {
		l[i] = uint8(i*167 + i/256)
	}
	return l
}

// left checks how many bits there are.
func left(t *testing.T, c *Coin, n int) {
	t.Helper()
	if got := c.Left(); got != n {
		t.Fatalf("Left is %d, not %d", got, n)
	}
}

// tosses tosses as many bits as are wanted, and checks each of them, and that each is taken away.
func tosses(t *testing.T, c *Coin, want ...bool) {
	t.Helper()
	for i, is := range want {
		n := max(c.Left()-1, 0)
		if got := c.Toss(); got != is {
			t.Fatalf("toss %d of %d is %v, not %v", i, len(want), got, is)
		}
		left(t, c, n)
	}
}

// holds checks that a coin has just these bits; it has none behind.
func holds(t *testing.T, c *Coin, want ...bool) {
	t.Helper()
	left(t, c, len(want))
	tosses(t, c, want...)
	left(t, c, 0)
	tosses(t, c, false, false)
}

// rises checks a height, and how many bits are left behind it.
func rises(t *testing.T, c *Coin, height, then int) {
	t.Helper()
	if got := c.Height(); got != height {
		t.Fatalf("Height is %d, not %d", got, height)
	}
	left(t, c, then)
}

func TestExample(t *testing.T) {
	c := fed(5)
	rises(t, c, 2, 6)
	rises(t, c, 2, 4)
	holds(t, c, false, false, false, false)
}

func TestNewHasNoBits(t *testing.T) {
	c := New()
	if c == nil {
		t.Fatal("New is nil")
	}
	left(t, c, 0)
	rises(t, c, 1, 0)
	holds(t, c)
}

// TestLeastBitFirst has every byte.
func TestLeastBitFirst(t *testing.T) {
	for b := range 256 {
		holds(t, fed(uint8(b)), bitsOf(uint8(b))...)
	}
	holds(t, fed(1), true, false, false, false, false, false, false, false)
	holds(t, fed(128), false, false, false, false, false, false, false, true)
	holds(t, fed(0xb2), false, true, false, false, true, true, false, true)
}

// TestBytesOneBehindTheOther: in one feed, in feeds of one, and in feeds of several, they come as they were fed.
func TestBytesOneBehindTheOther(t *testing.T) {
	for _, n := range []int{1, 2, 3, 7, 256, 1000, 2500} {
		for _, step := range []int{1, 2, 5, 64, n} {
			c := New()
			bytes := bytesOf(n)
			for l := range slices.Chunk(bytes, step) {
				c.Feed(l...)
			}
			holds(t, c, bitsOf(bytes...)...)
		}
	}
	holds(t, fed(1, 0, 3), bitsOf(1, 0, 3)...)
}

// TestTossesBetweenFeeds: a feed comes behind the bits that are left, be they whole bytes or not.
func TestTossesBetweenFeeds(t *testing.T) {
	for first := range 18 {
		c := fed(0x6d, 0xf1)
		want := bitsOf(0x6d, 0xf1)
		gone := min(first, 16)
		tosses(t, c, want[:gone]...)
		tosses(t, c, make([]bool, first-gone)...)
		c.Feed(0x93)
		left(t, c, 24-gone)
		tosses(t, c, want[gone:]...)
		tosses(t, c, true, true, false)
		c.Feed(0x01, 0x80)
		holds(t, c, slices.Concat(bitsOf(0x93)[3:], bitsOf(0x01, 0x80))...)
	}
}

// TestDrawnIsTossedInOrder goes on for many more bits than there may be at once, of which there are now many, now none.
func TestDrawnIsTossedInOrder(t *testing.T) {
	c := New()
	bytes := bytesOf(20000)
	want := bitsOf(bytes...)
	for i, fedBytes := 0, 0; fedBytes < len(bytes); i++ {
		n := min(1+i*37%400, len(bytes)-fedBytes)
		c.Feed(bytes[fedBytes : fedBytes+n]...)
		fedBytes += n
		gone := min(c.Left(), 1+i*1009%3600)
		tosses(t, c, want[:gone]...)
		want = want[gone:]
		left(t, c, len(want)-8*(len(bytes)-fedBytes))
	}
	holds(t, c, want...)
}

func TestFeedOfNothing(t *testing.T) {
	full := slices.Repeat([]uint8{0xa5}, most/8)
	for _, bytes := range [][]uint8{nil, {0}, {255}, {1, 2, 3}, full} {
		c := fed(bytes...)
		c.Feed()
		c.Feed(nil...)
		c.Feed([]uint8{}...)
		c.Feed(bytesOf(4)[:0]...)
		holds(t, c, bitsOf(bytes...)...)
	}
}

// TestNoughtsAreBits: a bit that is 0 is there, and is tossed, though it tells what no bit tells.
func TestNoughtsAreBits(t *testing.T) {
	c := fed(0, 0)
	left(t, c, 16)
	tosses(t, c, make([]bool, 15)...)
	c.Feed(1)
	holds(t, c, append([]bool{false}, bitsOf(1)...)...)
}

// TestTossesOfNothingTakeNothing: what is fed behind them is all there.
func TestTossesOfNothingTakeNothing(t *testing.T) {
	c := New()
	for range 3 {
		tosses(t, c, false, false, false)
		rises(t, c, 1, 0)
		c.Feed(0x0f)
		left(t, c, 8)
		tosses(t, c, bitsOf(0x0f)...)
		left(t, c, 0)
	}
}

// TestHeights: of each height, how many bits it takes, and that the one behind these is the next one.
func TestHeights(t *testing.T) {
	for height := 1; height <= 8; height++ {
		ones := height - 1
		takes := min(height, 7)
		bits := uint16(1)<<ones - 1
		for _, behind := range []uint16{0x0000, 0xffff, 0x5a5a} {
			b := bits
			if height == 8 {
				b |= behind << 7
			} else {
				b |= behind << height
			}
			c := fed(uint8(b), uint8(b>>8))
			rises(t, c, height, 16-takes)
			holds(t, c, bitsOf(uint8(b), uint8(b>>8))[takes:]...)
		}
	}
}

// TestHeightOfOnes: the most is come to by seven tosses, and the next bit stays.
func TestHeightOfOnes(t *testing.T) {
	c := fed(255)
	rises(t, c, 8, 1)
	holds(t, c, true)

	c = fed(0x7f)
	rises(t, c, 8, 1)
	holds(t, c, false)

	c = fed(255, 255, 255, 255, 255, 255, 255)
	for then := 49; then >= 0; then -= 7 {
		rises(t, c, 8, then)
	}
	rises(t, c, 1, 0)
}

// TestHeightRunsOut: no bit tells false as a 0 does, but there is nothing that it takes.
func TestHeightRunsOut(t *testing.T) {
	for ones := range 9 {
		c := fed(255)
		tosses(t, c, slices.Repeat([]bool{true}, 8-ones)...)
		rises(t, c, min(ones+1, 8), max(ones-7, 0))
		if ones < 8 {
			rises(t, c, 1, 0)
			c.Feed(3)
			rises(t, c, 3, 5)
		}
	}
}

// TestHeightGoesOverBytes: where bytes and feeds end is not seen.
func TestHeightGoesOverBytes(t *testing.T) {
	for at := range 8 {
		for height := 1; height <= 8; height++ {
			bits := (uint16(1)<<(height-1) - 1) << at
			takes := min(height, 7)
			c := New()
			c.Feed(uint8(bits))
			c.Feed(uint8(bits >> 8))
			tosses(t, c, make([]bool, at)...)
			rises(t, c, height, 16-at-takes)
			holds(t, c, make([]bool, 16-at-takes)...)
		}
	}
}

// TestHeightsOneBehindTheOther has them tossed from one row of bits: 1, 3, 8, 2, 8, 1, 5 and what runs out.
func TestHeightsOneBehindTheOther(t *testing.T) {
	row := []bool{
		false,
		true, true, false,
		true, true, true, true, true, true, true,
		true, false,
		true, true, true, true, true, true, true,
		false,
		true, true, true, true, false,
		true, true, true, true, true, true,
	}
	bytes := make([]uint8, len(row)/8)
	for i, is := range row {
		if is {
			bytes[i/8] |= 1 << (i % 8)
		}
	}
	c := fed(bytes...)
	n := len(row)
	for _, k := range [][2]int{{1, 1}, {3, 3}, {8, 7}, {2, 2}, {8, 7}, {1, 1}, {5, 5}, {7, 6}, {1, 0}} {
		n -= k[1]
		rises(t, c, k[0], n)
	}
}

// TestNeverMoreInOneFeed: of one feed the first 20000 bits find room.
func TestNeverMoreInOneFeed(t *testing.T) {
	for _, n := range []int{2498, 2499, 2500, 2501, 2502, 5000, 100000} {
		bytes := bytesOf(n)
		want := bitsOf(bytes[:min(n, 2500)]...)
		holds(t, fed(bytes...), want...)
	}
}

// TestNeverMoreInManyFeeds: what finds no room does not come later, when there is room.
func TestNeverMoreInManyFeeds(t *testing.T) {
	for _, step := range []int{1, 3, 7, 99, 2499} {
		bytes := bytesOf(2 * most / 8)
		want := bitsOf(bytes[:2500]...)
		c := New()
		n := 0
		for l := range slices.Chunk(bytes, step) {
			c.Feed(l...)
			n += len(l)
			left(t, c, min(8*n, most))
		}
		tosses(t, c, want[:9]...)
		left(t, c, most-9)
		holds(t, c, want[9:]...)
		c.Feed(0x35)
		holds(t, c, bitsOf(0x35)...)
	}
}

// TestNeverMoreWithTossesBetween: of a full coin as many bits find room as were tossed, the first ones of what is fed, whole bytes or not.
func TestNeverMoreWithTossesBetween(t *testing.T) {
	bytes := bytesOf(2500)
	behind := []uint8{0x4b, 0xd6, 0x39}
	for gone := range 26 {
		c := fed(bytes...)
		want := bitsOf(bytes...)
		c.Feed(0xff, 0xff)
		left(t, c, most)
		tosses(t, c, want[:gone]...)
		c.Feed(behind...)
		room := min(gone, 24)
		left(t, c, most-gone+room)
		c.Feed(0xff)
		room += min(gone-room, 8)
		holds(t, c, slices.Concat(want[gone:], bitsOf(append(slices.Clone(behind), 0xff)...)[:room])...)
	}
}

// TestFullAgainAndAgain: a full coin takes one bit for each that was tossed, one by one, and heights make room as tosses do.
func TestFullAgainAndAgain(t *testing.T) {
	bytes := bytesOf(2500)
	c := fed(bytes...)
	want := bitsOf(bytes...)
	for i := range 300 {
		bit := i%3 == 0
		fill := []uint8{0xfe, 0xff, 0xff}
		if bit {
			fill = []uint8{0x01, 0x00}
		}
		tosses(t, c, want[0])
		c.Feed(fill...)
		left(t, c, most)
		want = append(want[1:], bit)
	}
	for range 5 {
		c.Height()
		took := most - c.Left()
		c.Feed(0x55)
		left(t, c, most)
		want = append(want[took:], bitsOf(0x55)[:took]...)
	}
	holds(t, c, want...)
}

// TestNilCoin has a nil one beside New without a feed, call by call.
func TestNilCoin(t *testing.T) {
	var c *Coin
	for range 2 {
		c.Feed()
		c.Feed(nil...)
		c.Feed(255)
		c.Feed(bytesOf(3000)...)
		left(t, c, 0)
		tosses(t, c, false, false)
		rises(t, c, 1, 0)
	}
	k := c.Copy()
	if k == nil {
		t.Fatal("the copy of nil is nil, not New")
	}
	left(t, k, 0)
	rises(t, k, 1, 0)
	k.Feed(6)
	left(t, c, 0)
	left(t, c.Copy(), 0)
	holds(t, k, bitsOf(6)...)
}

func TestCopyIsTheSame(t *testing.T) {
	for _, n := range []int{0, 1, 2, 3, 100, 2499, 2500, 2501} {
		for _, gone := range []int{0, 1, 7, 8, 9, 20000} {
			bytes := bytesOf(n)
			c := fed(bytes...)
			want := bitsOf(bytes[:min(n, 2500)]...)
			gone = min(gone, len(want))
			tosses(t, c, want[:gone]...)
			want = want[gone:]
			k := c.Copy()
			if k == nil || k == c {
				t.Fatal("the copy is nil, or that coin")
			}
			holds(t, k.Copy(), want...)
			k.Feed(bytesOf(2500)...)
			holds(t, k, append(slices.Clone(want), bitsOf(bytesOf(2500)...)[:most-len(want)]...)...)
			holds(t, c, want...)
		}
	}
}

// TestCopyKnowsNothingOfTheOther has both fed and tossed by turns, with as much behind the bits as a list may have.
func TestCopyKnowsNothingOfTheOther(t *testing.T) {
	for n := 1; n < 40; n++ {
		for gone := range min(8*n, 11) {
			bytes := bytesOf(n)
			want := bitsOf(bytes...)[gone:]
			c := fed(bytes...)
			tosses(t, c, bitsOf(bytes...)[:gone]...)
			k := c.Copy()
			c.Feed(0x00)
			k.Feed(0xff)
			c.Feed(0xf0)
			tosses(t, k, want[0])
			left(t, c, len(want)+16)
			c.Height()
			left(t, k, len(want)+7)
			d := k.Copy()
			k.Feed(0x11)
			holds(t, d, append(slices.Clone(want[1:]), bitsOf(0xff)...)...)
			holds(t, k, append(slices.Clone(want[1:]), bitsOf(0xff, 0x11)...)...)
			took := len(want) + 16 - c.Left()
			holds(t, c, append(slices.Clone(want), bitsOf(0x00, 0xf0)...)[took:]...)
		}
	}
}

func TestTwoCoinsKnowNothingOfOneAnother(t *testing.T) {
	a, b := New(), New()
	a.Feed(3)
	left(t, b, 0)
	b.Feed(4, 5)
	rises(t, a, 3, 5)
	left(t, b, 16)
	b.Toss()
	holds(t, a, bitsOf(3)[3:]...)
	holds(t, b, bitsOf(4, 5)[1:]...)
}

// TestWhatIsFedIsNeitherChangedNorKept: also what lies behind its length, which is not read either.
func TestWhatIsFedIsNeitherChangedNorKept(t *testing.T) {
	for _, n := range []int{0, 1, 2, 5, 2500, 2600} {
		l := bytesOf(n + 3)
		was := slices.Clone(l)
		c := fed(l[:n]...)
		want := bitsOf(was[:min(n, 2500)]...)
		left(t, c, len(want))
		k := c.Copy()
		tosses(t, c, want...)
		c.Feed(0xaa, 0x55)
		if !slices.Equal(l, was) {
			t.Errorf("what was fed, %d bytes, is changed", n)
		}
		for i := range l {
			l[i] = ^l[i]
		}
		holds(t, c, bitsOf(0xaa, 0x55)...)
		holds(t, k, want...)
	}
}

// TestChangedBehindTheFeed: the first coin itself, not only its copy, keeps its bits.
func TestChangedBehindTheFeed(t *testing.T) {
	l := bytesOf(300)
	want := bitsOf(l...)
	c := fed(l...)
	tosses(t, c, want[:5]...)
	clear(l)
	tosses(t, c, want[5:1000]...)
	for i := range l {
		l[i] = 255
	}
	holds(t, c, want[1000:]...)
}

// model is the chapter's coin, its bits in one list.
type model struct {
	bits []bool
}

// feed is Feed as the chapter says it.
func (k *model) feed(bytes ...uint8) {
	room := most - len(k.bits)
	l := bitsOf(bytes...)
	k.bits = append(k.bits, l[:min(room, len(l))]...)
}

// toss is Toss as the chapter says it.
func (k *model) toss() bool {
	if len(k.bits) == 0 {
		return false
	}
	is := k.bits[0]
	k.bits = k.bits[1:]
	return is
}

// height is Height as the chapter says it.
func (k *model) height() int {
	for n := range 7 {
		if !k.toss() {
			return n + 1
		}
	}
	return 8
}

// held does one call on both, chosen by one byte, of what the other bytes say, and is the coin to go on with.
func held(t *testing.T, c *Coin, k *model, call uint8, rest []uint8) *Coin {
	t.Helper()
	switch call % 5 {
	case 0:
		c.Feed(rest...)
		k.feed(rest...)
	case 1:
		if got, want := c.Toss(), k.toss(); got != want {
			t.Fatalf("Toss is %v, not %v", got, want)
		}
	case 2:
		if got, want := c.Height(), k.height(); got != want {
			t.Fatalf("Height is %d, not %d", got, want)
		}
	case 3:
		other := c
		c = c.Copy()
		other.Feed(0xff, 0x00)
		other.Height()
	case 4:
		for range int(call) * 16 {
			if got, want := c.Toss(), k.toss(); got != want {
				t.Fatalf("Toss is %v, not %v", got, want)
			}
		}
	}
	left(t, c, len(k.bits))
	return c
}

// TestLongRuns has calls that come of a short rule, with coins that are full at times, and at times empty.
func TestLongRuns(t *testing.T) {
	for seed := range uint32(12) {
		c, k := New(), &model{}
		state := seed
		for range 2000 {
			state = state*1664525 + 1013904223
			rest := bytesOf(int(state >> 26 * seed))
			for i := range rest {
				rest[i] ^= uint8(state >> 16)
			}
			c = held(t, c, k, uint8(state>>20), rest)
		}
		holds(t, c, k.bits...)
	}
}

// FuzzCoin holds a coin to the model, whatever the calls are.
func FuzzCoin(f *testing.F) {
	f.Add([]byte{0, 5, 2, 0, 2, 0, 1, 0, 0, 255, 2, 0, 3, 0, 2, 0})
	f.Add([]byte{1, 0, 2, 0, 3, 0, 0, 127, 2, 0, 1, 0})
	f.Add([]byte{250, 255, 250, 254, 9, 0, 250, 253, 2, 0, 1, 0, 245, 252})
	f.Fuzz(func(t *testing.T, b []byte) {
		c, k := New(), &model{}
		for ; len(b) >= 2; b = b[2:] {
			rest := b[1:2]
			if b[0] >= 200 {
				rest = slices.Repeat(rest, 1000)
			}
			c = held(t, c, k, b[0], rest)
		}
		holds(t, c, k.bits...)
	})
}
