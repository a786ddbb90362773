package list

import (
	"math"
	"slices"
	"testing"

	"reaper/api"
	"reaper/cells"
	"reaper/record"
)

// ages are what may be asked of Stale, from the least to the greatest.
var ages = []int{math.MinInt, math.MinInt + 1, -1 << 32, -1000, -2, -1, 0, 1, 2, 3, 1000, 1 << 32, math.MaxInt - 1, math.MaxInt}

// nowhere are numbers at which no record of five begins; some would be an address if bits were cut off, or if signs were.
var nowhere = []int64{
	1, 2, 4, 5, 6, 7, 9, 10, 11, 12, 14, 22, 24, 27, 28, 33, 323, 998, 1000, 1003, 5003,
	-1, -2, -3, -8, -13, -23, -1000, 1<<8 + 3, 1<<8 + 8, 1<<16 + 3, 1<<16 + 8, 1<<31 + 3, 1<<32 + 3, 1<<32 + 8, 1<<32 + 23, 1<<33 + 13, 1<<40 + 3, 1<<62 + 3, 1<<62 + 8,
	-1 << 8, -1<<16 + 3, -1 << 31, -1<<31 + 8, -1<<32 + 3, -1<<32 + 8, -1 << 62, -1<<62 + 3, math.MinInt64, math.MinInt64 + 1, math.MinInt64 + 3, math.MinInt64 + 8, math.MaxInt64 - 4, math.MaxInt64,
}

// lay is a memory of some numbers, one in each cell, and of room behind them.
func lay(t *testing.T, room int, numbers ...int64) *cells.Memory {
	t.Helper()
	m := cells.New(len(numbers) + room)
	more(t, m, len(numbers))
	for a, v := range numbers {
		store(t, m, a, v)
	}
	return m
}

// more lays cells.
func more(t *testing.T, m *cells.Memory, n int) {
	t.Helper()
	if at, e := m.Alloc(n); e != api.OK {
		t.Fatalf("Alloc(%d) is %d, %v", n, at, e)
	}
}

// store writes a cell that is there.
func store(t *testing.T, m *cells.Memory, a int, v int64) {
	t.Helper()
	if e := m.Store(a, v); e != api.OK {
		t.Fatalf("Store(%d, %d) is %v", a, v, e)
	}
}

// memory is one of HEAD, PASS, and records. LOCK is 1, which is nobody's business here.
func memory(t *testing.T, head, pass int64, recs ...api.Rec) *cells.Memory {
	t.Helper()
	numbers := []int64{1, head, pass}
	for _, r := range recs {
		numbers = append(numbers, r.Req, r.Active, r.Age, r.Next, r.Told)
	}
	return lay(t, 0, numbers...)
}

// at is the k-th record's address.
func at(k int) int { return 3 + 5*k }

// linked are many records, of which those of the order are on the list, one behind the other, and active; what is off it has a NEXT, too.
func linked(t *testing.T, many int, order ...int) *cells.Memory {
	t.Helper()
	m := memory(t, 0, 0, make([]api.Rec, many)...)
	for k := range many {
		store(t, m, at(k)+api.Next, int64(at((k+1)%many)))
	}
	cell := api.Head
	for _, k := range order {
		store(t, m, cell, int64(at(k)))
		store(t, m, at(k)+api.Active, 1)
		cell = at(k) + api.Next
	}
	store(t, m, cell, 0)
	return m
}

// addresses are those of the records of that order.
func addresses(order ...int) []int {
	var l []int
	for _, k := range order {
		l = append(l, at(k))
	}
	return l
}

// rising are the numbers 0, 1, 2 and so on.
func rising(n int) []int {
	l := make([]int, n)
	for i := range l {
		l[i] = i
	}
	return l
}

// orders hands on each order of some of so many, of none of them, and of all.
func orders(many int, hear func([]int)) {
	var from func([]int)
	from = func(order []int) {
		hear(order)
		for k := range many {
			if !slices.Contains(order, k) {
				from(append(slices.Clone(order), k))
			}
		}
	}
	from(nil)
}

// reaches checks a list that is whole.
func reaches(t *testing.T, m *cells.Memory, want ...int) {
	t.Helper()
	if got, is := Reach(m); !slices.Equal(got, want) || !is {
		t.Errorf("Reach of %v is %v, %v, not %v, true", m.Cells(), got, is, want)
	}
}

// isLost checks a list that is not.
func isLost(t *testing.T, m *cells.Memory) {
	t.Helper()
	if got, is := Reach(m); len(got) != 0 || is {
		t.Errorf("Reach of %v is %v, %v, not nothing, false", m.Cells(), got, is)
	}
	for _, age := range ages {
		stales(t, m, age)
	}
	sounds(t, m, api.ErrList)
}

// has checks all records.
func has(t *testing.T, m *cells.Memory, want ...int) {
	t.Helper()
	if got := Records(m); !slices.Equal(got, want) {
		t.Errorf("Records of %v are %v, not %v", m.Cells(), got, want)
	}
}

// waits checks the records that wait.
func waits(t *testing.T, m *cells.Memory, want ...int) {
	t.Helper()
	if got := Waiting(m); !slices.Equal(got, want) {
		t.Errorf("Waiting of %v are %v, not %v", m.Cells(), got, want)
	}
}

// stales checks the records that are stale.
func stales(t *testing.T, m *cells.Memory, age int, want ...int) {
	t.Helper()
	if got := Stale(m, age); !slices.Equal(got, want) {
		t.Errorf("Stale of %v, %d are %v, not %v", m.Cells(), age, got, want)
	}
}

// sounds checks what is wrong with a list.
func sounds(t *testing.T, m *cells.Memory, want api.Errno) {
	t.Helper()
	if got := Sound(m); got != want {
		t.Errorf("Sound of %v is %v, not %v", m.Cells(), got, want)
	}
}

func TestExample(t *testing.T) {
	m := lay(t, 0, 0, 3, 0, 5, 1, 0, 0, 0)
	reaches(t, m, 3)
	sounds(t, m, api.OK)
	has(t, m, 3)
	waits(t, m, 3)
}

// TestWithoutHead: a memory of no cell, and of LOCK alone.
func TestWithoutHead(t *testing.T) {
	for _, numbers := range [][]int64{{}, {0}, {1}, {3}, {-1}, {math.MinInt64}} {
		for _, room := range []int{0, 1, 7, 900} {
			m := lay(t, room, numbers...)
			reaches(t, m)
			has(t, m)
			waits(t, m)
			sounds(t, m, api.OK)
			for _, age := range ages {
				stales(t, m, age)
			}
		}
	}
}

// TestHeadWithoutRecords: HEAD is there, PASS perhaps, but no whole record.
func TestHeadWithoutRecords(t *testing.T) {
	for top := 2; top < 8; top++ {
		numbers := []int64{9, 0, 9, 9, 1, 0, 0}[:top]
		m := lay(t, 20, numbers...)
		reaches(t, m)
		has(t, m)
		waits(t, m)
		stales(t, m, math.MinInt)
		sounds(t, m, api.OK)
		for _, head := range []int64{1, 2, 3, 8, -1, math.MinInt64, math.MaxInt64} {
			numbers[1] = head
			m := lay(t, 20, numbers...)
			isLost(t, m)
			has(t, m)
			waits(t, m)
		}
	}
}

func TestHeadNought(t *testing.T) {
	for _, many := range []int{1, 2, 64, 199} {
		m := memory(t, 0, 9, make([]api.Rec, many)...)
		reaches(t, m)
		stales(t, m, math.MinInt)
		for k := range many {
			store(t, m, at(k)+api.Next, int64(at((k+1)%many)))
		}
		reaches(t, m)
	}
}

// TestEachOrder has each list that five records can stand in, whoever else is off it.
func TestEachOrder(t *testing.T) {
	for many := 1; many <= 5; many++ {
		orders(many, func(order []int) {
			m := linked(t, many, order...)
			reaches(t, m, addresses(order...)...)
			has(t, m, addresses(rising(many)...)...)
			waits(t, m)
			sounds(t, m, api.OK)
			stales(t, m, 0)
			stales(t, m, -1, addresses(order...)[min(1, len(order)):]...)
		})
	}
}

func TestReachOfAllThatThereAre(t *testing.T) {
	for _, many := range []int{64, 65, 198, 199} {
		up := rising(many)
		down := slices.Clone(up)
		slices.Reverse(down)
		var leaps []int
		for i := range many {
			leaps = append(leaps, i*47%many)
		}
		for _, order := range [][]int{up, down, leaps} {
			m := linked(t, many, order...)
			reaches(t, m, addresses(order...)...)
			has(t, m, addresses(up...)...)
			sounds(t, m, api.OK)
			stales(t, m, -1, addresses(order...)[1:]...)
			store(t, m, at(order[many-1])+api.Next, int64(at(order[0])))
			isLost(t, m)
		}
	}
}

// TestReachAsksForNothingElse: LOCK, PASS, and all that is no NEXT may hold whatever there is.
func TestReachAsksForNothingElse(t *testing.T) {
	for _, v := range append([]int64{0, 3, 8, 13}, nowhere...) {
		m := linked(t, 4, 2, 0, 3)
		for _, a := range []int{api.Lock, api.Pass} {
			store(t, m, a, v)
		}
		for k := range 4 {
			for _, a := range []int{api.Req, api.Active, api.Age, api.Told} {
				store(t, m, at(k)+a, v)
			}
		}
		store(t, m, at(1)+api.Next, v)
		reaches(t, m, 13, 3, 18)
		has(t, m, 3, 8, 13, 18)
	}
}

// TestNoRecord leads HEAD, and each NEXT of a list, to where no record is.
func TestNoRecord(t *testing.T) {
	for _, order := range [][]int{nil, {0}, {3}, {1, 0}, {4, 1, 2}, {3, 0, 4, 1, 2}} {
		for _, v := range nowhere {
			cell := api.Head
			for n := range len(order) + 1 {
				m := linked(t, 5, order...)
				store(t, m, cell, v)
				isLost(t, m)
				has(t, m, 3, 8, 13, 18, 23)
				if n < len(order) {
					cell = at(order[n]) + api.Next
				}
			}
		}
	}
}

// TestRecordThatIsNotThereYet: a list leads to it, and is whole from its last cell on, not sooner.
func TestRecordThatIsNotThereYet(t *testing.T) {
	for _, order := range [][]int{{2}, {2, 0}, {0, 2}, {1, 2, 0}, {1, 0, 2}} {
		m := lay(t, 10, linked(t, 3, order...).Cells()[:at(2)]...)
		if order[0] != 2 {
			store(t, m, at(order[0])+api.Next, int64(at(order[1])))
		}
		for n := range 5 {
			isLost(t, m)
			has(t, m, 3, 8)
			more(t, m, 1)
			store(t, m, at(2)+n, linked(t, 3, order...).Cells()[at(2)+n])
		}
		reaches(t, m, addresses(order...)...)
		has(t, m, 3, 8, 13)
		more(t, m, 4)
		has(t, m, 3, 8, 13)
		more(t, m, 1)
		has(t, m, 3, 8, 13, 18)
		sounds(t, m, api.OK)
	}
}

// TestRound leads each NEXT of a list back to each record that is on it ahead of it, and to itself.
func TestRound(t *testing.T) {
	for _, order := range [][]int{{0}, {4}, {1, 0}, {0, 1}, {4, 1, 2}, {3, 0, 4, 1, 2}} {
		for n, k := range order {
			for _, back := range order[:n+1] {
				m := linked(t, 5, order...)
				store(t, m, at(k)+api.Next, int64(at(back)))
				isLost(t, m)
				has(t, m, 3, 8, 13, 18, 23)
				store(t, m, at(k)+api.Next, 0)
				reaches(t, m, addresses(order[:n+1]...)...)
			}
		}
	}
}

// TestShortcut leads a NEXT further on: who is left out is not told of.
func TestShortcut(t *testing.T) {
	m := linked(t, 5, 3, 0, 4, 1, 2)
	store(t, m, at(0)+api.Next, int64(at(1)))
	reaches(t, m, 18, 3, 8, 13)
	sounds(t, m, api.ErrGone)
	store(t, m, api.Head, int64(at(1)))
	reaches(t, m, 8, 13)
}

func TestRecords(t *testing.T) {
	for top := range 1001 {
		m := lay(t, 1000-top, make([]int64, top)...)
		var want []int
		for a := 3; a+5 <= top; a += 5 {
			want = append(want, a)
		}
		has(t, m, want...)
	}
}

func TestRecordsWhateverTheyHold(t *testing.T) {
	for _, v := range append([]int64{0, 3, 8}, nowhere...) {
		for top, want := range map[int][]int{3: nil, 7: nil, 8: {3}, 12: {3}, 13: {3, 8}, 20: {3, 8, 13}} {
			has(t, lay(t, 30, slices.Repeat([]int64{v}, top)...), want...)
		}
	}
}

// requests are some REQ, and whether each waits.
var requests = []struct {
	req int64
	is  bool
}{
	{1, true}, {2, true}, {5, true}, {256, true}, {1 << 32, true}, {549755815682, true}, {1 << 40, true}, {1<<40 + 1, true}, {math.MaxInt64, true},
	{0, false}, {-1, false}, {-2, false}, {-256, false}, {-1 << 32, false}, {math.MinInt64 + 1, false}, {math.MinInt64, false},
}

func TestWaitingOfEachRequest(t *testing.T) {
	for _, c := range requests {
		for _, active := range []int64{0, 1, 2, -1} {
			for _, order := range [][]int{nil, {1}, {0, 1, 2}, {2, 0}} {
				m := linked(t, 3, order...)
				store(t, m, at(1)+api.Active, active)
				store(t, m, at(1)+api.Req, c.req)
				if c.is {
					waits(t, m, 8)
				} else {
					waits(t, m)
				}
			}
		}
	}
}

// TestWaitingRises, whatever the list's order is, be it whole or not.
func TestWaitingRises(t *testing.T) {
	for who := range 32 {
		for _, order := range [][]int{nil, {4, 3, 2, 1, 0}, {2, 4, 0}, {3}} {
			m := linked(t, 5, order...)
			var want []int
			for k := range 5 {
				if who>>k&1 == 1 {
					store(t, m, at(k)+api.Req, int64(9-k))
					want = append(want, at(k))
				} else {
					store(t, m, at(k)+api.Req, int64(-k))
				}
			}
			waits(t, m, want...)
			store(t, m, api.Head, 4)
			waits(t, m, want...)
			store(t, m, api.Head, 13)
			store(t, m, 13+api.Next, 13)
			waits(t, m, want...)
		}
	}
}

// TestWaitingAsksForNothingElse: no other cell makes anybody wait.
func TestWaitingAsksForNothingElse(t *testing.T) {
	m := memory(t, 7, 7, api.Rec{Active: 7, Age: 7, Next: 7, Told: 7}, api.Rec{Req: -1, Active: 7, Age: 7, Next: 7, Told: 7}, api.Rec{Req: 7})
	waits(t, m, 13)
}

// threeOf is a list of the second, the third and the first record, each of which is stale at the pass 9 from the age 3 on down.
func threeOf(t *testing.T) *cells.Memory {
	t.Helper()
	m := linked(t, 4, 1, 2, 0)
	store(t, m, api.Pass, 9)
	for k := range 3 {
		store(t, m, at(k)+api.Age, 5)
	}
	return m
}

func TestStale(t *testing.T) {
	m := threeOf(t)
	for _, age := range []int{math.MinInt, -1000, -1, 0, 1, 2, 3} {
		stales(t, m, age, 13, 3)
	}
	for _, age := range []int{4, 5, 9, 1000, math.MaxInt} {
		stales(t, m, age)
	}
}

// TestStaleOfEachCondition breaks one of them alone, of each record of the list.
func TestStaleOfEachCondition(t *testing.T) {
	for _, c := range []struct {
		name   string
		cell   int
		number int64
		is     bool
	}{
		{"ACTIVE 0", api.Active, 0, false}, {"ACTIVE 2", api.Active, 2, false}, {"ACTIVE -1", api.Active, -1, false}, {"ACTIVE 3", api.Active, 3, false}, {"ACTIVE 2^32 + 1", api.Active, 1<<32 + 1, false}, {"ACTIVE 1", api.Active, 1, true},
		{"REQ Closed", api.Req, api.Closed, false}, {"REQ -2", api.Req, -2, false}, {"REQ 1", api.Req, 1, false}, {"REQ 5", api.Req, 5, false}, {"REQ 2^32", api.Req, 1 << 32, false}, {"REQ 0", api.Req, 0, true},
		{"AGE 6, just at age", api.Age, 6, false}, {"AGE 7", api.Age, 7, false}, {"AGE 10", api.Age, 10, false}, {"AGE 5, just above it", api.Age, 5, true}, {"AGE 0", api.Age, 0, true}, {"AGE -1", api.Age, -1, true},
		{"TOLD 7", api.Told, 7, true},
	} {
		for n, k := range []int{1, 2, 0} {
			m := threeOf(t)
			store(t, m, at(k)+c.cell, c.number)
			want := []int{13, 3}
			if n > 0 && !c.is {
				want = slices.Delete(want, n-1, n)
			}
			stales(t, m, 3, want...)
			if t.Failed() {
				t.Fatalf("of %s of the record %d", c.name, k)
			}
		}
	}
}

// TestStaleOfTheFirstOne: it is not told of, however old it is, alone or not.
func TestStaleOfTheFirstOne(t *testing.T) {
	for _, age := range ages {
		stales(t, memory(t, 3, math.MaxInt64, api.Rec{Active: 1}), age)
		stales(t, memory(t, 8, 9, api.Rec{Active: 1, Age: -9}, api.Rec{Active: 1, Age: -9}), age)
	}
	stales(t, memory(t, 8, 9, api.Rec{Active: 1, Age: -9}, api.Rec{Active: 1, Age: -9, Next: 3}), 17, 3)
	stales(t, memory(t, 3, 9, api.Rec{Active: 1, Age: -9, Next: 8}, api.Rec{Active: 1, Age: -9}), 17, 8)
	stales(t, memory(t, 3, 9, api.Rec{Active: 1, Age: -9, Next: 8}, api.Rec{Active: 1, Age: -9}), 18)
}

// TestStaleOfTheFarthestNumbers: differences go round, and age may be any int.
func TestStaleOfTheFarthestNumbers(t *testing.T) {
	const least, greatest = math.MinInt64, math.MaxInt64
	for _, c := range []struct {
		pass, age, less int64
	}{
		{0, 0, 0}, {1, 0, 1}, {0, 1, -1}, {2, 1, 1}, {1000, 0, 1000}, {0, 1000, -1000},
		{greatest, 0, greatest}, {0, greatest, -greatest}, {least, 0, least}, {0, least, least},
		{greatest, greatest, 0}, {least, least, 0}, {greatest, least, -1}, {least, greatest, 1},
		{greatest, -1, least}, {-1, greatest, least}, {least, 1, greatest}, {1, least, least + 1}, {-1, least, greatest}, {-2, greatest, greatest},
		{1 << 32, 0, 1 << 32}, {0, 1 << 32, -1 << 32}, {1<<40 + 5, 5, 1 << 40},
	} {
		m := memory(t, 3, c.pass, api.Rec{Active: 1, Next: 8}, api.Rec{Active: 1, Age: c.age})
		for _, age := range append([]int64{c.less - 1, c.less, c.less + 1}, least, least+1, -1, 0, 1, greatest-1, greatest) {
			if c.less > age {
				stales(t, m, int(age), 8)
			} else {
				stales(t, m, int(age))
			}
		}
	}
}

// TestStaleIsToldByTheList: in its order, and only who is on it.
func TestStaleIsToldByTheList(t *testing.T) {
	orders(4, func(order []int) {
		m := linked(t, 4, order...)
		for k := range 4 {
			store(t, m, at(k)+api.Active, 1)
			store(t, m, at(k)+api.Age, int64(-k))
		}
		var want []int
		for n, k := range order {
			if n > 0 && k > 1 {
				want = append(want, at(k))
			}
		}
		stales(t, m, 1, want...)
	})
}

// TestStaleOfWhoIsLost: a list that is broken at its very end tells of nobody.
func TestStaleOfWhoIsLost(t *testing.T) {
	for _, v := range []int64{3, 8, 13, 1, 4, 18 + 5, -1, math.MaxInt64} {
		m := threeOf(t)
		stales(t, m, 3, 13, 3)
		store(t, m, at(0)+api.Next, v)
		isLost(t, m)
	}
}

// TestSoundOfEachRecord has one record, on the list or off it, and all that it may hold.
func TestSoundOfEachRecord(t *testing.T) {
	for _, active := range []int64{0, 1, 2, 3, -1, 1 << 32, 1<<32 + 1, math.MinInt64, math.MaxInt64} {
		for _, req := range []int64{0, 1, 5, -1, -2, 1<<32 - 1, math.MinInt64, math.MaxInt64} {
			there, off := api.OK, api.OK
			if active == 0 {
				there = api.ErrIdle
			}
			if active == 1 && req != -1 {
				off = api.ErrGone
			}
			r := api.Rec{Req: req, Active: active, Age: 1, Told: 1}
			sounds(t, memory(t, 3, 1, r), there)
			sounds(t, memory(t, 0, 1, r), off)
			first := api.Rec{Active: 1, Next: 8}
			sounds(t, memory(t, 3, 1, first, r), there)
			first.Next = 0
			sounds(t, memory(t, 3, 1, first, r), off)
			first.Next = 13
			sounds(t, memory(t, 3, 1, first, r, api.Rec{Active: 1}), off)
			sounds(t, memory(t, 3, 1, first, r, api.Rec{Active: 2}), off)
		}
	}
}

// TestSoundOfEachPlace has what is wrong of each record of four, wherever it stands.
func TestSoundOfEachPlace(t *testing.T) {
	orders(4, func(order []int) {
		for k := range 4 {
			m := linked(t, 4, order...)
			sounds(t, m, api.OK)
			if slices.Contains(order, k) {
				store(t, m, at(k)+api.Active, 0)
				sounds(t, m, api.ErrIdle)
				store(t, m, at(k)+api.Active, 2)
				sounds(t, m, api.OK)
				continue
			}
			store(t, m, at(k)+api.Active, 1)
			sounds(t, m, api.ErrGone)
			store(t, m, at(k)+api.Req, api.Closed)
			sounds(t, m, api.OK)
			store(t, m, at(k)+api.Active, 2)
			sounds(t, m, api.OK)
			store(t, m, at(k)+api.Req, 7)
			sounds(t, m, api.OK)
		}
	})
}

// TestSoundTellsTheFirstError: two of them, or all three, at once, whichever record is the lower one.
func TestSoundTellsTheFirstError(t *testing.T) {
	for _, order := range [][]int{{1}, {2}, {1, 2}, {2, 1}} {
		lost := []int64{4, -1, 23, math.MinInt64}
		for _, a := range addresses(order...) {
			lost = append(lost, int64(a))
		}
		last := at(order[len(order)-1]) + api.Next
		idle := func(m *cells.Memory) { store(t, m, at(order[0])+api.Active, 0) }
		gone := func(m *cells.Memory) {
			store(t, m, at(0)+api.Active, 1)
			store(t, m, at(3)+api.Active, 1)
		}
		m := linked(t, 4, order...)
		idle(m)
		gone(m)
		sounds(t, m, api.ErrIdle)
		for _, v := range lost {
			m := linked(t, 4, order...)
			store(t, m, last, v)
			sounds(t, m, api.ErrList)
			idle(m)
			sounds(t, m, api.ErrList)
			gone(m)
			sounds(t, m, api.ErrList)
			m = linked(t, 4, order...)
			store(t, m, last, v)
			gone(m)
			sounds(t, m, api.ErrList)
		}
	}
}

// TestSoundOfWhatTheListIsNotComeTo: behind a place at which it is lost nobody is told of, and the list is not whole all the same.
func TestSoundOfWhatTheListIsNotComeTo(t *testing.T) {
	m := linked(t, 4, 3, 2, 1, 0)
	store(t, m, at(2)+api.Next, 5)
	sounds(t, m, api.ErrList)
	store(t, m, at(2)+api.Next, 0)
	sounds(t, m, api.ErrGone)
	store(t, m, at(1)+api.Req, api.Closed)
	sounds(t, m, api.ErrGone)
	store(t, m, at(0)+api.Req, api.Closed)
	sounds(t, m, api.OK)
	store(t, m, at(3)+api.Req, api.Closed)
	sounds(t, m, api.OK)
}

// hold is what each of two records holds, in turn: REQ and ACTIVE.
var hold = [][2]int64{{-1, 0}, {-1, 1}, {-1, 2}, {0, 0}, {0, 1}, {0, 2}, {1, 0}, {1, 1}, {1, 2}, {7, 1}}

// follow is the list as it is told by hops, of which there are fewer than records if it is whole.
func follow(l []int64) ([]int, bool) {
	var met []int
	many := (len(l) - 3) / 5
	v := l[1]
	for range many {
		if v == 0 {
			return met, true
		}
		if v < 3 || (v-3)%5 != 0 || v+5 > int64(len(l)) {
			return nil, false
		}
		met = append(met, int(v))
		v = l[v+3]
	}
	if v != 0 {
		return nil, false
	}
	return met, true
}

// TestAgainstHops holds all calls to what is worked out in another way, of each memory of two records that hold one of some numbers each.
func TestAgainstHops(t *testing.T) {
	for _, head := range []int64{0, 3, 8, 4, 13} {
		for _, one := range []int64{0, 3, 8, 7} {
			for _, two := range []int64{0, 3, 8, -1} {
				for _, x := range hold {
					for _, y := range hold {
						m := memory(t, head, 5, api.Rec{Req: x[0], Active: x[1], Age: 3, Next: one}, api.Rec{Req: y[0], Active: y[1], Age: 4, Next: two})
						against(t, m)
					}
				}
			}
		}
	}
}

// against checks one memory, of whole records, and what holds: of a list that is sound, who waits can be found, or is not active.
func against(t *testing.T, m *cells.Memory) {
	t.Helper()
	l := m.Cells()
	list, whole := follow(l)
	if whole {
		reaches(t, m, list...)
	} else {
		isLost(t, m)
	}
	var there, asks []int
	idle, gone := false, false
	for a := 3; a < len(l); a += 5 {
		there = append(there, a)
		if l[a] > 0 {
			asks = append(asks, a)
		}
		on := slices.Contains(list, a)
		idle = idle || on && l[a+1] == 0
		gone = gone || !on && l[a+1] == 1 && l[a] != -1
	}
	has(t, m, there...)
	waits(t, m, asks...)
	for age := range 4 {
		var old []int
		for n, a := range list {
			if n > 0 && l[a+1] == 1 && l[a] == 0 && l[2]-l[a+2] > int64(age) {
				old = append(old, a)
			}
		}
		stales(t, m, age, old...)
	}
	switch {
	case !whole:
		sounds(t, m, api.ErrList)
	case idle:
		sounds(t, m, api.ErrIdle)
	case gone:
		sounds(t, m, api.ErrGone)
	default:
		sounds(t, m, api.OK)
		found(t, m)
	}
}

// found checks what holds of a list that is sound.
func found(t *testing.T, m *cells.Memory) {
	t.Helper()
	l, _ := Reach(m)
	for _, a := range Waiting(m) {
		if r, _ := record.See(m, a); !slices.Contains(l, a) && r.Active == 1 {
			t.Errorf("of %v who waits at %d is active, and can't be found", m.Cells(), a)
		}
	}
}

// TestRangeThatIsBrokenOff goes no further: Go itself panics if a function goes on, and a walk met nobody behind.
func TestRangeThatIsBrokenOff(t *testing.T) {
	m := linked(t, 5, 3, 0, 4, 1, 2)
	want := addresses(3, 0, 4, 1, 2)
	for n := 1; n <= 5; n++ {
		w := from(m)
		var got []int
		for a, r := range w.along {
			if see, _ := record.See(m, a); r != see {
				t.Errorf("the record at %d is %v, not %v", a, r, see)
			}
			if got = append(got, a); len(got) == n {
				break
			}
		}
		if !slices.Equal(got, want[:n]) || len(w.met) != n || w.lost {
			t.Errorf("broken off at %d, a walk went to %v, met %v, and is lost: %v", n, got, w.met, w.lost)
		}
		got = nil
		for a := range all(m) {
			if got = append(got, a); len(got) == n {
				break
			}
		}
		if !slices.Equal(got, addresses(rising(n)...)) {
			t.Errorf("broken off at %d, all went to %v", n, got)
		}
	}
}

// TestRangeThatIsBrokenOffAheadOfTheEnd: what is wrong behind it is not come to.
func TestRangeThatIsBrokenOffAheadOfTheEnd(t *testing.T) {
	for _, v := range []int64{18, 3, 4, -1} {
		m := linked(t, 5, 3, 0)
		store(t, m, at(0)+api.Next, v)
		w := from(m)
		for a := range w.along {
			if a == at(0) {
				break
			}
		}
		if w.lost || len(w.met) != 2 {
			t.Errorf("a walk that is broken off is lost: %v, and met %v", w.lost, w.met)
		}
	}
}

// TestRangeEndsByItself: of a list that goes round, and of one that leads nowhere, nobody breaks it off.
func TestRangeEndsByItself(t *testing.T) {
	for v, lost := range map[int64]bool{0: false, 18: true, 3: true, 13: true, 4: true, 28: true, -1: true} {
		m := linked(t, 5, 3, 0, 2)
		store(t, m, at(2)+api.Next, v)
		w := from(m)
		var got []int
		for a := range w.along {
			got = append(got, a)
		}
		if !slices.Equal(got, addresses(3, 0, 2)) || len(w.met) != 3 || w.lost != lost {
			t.Errorf("behind NEXT %d: a walk went to %v, met %v, and is lost: %v", v, got, w.met, w.lost)
		}
	}
}

// TestLooksLeaveTheMemory: no step is counted, no cell is written, and no room is taken.
func TestLooksLeaveTheMemory(t *testing.T) {
	for _, m := range []*cells.Memory{
		lay(t, 10), lay(t, 9, 1), lay(t, 8, 1, 3), lay(t, 5, 1, 3, 2), lay(t, 5, 0, 3, 0, 5, 1, 0, 0, 0),
		linked(t, 5, 3, 0, 4, 1, 2), linked(t, 64, rising(64)...), threeOf(t), memory(t, 3, 9, api.Rec{Req: 5, Next: 3}, api.Rec{Active: 1}),
	} {
		was, steps := m.Cells(), m.Steps()
		for range 3 {
			Reach(m)
			Records(m)
			Waiting(m)
			for _, age := range ages {
				Stale(m, age)
			}
			Sound(m)
		}
		if got := m.Cells(); !slices.Equal(got, was) {
			t.Errorf("Cells are %v, not %v", got, was)
		}
		if got := m.Steps(); got != steps {
			t.Errorf("of %v %d steps were counted", was, got-steps)
		}
		if got := m.Top(); got != len(was) {
			t.Errorf("Top is %d, not %d", got, len(was))
		}
	}
}

// told are the lists that are told of a memory.
func told(m *cells.Memory) [][]int {
	l, _ := Reach(m)
	return [][]int{l, Records(m), Waiting(m), Stale(m, 3)}
}

// same checks lists that were told.
func same(t *testing.T, got, want [][]int) {
	t.Helper()
	if !slices.EqualFunc(got, want, slices.Equal) {
		t.Errorf("what was told is %v, not %v", got, want)
	}
}

func TestWhatIsToldStays(t *testing.T) {
	m := threeOf(t)
	store(t, m, at(3)+api.Req, 6)
	want := [][]int{{8, 13, 3}, {3, 8, 13, 18}, {18}, {13, 3}}
	first := told(m)
	same(t, first, want)
	for a := range m.Top() {
		store(t, m, a, 8)
	}
	same(t, first, want)
	for _, l := range first {
		for i := range l {
			l[i] = -7
		}
		for i := range l[:cap(l)] {
			l[:cap(l)][i] = -7
		}
	}
	same(t, told(threeOf(t)), [][]int{{8, 13, 3}, {3, 8, 13, 18}, nil, {13, 3}})
	has(t, m, 3, 8, 13, 18)
	waits(t, m, 3, 8, 13, 18)
	isLost(t, m)
}

// TestTwoAnswersShareNothing: the same call twice, of the same memory, of which one answer is written to.
func TestTwoAnswersShareNothing(t *testing.T) {
	m := threeOf(t)
	store(t, m, at(3)+api.Req, 6)
	want := [][]int{{8, 13, 3}, {3, 8, 13, 18}, {18}, {13, 3}}
	one, two := told(m), told(m)
	for _, l := range one {
		for i := range l[:cap(l)] {
			l[:cap(l)][i] = -7
		}
	}
	same(t, two, want)
	same(t, told(m), want)
}

func TestTwoMemoriesKnowNothingOfOneAnother(t *testing.T) {
	a, b := linked(t, 3, 2, 0), linked(t, 3, 0, 1, 2)
	c := a.Copy()
	store(t, a, 8, 5)
	store(t, a, 8+api.Next, 0)
	store(t, a, at(0)+api.Next, 8)
	reaches(t, b, 3, 8, 13)
	waits(t, b)
	sounds(t, b, api.OK)
	reaches(t, c, 13, 3)
	waits(t, c)
	reaches(t, a, 13, 3, 8)
	waits(t, a, 8)
	sounds(t, a, api.ErrIdle)
	store(t, c, at(0)+api.Next, 4)
	isLost(t, c)
	reaches(t, a, 13, 3, 8)
	reaches(t, b, 3, 8, 13)
	sounds(t, a, api.ErrIdle)
}

func TestNilMemory(t *testing.T) {
	for _, m := range []*cells.Memory{nil, (*cells.Memory)(nil).Copy(), record.Open(0)} {
		reaches(t, m)
		has(t, m)
		waits(t, m)
		for _, age := range ages {
			stales(t, m, age)
		}
		sounds(t, m, api.OK)
	}
}

// TestMemoryThatGrows: a list is built as threads build it, one record ahead of all the others.
func TestMemoryThatGrows(t *testing.T) {
	m := record.Open(64)
	reaches(t, m)
	has(t, m)
	var want []int
	for k := range 64 {
		more(t, m, 5)
		has(t, m, addresses(rising(k+1)...)...)
		reaches(t, m, want...)
		store(t, m, at(k)+api.Req, int64(k+1))
		store(t, m, at(k)+api.Active, 2)
		sounds(t, m, api.OK)
		if k > 0 {
			store(t, m, at(k)+api.Next, int64(at(k-1)))
		}
		store(t, m, api.Head, int64(at(k)))
		sounds(t, m, api.OK)
		store(t, m, at(k)+api.Active, 1)
		want = append([]int{at(k)}, want...)
		reaches(t, m, want...)
		waits(t, m, addresses(rising(k+1)...)...)
		sounds(t, m, api.OK)
		found(t, m)
	}
}

// FuzzList holds memories of any numbers to hops, and any age to the difference.
func FuzzList(f *testing.F) {
	f.Add([]byte{0, 3, 9, 5, 1, 2, 8, 0, 0, 1, 3, 0, 0})
	f.Add([]byte{0, 13, 9, 5, 1, 2, 8, 0, 0, 1, 3, 0, 0, 0, 1, 1, 3, 0})
	f.Add([]byte{0, 8, 9, 0, 1, 2, 13, 0, 0, 1, 3, 3, 0, 255, 1, 1, 0, 0})
	f.Add([]byte{0, 8, 9, 0, 0, 2, 13, 0, 0, 1, 3, 3, 0, 255, 1, 1, 0, 0})
	f.Add([]byte{0, 3, 250, 0, 0, 2, 0, 0, 0, 1, 3, 3, 0, 255, 1, 1, 0, 0})
	f.Fuzz(func(t *testing.T, bytes []byte) {
		if len(bytes) < 3 || len(bytes) > 1000 {
			return
		}
		var numbers []int64
		for _, b := range bytes[:3+(len(bytes)-3)/5*5] {
			numbers = append(numbers, int64(int8(b)))
		}
		m := lay(t, 0, numbers...)
		steps := m.Steps()
		against(t, m)
		if m.Steps() != steps {
			t.Errorf("%d steps were counted", m.Steps()-steps)
		}
	})
}
