package sweep

import (
	"slices"
	"testing"

	"reaper/api"
	"reaper/cells"
	"reaper/list"
)

// swept is one sweep of a thread that has the lock: how it is behind it, and the places that it came to.
func swept(t *testing.T, m *cells.Memory, age int, x api.Thread) (api.Thread, []int) {
	t.Helper()
	var places []int
	for Sweeps(x) {
		if len(places) > 1000 {
			t.Fatalf("it does not end: %v", places)
		}
		places = append(places, x.Pc)
		x = Step(m, age, x)
	}
	return x, places
}

// many is a list from 13 on: idle for long (and first), idle for long, waits, idle for long, not marked yet, idle not for long, closed but not cut off, idle for long.
// Off the list there are one that waits, and one that is idle for long. PASS is 9.
func many() []int64 {
	return []int64{
		5, 13, 9, // LOCK, HEAD, PASS
		w(1, 5), 1, 1, 23, 70, // 3: waits
		0, 1, 2, 3, 71, // 8: idle for long
		0, 1, 0, 8, 72, // 13: the first one
		w(1, 7), 0, 0, 73, 73, // 18: off the list, and waits
		0, 1, 5, 28, 74, // 23: idle for long
		0, 2, 0, 38, 75, // 28: not marked yet
		0, 0, 0, 76, 76, // 33: off the list
		0, 1, 6, 43, 77, // 38: just not idle for long
		-1, 1, 0, 48, 78, // 43: closed
		0, 1, 0, 0, 79, // 48: idle for long, and last
	}
}

// onList checks which records can be come to, in the list's order.
func onList(t *testing.T, m *cells.Memory, want ...int) {
	t.Helper()
	if got, is := list.Reach(m); !is || !slices.Equal(got, want) {
		t.Errorf("on the list are %v, %v, not %v", got, is, want)
	}
}

func TestOneSweep(t *testing.T) {
	m := lay(t, 0, many()...)
	steps := m.Steps()
	in := api.Thread{Id: 4, Pc: 40, Rec: 3, Seq: 1, Word: w(1, 5), Look: 1, Cur: 2, Prev: 4, Nth: 7, Many: 10, Pass: 9, Runs: 2, Batch: []api.Item{{Rec: 3, Word: 4, Res: 5}}}
	x, places := swept(t, m, 3, in)
	want := []int{
		40,
		41, 42, 43, 44, 45, 46, 47, // 8
		41, 42, 43, 44, // 3
		41, 42, 43, 44, 45, 46, 47, // 23
		41, 42, // 28
		41, 42, 43, // 38
		41, 42, 43, 44, // 43
		41, 42, 43, 44, 45, 46, 47, // 48
		41, 48,
	}
	if !slices.Equal(places, want) {
		t.Errorf("its places are\n%v, not\n%v", places, want)
	}
	behind := in
	behind.Pc, behind.Look, behind.Cur, behind.Prev = 11, 0, 48, 43
	if !same(x, behind) {
		t.Errorf("then it is\n%+v, not\n%+v", x, behind)
	}
	onList(t, m, 13, 3, 28, 38, 43)
	all := []int64{
		0, 13, 9,
		w(1, 5), 1, 1, 28, 70,
		-1, 0, 2, 3, 71,
		0, 1, 0, 3, 72,
		w(1, 7), 0, 0, 73, 73,
		-1, 0, 5, 28, 74,
		0, 2, 0, 38, 75,
		0, 0, 0, 76, 76,
		0, 1, 6, 43, 77,
		-1, 1, 0, 0, 78,
		-1, 0, 0, 0, 79,
	}
	if !slices.Equal(m.Cells(), all) {
		t.Errorf("the cells are\n%v, not\n%v", m.Cells(), all)
	}
	if m.Steps() != steps+len(places) {
		t.Errorf("%d steps of %d places", m.Steps()-steps, len(places))
	}
}

func TestTwoSweeps(t *testing.T) {
	m := lay(t, 0, many()...)
	in := api.Thread{Id: 4, Pc: 40, Pass: 9}
	swept(t, m, 3, in)
	once := m.Cells()
	x, places := swept(t, m, 3, in)
	if !slices.Equal(m.Cells(), once) || !slices.Equal(places, []int{40, 41, 42, 43, 44, 41, 42, 41, 42, 43, 41, 42, 43, 44, 41, 48}) {
		t.Errorf("the second one comes to %v, and leaves\n%v, not\n%v", places, m.Cells(), once)
	}
	if !same(x, api.Thread{Id: 4, Pc: 11, Pass: 9, Cur: 43, Prev: 43}) {
		t.Errorf("the second one is %+v", x)
	}
	// What waited was served, what was not marked is by now, and the next pass makes another one idle for long.
	store(t, m, 3+api.Req, 0)
	store(t, m, 3+api.Age, 10)
	store(t, m, 28+api.Active, 1)
	x, places = swept(t, m, 3, api.Thread{Id: 4, Pc: 40, Pass: 10})
	if !slices.Equal(places, []int{40, 41, 42, 43, 41, 42, 43, 44, 45, 46, 47, 41, 42, 43, 44, 45, 46, 47, 41, 42, 43, 44, 41, 48}) || x.Pc != 11 {
		t.Errorf("the third one comes to %v, and is %+v", places, x)
	}
	onList(t, m, 13, 3, 43)
	// Nothing but the first one, and one that is closed already, is left where all are old.
	swept(t, m, -1, api.Thread{Pc: 40, Pass: 10})
	onList(t, m, 13, 43)
}

// TestFirstStays has lists of one record, and of the first one alone: it stays, however old it is.
func TestFirstStays(t *testing.T) {
	for _, first := range [][]int64{{0, 1, 0, 0, 5}, {0, 0, 0, 0, 5}, {0, 2, 0, 0, 5}, {-1, 1, 0, 0, 5}, {w(2, 0), 1, 0, 0, 5}} {
		l := append([]int64{7, 3, 99}, first...)
		m := lay(t, 0, l...)
		x, places := swept(t, m, -1000, api.Thread{Id: 6, Pc: 40, Pass: 99})
		l[api.Lock] = 0
		if !slices.Equal(m.Cells(), l) || !slices.Equal(places, []int{40, 41, 48}) {
			t.Errorf("of %v: %v, and the cells are %v", first, places, m.Cells())
		}
		if !same(x, api.Thread{Id: 6, Pc: 11, Pass: 99, Prev: 3}) {
			t.Errorf("of %v: it is %+v", first, x)
		}
	}
	m := lay(t, 0, 7, 0, 99, 0, 1, 0, 0, 5)
	x, places := swept(t, m, 0, api.Thread{Id: 6, Pc: 40, Pass: 99})
	if !slices.Equal(places, []int{40, 48}) || !same(x, api.Thread{Id: 6, Pc: 11, Pass: 99}) || !slices.Equal(m.Cells(), []int64{0, 0, 99, 0, 1, 0, 0, 5}) {
		t.Errorf("of an empty list: %v, %+v, %v", places, x, m.Cells())
	}
}

// TestAllButTheFirst has lists of 2 to 64 records that are all idle for long: the first one is left.
func TestAllButTheFirst(t *testing.T) {
	for n := 2; n <= api.MaxThreads; n++ {
		l := []int64{1, 3, 5}
		for k := range n {
			next := 8 + 5*k
			if k == n-1 {
				next = 0
			}
			l = append(l, 0, 1, 0, int64(next), 0)
		}
		m := lay(t, 0, l...)
		x, places := swept(t, m, 4, api.Thread{Pc: 40, Pass: 5})
		if len(places) != 7*(n-1)+3 || x.Pc != 11 {
			t.Errorf("of %d records: %d places, %+v", n, len(places), x)
		}
		onList(t, m, 3)
		for _, a := range list.Records(m)[1:] {
			if load(t, m, a+api.Req) != -1 || load(t, m, a+api.Active) != 0 {
				t.Errorf("of %d records: the one at %d is %v", n, a, m.Cells()[a:a+api.Size])
			}
		}
		if got := list.Sound(m); got != api.OK {
			t.Errorf("of %d records: Sound is %v", n, got)
		}
	}
}

// TestOff is what list.Stale tells of ahead of a sweep: those are off the list behind it, and nobody else is.
func TestOff(t *testing.T) {
	d := draws(17)
	offAtAll := 0
	for range 4000 {
		l, order := d.list(1 + d.below(9))
		m := lay(t, 0, l...)
		age := d.below(5) - 1
		stale := list.Stale(m, age)
		offAtAll += len(stale)
		swept(t, m, age, api.Thread{Pc: 40, Pass: l[api.Pass]})
		want := slices.DeleteFunc(slices.Clone(order), func(a int) bool { return slices.Contains(stale, a) })
		onList(t, m, want...)
		for _, a := range order {
			is := slices.Contains(stale, a)
			was, r := l[a:a+5], m.Cells()[a:a+5]
			if is && (r[0] != -1 || r[1] != 0) || !is && (r[0] != was[0] || r[1] != was[1]) || r[2] != was[2] || r[4] != was[4] {
				t.Fatalf("of %v, age %d, stale %v: the record at %d is %v", l, age, stale, a, r)
			}
		}
	}
	if offAtAll < 1000 {
		t.Errorf("only %d records were swept off at all", offAtAll)
	}
}
