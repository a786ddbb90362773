package list

import (
	"iter"

	"reaper/api"
	"reaper/cells"
	"reaper/record"
)

// walk is a way along a list: the records that it met, and whether it was lost.
type walk struct {
	m    *cells.Memory
	met  map[int]bool
	lost bool
}

// from is a walk that has not begun.
func from(m *cells.Memory) *walk {
	return &walk{m: m, met: map[int]bool{}}
}

// along goes through the records from HEAD on. It is lost where no record is, and where it was already, as it would go round from there.
func (w *walk) along(yield func(int, api.Rec) bool) {
	for v := cell(w.m, api.Head); v != 0; {
		a, r, is := see(w.m, v)
		if !is || w.met[a] {
			w.lost = true
			return
		}
		w.met[a] = true
		if !yield(a, r) {
			return
		}
		v = r.Next
	}
}

// all goes through all records, rising, be they on the list or off it.
func all(m *cells.Memory) iter.Seq2[int, api.Rec] {
	return func(yield func(int, api.Rec) bool) {
		for k := range record.Many(m) {
			a := record.Base(k)
			r, _ := record.See(m, a)
			if !yield(a, r) {
				return
			}
		}
	}
}

// see is the record whose address a cell holds. A number that is too great for an address must not be cut off to one.
func see(m *cells.Memory, v int64) (int, api.Rec, bool) {
	a := int(v)
	if int64(a) != v {
		return 0, api.Rec{}, false
	}
	r, is := record.See(m, a)
	return a, r, is
}

// cell is one of the first cells, or 0 if it is not there. All cells are asked for at once, as to load one would be a step.
func cell(m *cells.Memory, a int) int64 {
	if l := m.Cells(); a < len(l) {
		return l[a]
	}
	return 0
}
