package skip

import (
	"iter"

	"reaper/api"
)

// tower is an item and, of each level that it is on, the tower that is next to it; the level 1 is at 0. The one of a list's head has no item, and is on all levels.
type tower struct {
	v      int32
	height int
	next   [api.MaxLevel]*tower
}

// behind goes through all that stand behind a tower on a level that it is on.
func (t *tower) behind(at int) iter.Seq[*tower] {
	return func(yield func(*tower) bool) {
		for b := t.next[at]; b != nil; b = b.next[at] {
			if !yield(b) {
				return
			}
		}
	}
}

// place is where a batch stands: of each level, the last tower that is ahead of it.
type place [api.MaxLevel]*tower

// reach is the place behind a tower that is come to on its lowest levels, as many as said.
func (p place) reach(t *tower, levels int) place {
	for at := range levels {
		p[at] = t
	}
	return p
}

// past is the place behind all that are v or less; the one that it goes on from is not behind it. What is next on a level is further on than the place on all levels below, which is why it is reached on them too.
func (p place) past(v int32) place {
	for at := len(p) - 1; at >= 0; at-- {
		for t := range p[at].behind(at) {
			if t.v > v {
				break
			}
			p = p.reach(t, at+1)
		}
	}
	return p
}

// put links a tower in at the place, and is the place behind it.
func (p place) put(t *tower) place {
	for at := range t.height {
		t.next[at] = p[at].next[at]
		p[at].next[at] = t
	}
	return p.reach(t, t.height)
}
