package object

import (
	"reaper/api"
	"reaper/coin"
	"reaper/ends"
	"reaper/match"
	"reaper/ring"
	"reaper/skip"
	"reaper/sorted"
	"reaper/stack"
)

// holder holds an object's items: batch does operations together, each does them one by one, and again is one that is the same.
type holder interface {
	Items() []int32
	Len() int
	batch(c *coin.Coin, ops []api.Op) []api.Res
	each(c *coin.Coin, ops []api.Op) []api.Res
	again() holder
}

// leveled is a holder whose items are on levels.
type leveled interface {
	Level(k int) []int32
}

// holders make an empty one of each object.
func holders() map[uint8]func(most int) holder {
	return map[uint8]func(int) holder{
		api.Stack: func(most int) holder { return pile{stack.New(most)} },
		api.Deque: func(most int) holder { return row{ring.New(most)} },
		api.Heap:  func(most int) holder { return heap{skip.New(most)} },
	}
}

// pile holds the items of a stack.
type pile struct {
	*stack.Stack
}

func (p pile) batch(_ *coin.Coin, ops []api.Op) []api.Res { return match.Apply(p.Stack, ops) }
func (p pile) each(_ *coin.Coin, ops []api.Op) []api.Res  { return inTurn(ops, p.Do) }
func (p pile) again() holder                              { return pile{p.Copy()} }

// row holds the items of a deque.
type row struct {
	*ring.Ring
}

func (r row) batch(_ *coin.Coin, ops []api.Op) []api.Res { return ends.Apply(r.Ring, ops) }
func (r row) each(_ *coin.Coin, ops []api.Op) []api.Res  { return inTurn(ops, r.Do) }
func (r row) again() holder                              { return row{r.Copy()} }

// heap holds the items of a heap. One by one is by its order too, which is why it is not in turn.
type heap struct {
	*skip.Skip
}

func (h heap) batch(c *coin.Coin, ops []api.Op) []api.Res { return sorted.Apply(h.Skip, c, ops) }
func (h heap) each(c *coin.Coin, ops []api.Op) []api.Res  { return sorted.Plain(h.Skip, c, ops) }
func (h heap) again() holder                              { return heap{h.Copy()} }

// inTurn is what operations are told that are done one behind the other.
func inTurn(ops []api.Op, do func(api.Op) api.Res) []api.Res {
	told := make([]api.Res, len(ops))
	for i, o := range ops {
		told[i] = do(o)
	}
	return told
}
