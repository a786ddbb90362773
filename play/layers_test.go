// Every call of the chapters is held to its signature here: this does not compile if one drifts.
// It stands beside play because that is the top layer, and outside of the package so that it may import all of them.

package play_test

import (
	"reaper/api"
	"reaper/audit"
	"reaper/cells"
	"reaper/coin"
	"reaper/comb"
	"reaper/ends"
	"reaper/fair"
	"reaper/fc"
	"reaper/history"
	"reaper/list"
	"reaper/match"
	"reaper/object"
	"reaper/owner"
	"reaper/play"
	"reaper/record"
	"reaper/ring"
	"reaper/script"
	"reaper/search"
	"reaper/skip"
	"reaper/sorted"
	"reaper/spec"
	"reaper/stack"
	"reaper/sweep"
	"reaper/word"
	"reaper/world"
)

var _ func(api.Op) int64 = word.Op
var _ func(int64) (api.Op, bool) = word.OfOp
var _ func(api.Res) int64 = word.Res
var _ func(int64) (api.Res, bool) = word.OfRes
var _ func(int64) bool = word.Asks

var _ func(int) *cells.Memory = cells.New
var _ func(*cells.Memory, int) (int, api.Errno) = (*cells.Memory).Alloc
var _ func(*cells.Memory, int) (int64, api.Errno) = (*cells.Memory).Load
var _ func(*cells.Memory, int, int64) api.Errno = (*cells.Memory).Store
var _ func(*cells.Memory, int, int64, int64) (bool, api.Errno) = (*cells.Memory).Swap
var _ func(*cells.Memory) int = (*cells.Memory).Top
var _ func(*cells.Memory) int = (*cells.Memory).Steps
var _ func(*cells.Memory) []int64 = (*cells.Memory).Cells
var _ func(*cells.Memory) *cells.Memory = (*cells.Memory).Copy

var _ func([]byte) []api.Entry = script.Decode
var _ func([]api.Entry) ([]byte, api.Errno) = script.Encode
var _ func(int, int) []api.Entry = script.Rounds
var _ func([]api.Entry) int = script.Picks
var _ func([]int, ...api.Op) []api.Entry = script.Calls

var _ func(int) *stack.Stack = stack.New
var _ func(*stack.Stack, int32) bool = (*stack.Stack).Push
var _ func(*stack.Stack) (int32, bool) = (*stack.Stack).Pop
var _ func(*stack.Stack, api.Op) api.Res = (*stack.Stack).Do
var _ func(*stack.Stack) int = (*stack.Stack).Len
var _ func(*stack.Stack) int = (*stack.Stack).Most
var _ func(*stack.Stack) []int32 = (*stack.Stack).Items
var _ func(*stack.Stack) *stack.Stack = (*stack.Stack).Copy

var _ func(int) *ring.Ring = ring.New
var _ func(*ring.Ring, int32) bool = (*ring.Ring).PushL
var _ func(*ring.Ring, int32) bool = (*ring.Ring).PushR
var _ func(*ring.Ring) (int32, bool) = (*ring.Ring).PopL
var _ func(*ring.Ring) (int32, bool) = (*ring.Ring).PopR
var _ func(*ring.Ring, api.Op) api.Res = (*ring.Ring).Do
var _ func(*ring.Ring) int = (*ring.Ring).Len
var _ func(*ring.Ring) int = (*ring.Ring).Most
var _ func(*ring.Ring) []int32 = (*ring.Ring).Items
var _ func(*ring.Ring) *ring.Ring = (*ring.Ring).Copy

var _ func() *coin.Coin = coin.New
var _ func(*coin.Coin, ...uint8) = (*coin.Coin).Feed
var _ func(*coin.Coin) int = (*coin.Coin).Left
var _ func(*coin.Coin) bool = (*coin.Coin).Toss
var _ func(*coin.Coin) int = (*coin.Coin).Height
var _ func(*coin.Coin) *coin.Coin = (*coin.Coin).Copy

var _ func(int) *skip.Skip = skip.New
var _ func(*skip.Skip, int32, int) bool = (*skip.Skip).Insert
var _ func(*skip.Skip, []int32, []int) []bool = (*skip.Skip).Batch
var _ func(*skip.Skip) (int32, bool) = (*skip.Skip).Min
var _ func(*skip.Skip) int = (*skip.Skip).Len
var _ func(*skip.Skip) int = (*skip.Skip).Most
var _ func(*skip.Skip) []int32 = (*skip.Skip).Items
var _ func(*skip.Skip, int) []int32 = (*skip.Skip).Level
var _ func(*skip.Skip) *skip.Skip = (*skip.Skip).Copy

var _ func(uint8, int, []int32, api.Op) ([]int32, api.Res) = spec.Apply
var _ func(uint8, int, []int32, ...api.Op) ([]int32, []api.Res) = spec.Run
var _ func(uint8, []api.Op) []int = spec.Order
var _ func(uint8, int, []int32, []api.Op) ([]int32, []api.Res) = spec.Batch

var _ func(int, int, []api.Op) ([]int, []uint8) = match.Pairs
var _ func(int, int, []api.Op) int = match.Spared
var _ func(*stack.Stack, []api.Op) []api.Res = match.Apply

var _ func(int, int, []api.Op) ([]int, []uint8) = ends.Pairs
var _ func(int, int, []api.Op) int = ends.Spared
var _ func(*ring.Ring, []api.Op) []api.Res = ends.Apply

var _ func([]api.Op) []int = sorted.Order
var _ func(*skip.Skip, *coin.Coin, []api.Op) []api.Res = sorted.Apply
var _ func(*skip.Skip, *coin.Coin, []api.Op) []api.Res = sorted.Plain

var _ func(uint8, int, bool) *object.Object = object.New
var _ func(*object.Object, ...api.Op) []api.Res = (*object.Object).Do
var _ func(*object.Object, ...uint8) = (*object.Object).Feed
var _ func(*object.Object) []int32 = (*object.Object).Items
var _ func(*object.Object, int) []int32 = (*object.Object).Level
var _ func(*object.Object) int = (*object.Object).Len
var _ func(*object.Object) *object.Object = (*object.Object).Copy

var _ func(int) *cells.Memory = record.Open
var _ func(int) int = record.Base
var _ func(*cells.Memory) int = record.Many
var _ func(*cells.Memory, int) (int, bool) = record.Nth
var _ func(*cells.Memory, int) (api.Rec, bool) = record.See
var _ func(api.Rec) bool = record.Waits
var _ func(api.Rec) (api.Res, bool) = record.Told

var _ func(*cells.Memory) ([]int, bool) = list.Reach
var _ func(*cells.Memory) []int = list.Records
var _ func(*cells.Memory) []int = list.Waiting
var _ func(*cells.Memory, int) []int = list.Stale
var _ func(*cells.Memory) api.Errno = list.Sound

var _ func(api.Thread, api.Op) (api.Thread, bool) = owner.Begin
var _ func(*cells.Memory, api.Thread) (api.Thread, api.Res, bool) = owner.Step
var _ func(api.Thread) bool = owner.Asks

var _ func(*cells.Memory, *object.Object, int, api.Thread) (api.Thread, []api.Item) = comb.Step
var _ func(api.Thread) bool = comb.Serves

var _ func(*cells.Memory, int, api.Thread) api.Thread = sweep.Step
var _ func(api.Thread) bool = sweep.Sweeps

var _ func(api.Config) api.Errno = world.Right
var _ func(api.Config) *world.World = world.New
var _ func(*world.World, api.Entry) bool = (*world.World).Do
var _ func(*world.World) []api.Thread = (*world.World).Threads
var _ func(*world.World) *cells.Memory = (*world.World).Memory
var _ func(*world.World) []api.Event = (*world.World).Events
var _ func(*world.World) []api.Applied = (*world.World).Log
var _ func(*world.World) []int = (*world.World).Picks
var _ func(*world.World) []int32 = (*world.World).Items
var _ func(*world.World, int) []int32 = (*world.World).Level
var _ func(*world.World) *world.World = (*world.World).Copy

var _ func([]api.Event) []api.Span = history.Spans
var _ func(api.Span, api.Span) bool = history.Before
var _ func([]api.Span) int = history.Pending
var _ func(uint8, int, []api.Span, []api.Applied) api.Errno = history.Check

var _ func(uint8, int, []api.Span) ([]int, bool) = search.Find
var _ func(uint8, int, []api.Span, []int) bool = search.Fits

var _ func(int, int) int = fair.Session
var _ func(int, int, int) int = fair.Bound
var _ func([]int, []api.Span, int, int, int) bool = fair.Fair
var _ func(api.Config, []int, []api.Span, int) bool = fair.Held

var _ func(*cells.Memory, int) api.Errno = audit.Whole
var _ func(*cells.Memory, *cells.Memory) api.Errno = audit.Kept
var _ func(*cells.Memory, *cells.Memory, int) api.Errno = audit.Swept
var _ func(api.Config, []api.Entry) (api.Errno, int) = audit.Run

var _ func(api.Config, []api.Entry) (api.Run, api.Errno) = fc.Run
var _ func(api.Config, api.Run) api.Errno = fc.Witness
var _ func(api.Config, []api.Entry) (bool, api.Errno) = fc.Twins
var _ func(api.Run) bool = fc.Once
var _ func(api.Config, api.Run, int) bool = fc.Timely
var _ func(api.Run, ...api.Op) int = fc.Calls

var _ func(string) string = play.Run
