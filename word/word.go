// Package word is layer 1: see shared/doc/01-word.md.
package word

import "reaper/api"

const (
	kinds = 1 << 8  // how many kinds share one value
	shift = 1 << 31 // lifts the least value to 0, so that no word is below 1
	most  = 1 << 40 // the word of the greatest kind and value
)

// Op is an operation's word.
func Op(o api.Op) int64 {
	return pack(o, func(o api.Op) (uint8, int32) { return o.Kind, o.Val })
}

// OfOp is a word's operation.
func OfOp(w int64) (api.Op, bool) {
	return unpack(w, func(kind uint8, val int32) api.Op { return api.Op{Kind: kind, Val: val} })
}

// Res is the word of what is told.
func Res(r api.Res) int64 {
	return pack(r, func(r api.Res) (uint8, int32) { return r.Code, r.Val })
}

// OfRes is what a word tells.
func OfRes(w int64) (api.Res, bool) {
	return unpack(w, func(code uint8, val int32) api.Res { return api.Res{Code: code, Val: val} })
}

// Asks says whether a word is an operation that waits.
func Asks(w int64) bool { return w > 0 }

// pack leaves the kind in the low byte, so that the order of words is that of values first.
func pack[T any](x T, pair func(T) (uint8, int32)) int64 {
	kind, val := pair(x)
	return kinds*(int64(val)+shift) + int64(kind) + 1
}

// unpack checks the range itself, so that no caller makes a pair of what is no word.
func unpack[T any](w int64, pair func(uint8, int32) T) (T, bool) {
	if w < 1 || w > most {
		var nothing T
		return nothing, false
	}
	n := w - 1
	return pair(uint8(n%kinds), int32(n/kinds-shift)), true
}
