// Package slot is layer 1: what a field has, as a word: see shared/doc/01-slot.md.
package slot

import "flit/api"

// A word's bits from the lowest on, each by its worth; numberUnit is where the number begins, which has all bits above.
const (
	kindLow uint64 = 1 << iota
	kindHigh
	frozenBit
	numberUnit

	kindBits = kindLow | kindHigh
)

// Word is what a field has as a word. Numbers that do not fit, and those below 0, wrap: the conversion to uint64 keeps what they are modulo any power of two.
func Word(v api.Val) uint64 {
	return uint64(v.Kind)&kindBits | uint64(v.N)*numberUnit
}

// Of is what a word tells, frozen or not.
func Of(w uint64) api.Val {
	return api.Val{Kind: int(w & kindBits), N: int(w / numberUnit)}
}

// Frozen tells whether a word is; Freeze and Thaw make it so, or not.
func Frozen(w uint64) bool { return w&frozenBit != 0 }

func Freeze(w uint64) uint64 { return w | frozenBit }

func Thaw(w uint64) uint64 { return w &^ frozenBit }
