// Package field is layer 1: see shared/doc/01-field.md.
package field

import "turnrow/api"

const wordBits = 64

// Field is some bits of a word: from At on, Width of them.
type Field struct{ At, Width int }

// Right asks whether a field is right.
func Right(f Field) bool {
	if f.At < 0 || f.At >= wordBits {
		return false
	}
	// Width is held against what is left behind At, as the sum of both may wrap round.
	return f.Width >= 1 && f.Width <= wordBits-f.At
}

// Apart asks whether some fields are right, and share no bit.
func Apart(l ...Field) bool {
	var taken uint64
	for _, f := range l {
		if !Right(f) || taken&bitsOf(f) != 0 {
			return false
		}
		taken |= bitsOf(f)
	}
	return true
}

// Get is what a field of a word has.
func Get(w uint64, f Field) (uint64, api.Errno) {
	if !Right(f) {
		return 0, api.ErrArg
	}
	return numberIn(w, f), api.OK
}

// Put is the word with another number in a field.
func Put(w uint64, f Field, x uint64) (uint64, api.Errno) {
	if !Right(f) {
		return 0, api.ErrArg
	}
	if x > greatest(f) {
		return 0, api.ErrRange
	}
	return w&^bitsOf(f) | x<<f.At, api.OK
}

// Pack is the word of some fields' numbers, 0 elsewhere.
func Pack(l []Field, x []uint64) (uint64, api.Errno) {
	if !Apart(l...) || len(x) != len(l) {
		return 0, api.ErrArg
	}
	var w uint64
	for i, f := range l {
		if x[i] > greatest(f) {
			return 0, api.ErrRange
		}
		w |= x[i] << f.At
	}
	return w, api.OK
}

// Unpack are the numbers that some fields of a word have.
func Unpack(w uint64, l []Field) ([]uint64, api.Errno) {
	if !Apart(l...) {
		return nil, api.ErrArg
	}
	x := make([]uint64, len(l))
	for i, f := range l {
		x[i] = numberIn(w, f)
	}
	return x, api.OK
}

// The functions below take right fields alone: with others a shift may be negative.

// greatest is the greatest number that a field can have. All bits are shifted down, not 1 up, so that a field of the whole word is no case of its own.
func greatest(f Field) uint64 { return ^uint64(0) >> (wordBits - f.Width) }

// bitsOf is the word in which just the field's bits are on.
func bitsOf(f Field) uint64 { return greatest(f) << f.At }

// numberIn is what a field of a word has.
func numberIn(w uint64, f Field) uint64 { return w >> f.At & greatest(f) }
