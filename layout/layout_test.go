package layout

import (
	"fmt"
	"math"
	"slices"
	"testing"

	"turnrow/api"
)

// The slow ones: each lays out what is asked, word by word or bit by bit, so that it shares nothing with what is tested.

// slowRight holds each pair of neighbours and each place against what the chapter says.
func slowRight(l api.Layout) bool {
	ok := l.Fixed >= 0 && l.Fixed <= 64 && l.Record >= 0 && l.Record <= 64 && (l.Fixed != 0 || l.Record != 0)
	for i, p := range l.Refs {
		ok = ok && p >= 0 && p < l.Fixed && (i == 0 || l.Refs[i-1] < p)
	}
	for i, p := range l.RecRefs {
		ok = ok && p >= 0 && p < l.Record && (i == 0 || l.RecRefs[i-1] < p)
	}
	return ok
}

// slowSize counts the records one by one.
func slowSize(l api.Layout, count int) (int, api.Errno) {
	if !slowRight(l) {
		return 0, api.ErrArg
	}
	if count < 0 || count > 1024 || l.Record == 0 && count > 0 {
		return 0, api.ErrRange
	}
	words := l.Fixed
	for range count {
		words += l.Record
	}
	if words > 8191 {
		return 0, api.ErrSize
	}
	return words, api.OK
}

// slowWords are an object's words, of each of which it says whether it is a reference.
func slowWords(l api.Layout, count int) []bool {
	if _, e := slowSize(l, count); e != api.OK {
		return nil
	}
	words := slowPart(l.Fixed, l.Refs)
	for range count {
		words = append(words, slowPart(l.Record, l.RecRefs)...)
	}
	return words
}

func slowPart(n int, refs []int) []bool {
	part := make([]bool, n)
	for _, p := range refs {
		part[p] = true
	}
	return part
}

// slowRaw goes over all bits of the two words of references.
func slowRaw(l api.Layout) []uint64 {
	raw := []uint64{uint64(l.Fixed + 256*l.Record), 0, 0}
	for bit, weight := 0, uint64(1); bit < 64; bit, weight = bit+1, weight*2 {
		if slices.Contains(l.Refs, bit) {
			raw[1] += weight
		}
		if slices.Contains(l.RecRefs, bit) {
			raw[2] += weight
		}
	}
	return raw
}

func example() api.Layout {
	return api.Layout{Fixed: 2, Refs: []int{1}, Record: 3, RecRefs: []int{0, 2}}
}

// same asks whether two layouts are the same; an empty list is like none.
func same(a, b api.Layout) bool {
	return a.Fixed == b.Fixed && a.Record == b.Record && slices.Equal(a.Refs, b.Refs) && slices.Equal(a.RecRefs, b.RecRefs)
}

// some are the places of n words in different ways: none, all, the first, the last, both, each second and third.
func some(n int) [][]int {
	rules := []func(p int) bool{
		func(p int) bool { return false },
		func(p int) bool { return true },
		func(p int) bool { return p == 0 },
		func(p int) bool { return p == n-1 },
		func(p int) bool { return p == 0 || p == n-1 },
		func(p int) bool { return p%2 == 1 },
		func(p int) bool { return p%3 == 2 },
	}
	var lists [][]int
	for _, rule := range rules {
		var l []int
		for p := range n {
			if rule(p) {
				l = append(l, p)
			}
		}
		lists = append(lists, l)
	}
	return lists
}

// rightOnes are right layouts at all edges of Fixed and Record, with references in different ways.
func rightOnes() []api.Layout {
	sides := []int{0, 1, 2, 3, 7, 63, 64}
	var l []api.Layout
	for _, fixed := range sides {
		for _, record := range sides {
			if fixed == 0 && record == 0 {
				continue
			}
			for _, refs := range some(fixed) {
				for _, recRefs := range some(record) {
					l = append(l, api.Layout{Fixed: fixed, Refs: refs, Record: record, RecRefs: recRefs})
				}
			}
		}
	}
	return l
}

// wrongLists are places that no part of n words, n from 0 to 64, may have.
func wrongLists(n int) [][]int {
	lists := [][]int{
		{-1}, {-64}, {n}, {n + 1}, {64}, {65}, {256}, {1 << 32}, {-1 << 32},
		{math.MinInt}, {math.MinInt + 1}, {math.MaxInt}, {math.MaxInt - 1}, {math.MinInt, math.MaxInt}, {math.MaxInt, math.MinInt},
	}
	if n > 0 {
		lists = append(lists, []int{0, 0}, []int{n - 1, n - 1}, []int{n - 1, n}, []int{-1, 0}, []int{0, n}, []int{0, math.MaxInt}, []int{0, math.MinInt}, []int{math.MinInt, 0}, []int{math.MaxInt, 0})
	}
	if n > 1 {
		lists = append(lists, []int{1, 0}, []int{n - 1, 0}, []int{0, 1, 0}, []int{0, 1, 1}, []int{0, 0, 1})
	}
	if n > 2 {
		lists = append(lists, []int{0, 2, 1}, []int{2, 1, 0}, []int{1, 2, 0})
	}
	return lists
}

// wrongOnes are layouts that aren't right, for one reason or for several.
func wrongOnes() []api.Layout {
	l := []api.Layout{{}, {Refs: []int{0}}, {RecRefs: []int{0}}, {Refs: []int{0}, RecRefs: []int{0}}}
	for _, n := range []int{-1, -2, -64, -256, 65, 66, 128, 255, 256, 257, 1 << 32, 1<<32 + 1, math.MinInt, math.MinInt + 1, math.MaxInt, math.MaxInt - 1} {
		for _, other := range []int{0, 1, 64, 65, -1, math.MinInt, math.MaxInt} {
			for _, refs := range [][]int{nil, {0}, {-1}, {64}, {1, 0}} {
				l = append(l, api.Layout{Fixed: n, Refs: refs, Record: other}, api.Layout{Fixed: other, Record: n, RecRefs: refs})
			}
		}
	}
	for _, n := range []int{0, 1, 2, 3, 63, 64} {
		for _, refs := range wrongLists(n) {
			for _, other := range []int{0, 1, 64} {
				l = append(l, api.Layout{Fixed: n, Refs: refs, Record: other}, api.Layout{Fixed: other, Record: n, RecRefs: refs})
			}
		}
	}
	return l
}

// wrongCounts are counts that no layout may have.
func wrongCounts() []int {
	return []int{-1, -2, -1024, math.MinInt, math.MinInt + 1, 1025, 1026, 2048, 1 << 32, 1 << 58, 1 << 62, math.MaxInt - 1, math.MaxInt}
}

// P4.1

func TestExample(t *testing.T) {
	l := example()
	if n, e := Size(l, 2); n != 8 || e != api.OK {
		t.Error("Size", n, e)
	}
	if p := slices.Collect(Slots(l, 2)); !slices.Equal(p, []int{1, 2, 4, 5, 7}) {
		t.Error("Slots", p)
	}
	if w, e := Encode(l); !slices.Equal(w, []uint64{770, 2, 5}) || e != api.OK {
		t.Error("Encode", w, e)
	}
	if got, e := Decode([]uint64{770, 2, 5}); !same(got, l) || e != api.OK {
		t.Error("Decode", got, e)
	}
	// The document's first example.
	if w, e := Encode(api.Layout{Fixed: 2, Refs: []int{1}}); !slices.Equal(w, []uint64{2, 2, 0}) || e != api.OK {
		t.Error("Encode", w, e)
	}
}

func TestRightOnes(t *testing.T) {
	for _, l := range rightOnes() {
		if !Right(l) {
			t.Fatalf("%v isn't right", l)
		}
		raw, e := Encode(l)
		if !slices.Equal(raw, slowRaw(l)) || e != api.OK {
			t.Fatalf("Encode of %v: %v, %v", l, raw, e)
		}
		if got, e := Decode(slowRaw(l)); !same(got, l) || e != api.OK {
			t.Fatalf("Decode of %v: %v, %v", raw, got, e)
		}
	}
}

func TestWrongOnes(t *testing.T) {
	for _, l := range wrongOnes() {
		if slowRight(l) {
			t.Fatalf("the slow one says that %v is right", l)
		}
		if Right(l) {
			t.Errorf("%v is right", l)
		}
		if w, e := Encode(l); len(w) != 0 || e != api.ErrArg {
			t.Errorf("Encode of %v: %v, %v", l, w, e)
		}
	}
}

// All sizes of the parts, right and wrong ones, with and without a reference at the last place and one behind it.
func TestRightOfAllSides(t *testing.T) {
	for fixed := -2; fixed <= 67; fixed++ {
		for record := -2; record <= 67; record++ {
			for _, l := range []api.Layout{
				{Fixed: fixed, Record: record},
				{Fixed: fixed, Refs: []int{fixed - 1}, Record: record},
				{Fixed: fixed, Refs: []int{fixed}, Record: record},
				{Fixed: fixed, Record: record, RecRefs: []int{record - 1}},
				{Fixed: fixed, Record: record, RecRefs: []int{record}},
				{Fixed: fixed, Refs: []int{0}, Record: record, RecRefs: []int{0}},
			} {
				if Right(l) != slowRight(l) {
					t.Fatalf("Right(%v) is %v", l, Right(l))
				}
			}
		}
	}
}

// All lists of up to three places, of a part of three words.
func TestRightOfAllShortLists(t *testing.T) {
	var lists [][]int
	places := []int{math.MinInt, -1, 0, 1, 2, 3, math.MaxInt}
	for _, a := range places {
		lists = append(lists, []int{a})
		for _, b := range places {
			lists = append(lists, []int{a, b})
			for _, c := range places {
				lists = append(lists, []int{a, b, c})
			}
		}
	}
	right := 0
	for _, list := range lists {
		for _, l := range []api.Layout{{Fixed: 3, Refs: list}, {Record: 3, RecRefs: list}, {Fixed: 3, Refs: list, Record: 3, RecRefs: []int{0, 2}}} {
			if Right(l) != slowRight(l) {
				t.Fatalf("Right(%v) is %v", l, Right(l))
			}
			if Right(l) {
				right++
			}
		}
	}
	if right != 3*7 {
		t.Error(right, "are right, not 7 of each kind")
	}
}

// A list that is longer than a part can be isn't right, however it goes on.
func TestRightOfLongLists(t *testing.T) {
	var all []int
	for p := range 1000 {
		all = append(all, p)
	}
	for _, n := range []int{64, 65, 100, 1000} {
		if got := Right(api.Layout{Fixed: 64, Refs: all[:n]}); got != (n == 64) {
			t.Errorf("%d places of the fixed part: %v", n, got)
		}
		if got := Right(api.Layout{Record: 64, RecRefs: all[:n]}); got != (n == 64) {
			t.Errorf("%d places of a record: %v", n, got)
		}
	}
	if Right(api.Layout{Fixed: 64, Refs: make([]int, 100)}) {
		t.Error("a place that stands a hundred times")
	}
}

// decodesNot holds that these words are nobody's.
func decodesNot(t *testing.T, words []uint64) {
	t.Helper()
	if l, e := Decode(words); !same(l, api.Layout{}) || e != api.ErrForm {
		t.Fatalf("Decode of %v: %v, %v", words, l, e)
	}
}

// All first words of 16 bits: right just if both numbers are.
func TestDecodeOfAllFirstWords(t *testing.T) {
	for fixed := range 256 {
		for record := range 256 {
			words := []uint64{uint64(fixed + 256*record), 0, 0}
			if fixed > 64 || record > 64 || fixed+record == 0 {
				decodesNot(t, words)
				continue
			}
			if l, e := Decode(words); !same(l, api.Layout{Fixed: fixed, Record: record}) || e != api.OK {
				t.Fatalf("Decode of %v: %v, %v", words, l, e)
			}
		}
	}
}

func TestDecodeWithABitAboveTheFirstWords(t *testing.T) {
	for bit := 16; bit < 64; bit++ {
		for _, first := range []uint64{770, 64*256 + 64, 1, 256, 0} {
			decodesNot(t, []uint64{first + 1<<bit, 0, 0})
		}
	}
	decodesNot(t, []uint64{math.MaxUint64, 0, 0})
	decodesNot(t, []uint64{math.MaxUint64, math.MaxUint64, math.MaxUint64})
	decodesNot(t, []uint64{1 << 63, 1 << 63, 1 << 63})
}

// One bit alone in each word of references, at each of the 64 places.
func TestDecodeOfEachBit(t *testing.T) {
	for _, fixed := range []int{0, 1, 2, 63, 64} {
		for _, record := range []int{0, 1, 2, 63, 64} {
			if fixed+record == 0 {
				continue
			}
			first := uint64(fixed + 256*record)
			for bit := range 64 {
				l, e := Decode([]uint64{first, 1 << bit, 0})
				if bit >= fixed {
					decodesNot(t, []uint64{first, 1 << bit, 0})
				} else if !same(l, api.Layout{Fixed: fixed, Refs: []int{bit}, Record: record}) || e != api.OK {
					t.Fatalf("the bit %d of %d: %v, %v", bit, fixed, l, e)
				}
				l, e = Decode([]uint64{first, 0, 1 << bit})
				if bit >= record {
					decodesNot(t, []uint64{first, 0, 1 << bit})
				} else if !same(l, api.Layout{Fixed: fixed, Record: record, RecRefs: []int{bit}}) || e != api.OK {
					t.Fatalf("the bit %d of %d: %v, %v", bit, record, l, e)
				}
			}
		}
	}
}

func TestDecodeOfAllBits(t *testing.T) {
	l, e := Decode([]uint64{64*256 + 64, math.MaxUint64, math.MaxUint64})
	if e != api.OK || l.Fixed != 64 || l.Record != 64 || !slices.Equal(l.Refs, some(64)[1]) || !slices.Equal(l.RecRefs, some(64)[1]) {
		t.Error(l, e)
	}
	decodesNot(t, []uint64{63*256 + 64, math.MaxUint64, math.MaxUint64})
	decodesNot(t, []uint64{64*256 + 63, math.MaxUint64, math.MaxUint64})
	decodesNot(t, []uint64{770, 2 + 1<<63, 5})
	decodesNot(t, []uint64{770, 2, 5 + 1<<63})
}

func TestDecodeOfOtherLengths(t *testing.T) {
	full := []uint64{770, 2, 5, 0, 0, 0}
	for n := range len(full) + 1 {
		if n != 3 {
			decodesNot(t, full[:n])
		}
	}
	decodesNot(t, nil)
	decodesNot(t, []uint64{1})
	decodesNot(t, make([]uint64, 1000))
	decodesNot(t, []uint64{770, 2, 5, 770, 2, 5})
	if l, e := Decode(full[:3]); !same(l, example()) || e != api.OK {
		t.Error("three of six words:", l, e)
	}
}

// P4.2

func TestSizeAndPlacesOfRightOnes(t *testing.T) {
	for _, l := range rightOnes() {
		for _, count := range []int{0, 1, 2, 5} {
			words := slowWords(l, count)
			want, wantErr := slowSize(l, count)
			n, e := Size(l, count)
			if n != want || e != wantErr {
				t.Fatalf("Size(%v, %d): %d, %v, not %d, %v", l, count, n, e, want, wantErr)
			}
			isLaid(t, l, count, words)
		}
	}
}

// isLaid holds IsRef and Slots, at all places and some beyond, against an object's words.
func isLaid(t *testing.T, l api.Layout, count int, words []bool) {
	t.Helper()
	_, sizeErr := slowSize(l, count)
	var refs []int
	for p, want := range words {
		if got, e := IsRef(l, count, p); got != want || e != api.OK {
			t.Fatalf("IsRef(%v, %d, %d): %v, %v", l, count, p, got, e)
		}
		if want {
			refs = append(refs, p)
		}
	}
	if got := slices.Collect(Slots(l, count)); !slices.Equal(got, refs) {
		t.Fatalf("Slots(%v, %d): %v, not %v", l, count, got, refs)
	}
	n := len(words)
	for _, p := range []int{-1, -2, -64, n, n + 1, n + 64, 8191, 8192, 65600, 1 << 32, math.MinInt, math.MinInt + 1, math.MaxInt - 1, math.MaxInt} {
		if p >= 0 && p < n {
			continue
		}
		want := sizeErr
		if want == api.OK {
			want = api.ErrRange
		}
		if got, e := IsRef(l, count, p); got || e != want {
			t.Fatalf("IsRef(%v, %d, %d): %v, %v, not %v", l, count, p, got, e, want)
		}
	}
}

// The first and the last place of an object, of its fixed part, and of a record, by hand.
func TestIsRefByHand(t *testing.T) {
	ends := api.Layout{Fixed: 4, Refs: []int{0, 3}, Record: 3, RecRefs: []int{0, 2}}
	inner := api.Layout{Fixed: 4, Refs: []int{1, 2}, Record: 3, RecRefs: []int{1}}
	for _, p := range []int{0, 3, 4, 6, 7, 9} {
		if got, e := IsRef(ends, 2, p); !got || e != api.OK {
			t.Error("ends", p, got, e)
		}
		if got, e := IsRef(inner, 2, p); got || e != api.OK {
			t.Error("inner", p, got, e)
		}
	}
	for _, p := range []int{1, 2, 5, 8} {
		if got, e := IsRef(ends, 2, p); got || e != api.OK {
			t.Error("ends", p, got, e)
		}
		if got, e := IsRef(inner, 2, p); !got || e != api.OK {
			t.Error("inner", p, got, e)
		}
	}
	for _, p := range []int{-1, 10} {
		if got, e := IsRef(ends, 2, p); got || e != api.ErrRange {
			t.Error("ends", p, got, e)
		}
	}
}

// Without a fixed part, and without records, an object may have no word at all.
func TestOfNoWords(t *testing.T) {
	l := api.Layout{Record: 3, RecRefs: []int{0, 1, 2}}
	if n, e := Size(l, 0); n != 0 || e != api.OK {
		t.Error(n, e)
	}
	if p := slices.Collect(Slots(l, 0)); len(p) != 0 {
		t.Error(p)
	}
	for _, p := range []int{-1, 0, 1, 2, 3} {
		if got, e := IsRef(l, 0, p); got || e != api.ErrRange {
			t.Error(p, got, e)
		}
	}
}

func TestCounts(t *testing.T) {
	for _, c := range []struct {
		fixed, record, count, size int
		err                        api.Errno
	}{
		{1, 0, 0, 1, api.OK}, {64, 0, 0, 64, api.OK}, {1, 0, 1, 0, api.ErrRange}, {64, 0, 1024, 0, api.ErrRange}, {1, 0, 1025, 0, api.ErrRange}, {1, 0, -1, 0, api.ErrRange},
		{0, 1, 0, 0, api.OK}, {0, 1, 1, 1, api.OK}, {0, 1, 1023, 1023, api.OK}, {0, 1, 1024, 1024, api.OK}, {0, 1, 1025, 0, api.ErrRange},
		{64, 1, 1024, 1088, api.OK}, {64, 64, 0, 64, api.OK}, {64, 64, 1, 128, api.OK},
		{63, 64, 127, 8191, api.OK}, {62, 64, 127, 8190, api.OK}, {64, 64, 127, 0, api.ErrSize}, // words and one: MaxObject, one less, one more
		{0, 64, 127, 8128, api.OK}, {0, 64, 128, 0, api.ErrSize}, {1, 64, 127, 8129, api.OK},
		{0, 8, 1024, 0, api.ErrSize}, {0, 8, 1023, 8184, api.OK}, {7, 8, 1023, 8191, api.OK}, {6, 8, 1023, 8190, api.OK}, {8, 8, 1023, 0, api.ErrSize},
		{0, 7, 1024, 7168, api.OK}, {64, 7, 1024, 7232, api.OK}, {64, 64, 1024, 0, api.ErrSize}, {64, 64, 1025, 0, api.ErrRange}, {0, 64, 1024, 0, api.ErrSize},
		{28, 39, 209, 8179, api.OK}, {40, 39, 209, 8191, api.OK}, {41, 39, 209, 0, api.ErrSize},
	} {
		for _, l := range []api.Layout{
			{Fixed: c.fixed, Record: c.record},
			{Fixed: c.fixed, Refs: some(c.fixed)[1], Record: c.record, RecRefs: some(c.record)[1]},
			{Fixed: c.fixed, Refs: some(c.fixed)[4], Record: c.record, RecRefs: some(c.record)[4]},
		} {
			if n, e := Size(l, c.count); n != c.size || e != c.err {
				t.Errorf("Size(%v, %d): %d, %v", l, c.count, n, e)
			}
			isLaid(t, l, c.count, slowWords(l, c.count))
		}
	}
}

// All counts that may be, and the first ones that may not, at different layouts.
func TestSizeOfAllCounts(t *testing.T) {
	for _, fixed := range []int{0, 1, 31, 63, 64} {
		for record := range 65 {
			l := api.Layout{Fixed: fixed, Record: record}
			if !slowRight(l) {
				continue
			}
			for count := -1; count <= 1026; count++ {
				want, wantErr := slowSize(l, count)
				if n, e := Size(l, count); n != want || e != wantErr {
					t.Fatalf("Size(%v, %d): %d, %v, not %d, %v", l, count, n, e, want, wantErr)
				}
			}
		}
	}
}

// isRefused holds that all three tell this error, whatever the place is.
func isRefused(t *testing.T, l api.Layout, count int, want api.Errno) {
	t.Helper()
	if n, e := Size(l, count); n != 0 || e != want {
		t.Fatalf("Size(%v, %d): %d, %v, not %v", l, count, n, e, want)
	}
	for _, p := range []int{math.MinInt, -1, 0, 1, 2, 8191, math.MaxInt} {
		if got, e := IsRef(l, count, p); got || e != want {
			t.Fatalf("IsRef(%v, %d, %d): %v, %v, not %v", l, count, p, got, e, want)
		}
	}
	for p := range Slots(l, count) {
		t.Fatalf("Slots(%v, %d) tell %d", l, count, p)
	}
}

func TestWrongCounts(t *testing.T) {
	for _, l := range []api.Layout{example(), {Fixed: 1, Refs: []int{0}}, {Record: 1, RecRefs: []int{0}}, {Fixed: 64, Record: 64, RecRefs: []int{63}}} {
		for _, count := range wrongCounts() {
			isRefused(t, l, count, api.ErrRange)
		}
	}
	for _, count := range []int{1, 2, 1023, 1024} {
		isRefused(t, api.Layout{Fixed: 2, Refs: []int{1}}, count, api.ErrRange)
	}
}

// Rule 1: a layout that isn't right goes ahead of a count that may not be, and of a place that is none; the count goes ahead of the size.
func TestOrderOfErrors(t *testing.T) {
	for _, l := range wrongOnes() {
		for _, count := range append(wrongCounts(), 0, 1, 1024) {
			isRefused(t, l, count, api.ErrArg)
		}
	}
	isRefused(t, api.Layout{Fixed: 64, Record: 64}, 1024, api.ErrSize)
	isRefused(t, api.Layout{Fixed: 64, Record: 64}, 1025, api.ErrRange)
}

// P1: Slots that are left early tell nothing more.
func TestSlotsMayBeLeft(t *testing.T) {
	for _, l := range []api.Layout{example(), {Fixed: 5, Refs: []int{0, 2, 4}}, {Record: 2, RecRefs: []int{0, 1}}, {Fixed: 3, Refs: []int{0, 1, 2}, Record: 1, RecRefs: []int{0}}} {
		count := 4
		if l.Record == 0 {
			count = 0
		}
		all := slices.Collect(Slots(l, count))
		for stop := range all {
			var told []int
			Slots(l, count)(func(p int) bool {
				told = append(told, p)
				return len(told) <= stop
			})
			if !slices.Equal(told, all[:stop+1]) {
				t.Errorf("Slots of %v, left behind %d: %v", l, stop+1, told)
			}
		}
	}
}

// Slots are handed out once, and gone through often, also one within the other.
func TestSlotsAreGoneThroughOften(t *testing.T) {
	slots := Slots(example(), 2)
	want := []int{1, 2, 4, 5, 7}
	for range slots {
		break
	}
	for range 2 {
		if p := slices.Collect(slots); !slices.Equal(p, want) {
			t.Error(p)
		}
	}
	pairs := 0
	for p := range slots {
		for q := range slots {
			if p <= q {
				pairs++
			}
		}
	}
	if pairs != 15 {
		t.Error(pairs)
	}
}

// Rule 4: what was handed in isn't kept: Slots tell the layout as it was when they were asked for.
func TestSlotsKeepNothing(t *testing.T) {
	l := example()
	slots := Slots(l, 2)
	l.Refs[0], l.RecRefs[0], l.RecRefs[1] = 0, 1, 1
	if p := slices.Collect(slots); !slices.Equal(p, []int{1, 2, 4, 5, 7}) {
		t.Error("behind a write:", p)
	}
	l = example()
	var told []int
	for p := range Slots(l, 2) {
		told = append(told, p)
		l.Refs[0], l.RecRefs[0], l.RecRefs[1] = -1, math.MaxInt, math.MinInt
	}
	if !slices.Equal(told, []int{1, 2, 4, 5, 7}) {
		t.Error("in the midst:", told)
	}
	// One that wasn't right stays without places, also if its lists are mended.
	l = api.Layout{Fixed: 2, Refs: []int{2}}
	slots = Slots(l, 0)
	l.Refs[0] = 1
	for p := range slots {
		t.Error("Slots of one that wasn't right tell", p)
	}
}

// P4.3

// isBook holds a book's layouts, and the numbers that it hasn't, against a list.
func isBook(t *testing.T, b *Book, want []api.Layout) {
	t.Helper()
	if b.Len() != len(want) {
		t.Fatalf("Len is %d, not %d", b.Len(), len(want))
	}
	for i, w := range want {
		if l, e := b.Get(i + 1); !same(l, w) || e != api.OK {
			t.Fatalf("Get(%d): %v, %v, not %v", i+1, l, e, w)
		}
	}
	n := len(want)
	for _, id := range []int{0, -1, -2, -64, n + 1, n + 2, 65, 66, 1 << 32, 1<<32 + 1, math.MinInt, math.MinInt + 1, math.MaxInt - 1, math.MaxInt} {
		if l, e := b.Get(id); !same(l, api.Layout{}) || e != api.ErrNone {
			t.Fatalf("Get(%d) of %d: %v, %v", id, n, l, e)
		}
	}
}

func adds(t *testing.T, b *Book, l api.Layout, want int, wantErr api.Errno) {
	t.Helper()
	if id, e := b.Add(l); id != want || e != wantErr {
		t.Fatalf("Add(%v): %d, %v, not %d, %v", l, id, e, want, wantErr)
	}
}

func TestBookByHand(t *testing.T) {
	b := NewBook()
	if b == nil {
		t.Fatal("NewBook is nil")
	}
	isBook(t, b, nil)
	adds(t, b, example(), 1, api.OK)
	isBook(t, b, []api.Layout{example()})
	adds(t, b, api.Layout{Fixed: 7}, 2, api.OK)
	adds(t, b, example(), 3, api.OK) // the same one again is one more
	adds(t, b, api.Layout{}, 0, api.ErrArg)
	adds(t, b, api.Layout{Record: 64, RecRefs: []int{63}}, 4, api.OK)
	isBook(t, b, []api.Layout{example(), {Fixed: 7}, example(), {Record: 64, RecRefs: []int{63}}})
}

// A book of as many as may be, and one more; a layout that isn't right goes ahead of the full book; what is refused changes nothing.
func TestBookOfTheMost(t *testing.T) {
	b := NewBook()
	var want []api.Layout
	wrong := wrongOnes()
	for i, l := range rightOnes()[500 : 500+api.MaxLayouts] {
		adds(t, b, wrong[i], 0, api.ErrArg)
		adds(t, b, l, i+1, api.OK)
		want = append(want, l)
		isBook(t, b, want)
	}
	if b.Len() != 64 {
		t.Fatal(b.Len())
	}
	for range 3 {
		adds(t, b, example(), 0, api.ErrFull)
		adds(t, b, want[0], 0, api.ErrFull)
		isBook(t, b, want)
	}
	for _, l := range wrong {
		adds(t, b, l, 0, api.ErrArg)
	}
	isBook(t, b, want)
}

func TestBookRefusesWrongOnes(t *testing.T) {
	b := NewBook()
	for _, l := range wrongOnes() {
		adds(t, b, l, 0, api.ErrArg)
	}
	isBook(t, b, nil)
	adds(t, b, example(), 1, api.OK)
}

// Of a nil Book ErrNil goes ahead of all other errors.
func TestNilBook(t *testing.T) {
	var b *Book
	adds(t, b, example(), 0, api.ErrNil)
	for _, l := range wrongOnes() {
		adds(t, b, l, 0, api.ErrNil)
	}
	for _, id := range []int{math.MinInt, -1, 0, 1, 64, 65, math.MaxInt} {
		if l, e := b.Get(id); !same(l, api.Layout{}) || e != api.ErrNil {
			t.Errorf("Get(%d): %v, %v", id, l, e)
		}
	}
	if b.Len() != 0 {
		t.Error(b.Len())
	}
}

// P2: two books have nothing to do with one another.
func TestBooksAreApart(t *testing.T) {
	a, b := NewBook(), NewBook()
	adds(t, a, example(), 1, api.OK)
	isBook(t, b, nil)
	adds(t, b, api.Layout{Fixed: 1}, 1, api.OK)
	adds(t, b, api.Layout{Fixed: 2}, 2, api.OK)
	isBook(t, a, []api.Layout{example()})
	l, _ := a.Get(1)
	adds(t, b, l, 3, api.OK)
	isBook(t, a, []api.Layout{example()})
	isBook(t, b, []api.Layout{{Fixed: 1}, {Fixed: 2}, example()})
}

// Rule 4

// spoil writes to all of the lists' memory, also behind their lengths.
func spoil(lists ...[]int) {
	for _, l := range lists {
		for i := range l[:cap(l)] {
			l[:cap(l)][i] = -77
		}
	}
}

func TestBookKeepsALayoutOfItsOwn(t *testing.T) {
	b := NewBook()
	l := example()
	adds(t, b, l, 1, api.OK)
	spoil(l.Refs, l.RecRefs)
	isBook(t, b, []api.Layout{example()})

	got, _ := b.Get(1)
	other, _ := b.Get(1)
	spoil(got.Refs, got.RecRefs)
	isBook(t, b, []api.Layout{example()})
	if !same(other, example()) {
		t.Error("another answer has changed", other)
	}

	// Lists that are one memory in what is handed in are two in what is told.
	shared := []int{0, 2}
	adds(t, b, api.Layout{Fixed: 3, Refs: shared, Record: 3, RecRefs: shared}, 2, api.OK)
	got, _ = b.Get(2)
	spoil(got.Refs)
	if !slices.Equal(got.RecRefs, []int{0, 2}) || !slices.Equal(shared, []int{0, 2}) {
		t.Error(got, shared)
	}
}

func TestAnswersAreNewMemory(t *testing.T) {
	words := []uint64{770, 2, 5}
	a, _ := Decode(words)
	b, _ := Decode(words)
	spoil(a.Refs)
	if !slices.Equal(a.RecRefs, []int{0, 2}) {
		t.Error("the lists of an answer share memory", a)
	}
	spoil(a.RecRefs)
	words[0], words[1], words[2] = 0, 0, 0
	if !same(b, example()) {
		t.Error("another answer has changed", b)
	}
	x, _ := Encode(example())
	y, _ := Encode(example())
	clear(x[:cap(x)])
	if !slices.Equal(y, []uint64{770, 2, 5}) {
		t.Error("another answer has changed", y)
	}
	if z, e := Encode(example()); !slices.Equal(z, []uint64{770, 2, 5}) || e != api.OK {
		t.Error("a later answer has changed", z, e)
	}
}

// behind is a list with wrong places behind its length.
func behind(l ...int) []int { return append(l, -5, 99, 0)[:len(l)] }

// Rules 3 and 4: nothing is written to what is handed in, and what lies behind a list's length is not read.
func TestWhatIsHandedInStays(t *testing.T) {
	refs, recRefs := behind(1), behind(0, 2)
	l := api.Layout{Fixed: 2, Refs: refs, Record: 3, RecRefs: recRefs}
	words := append([]uint64{770, 2, 5}, 9, 9)[:3]
	b := NewBook()
	if !Right(l) {
		t.Error("Right reads behind a list")
	}
	if w, e := Encode(l); !slices.Equal(w, []uint64{770, 2, 5}) || e != api.OK {
		t.Error(w, e)
	}
	if got, e := Decode(words); !same(got, example()) || e != api.OK {
		t.Error(got, e)
	}
	isLaid(t, l, 2, slowWords(l, 2))
	adds(t, b, l, 1, api.OK)
	isBook(t, b, []api.Layout{example()})
	if s := fmt.Sprint(refs[:4], recRefs[:5], words[:5]); s != "[1 -5 99 0] [0 2 -5 99 0] [770 2 5 9 9]" {
		t.Error("what was handed in has changed:", s)
	}

	// Also by calls that are refused.
	wrong := api.Layout{Fixed: 2, Refs: behind(1, 0, 1), Record: 3, RecRefs: behind(2, 2)}
	isRefused(t, wrong, 2, api.ErrArg)
	Encode(wrong)
	Right(wrong)
	b.Add(wrong)
	if s := fmt.Sprint(wrong.Refs[:6], wrong.RecRefs[:5]); s != "[1 0 1 -5 99 0] [2 2 -5 99 0]" {
		t.Error("what was handed in has changed:", s)
	}
}

// Rule 4: an empty list that isn't nil is like none.
func TestEmptyLists(t *testing.T) {
	nils, empties := api.Layout{Fixed: 2, Record: 1}, api.Layout{Fixed: 2, Refs: []int{}, Record: 1, RecRefs: []int{}}
	b := NewBook()
	for i, l := range []api.Layout{nils, empties} {
		if w, e := Encode(l); !slices.Equal(w, []uint64{258, 0, 0}) || e != api.OK || !Right(l) {
			t.Error(w, e)
		}
		isLaid(t, l, 3, make([]bool, 5))
		adds(t, b, l, i+1, api.OK)
	}
	isBook(t, b, []api.Layout{empties, nils})
}
