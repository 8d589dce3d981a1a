package field

import (
	"math"
	"slices"
	"testing"

	"turnrow/api"
)

const allOn = math.MaxUint64

// wrongFields are fields that aren't right, each for another reason.
func wrongFields() []Field {
	l := []Field{
		{0, 0}, {63, 0}, {5, -1}, {-1, 1}, {-1, 2}, {-1, 65}, {64, 1}, {64, 0}, {65, 1},
		{0, 65}, {1, 64}, {63, 2}, {32, 33}, {64, -1}, {-64, 128},
	}
	for _, n := range []int{math.MinInt, math.MinInt + 1, math.MaxInt - 63, math.MaxInt - 1, math.MaxInt} {
		for _, k := range []int{math.MinInt, math.MinInt + 64, -1, 0, 1, 2, 63, 64, math.MaxInt - 64, math.MaxInt} {
			l = append(l, Field{n, k}, Field{k, n})
		}
	}
	return l
}

// rightFields are all that are right.
func rightFields() []Field {
	var l []Field
	for at := 0; at <= 63; at++ {
		for end := at; end <= 63; end++ {
			l = append(l, Field{at, end - at + 1})
		}
	}
	return l
}

func someWords() []uint64 {
	return []uint64{0, 1, allOn, 1 << 63, math.MaxInt64, 0xAAAAAAAAAAAAAAAA, 0x0123456789ABCDEF, 0xA500000200030004}
}

// slowGet goes bit by bit, so that it shares no shift or mask with what is tested.
func slowGet(w uint64, f Field) uint64 {
	var x, weight uint64 = 0, 1
	for bit := range 64 {
		on := w%2 == 1
		w /= 2
		if bit < f.At || bit >= f.At+f.Width {
			continue
		}
		if on {
			x += weight
		}
		weight *= 2
	}
	return x
}

// slowPut goes bit by bit, too.
func slowPut(w uint64, f Field, x uint64) uint64 {
	var y, weight uint64 = 0, 1
	for bit := range 64 {
		on := w%2 == 1
		w /= 2
		if bit >= f.At && bit < f.At+f.Width {
			on = x%2 == 1
			x /= 2
		}
		if on {
			y += weight
		}
		weight *= 2
	}
	return y
}

// most is the greatest number of so many bits.
func most(width int) uint64 {
	var x uint64
	for range width {
		x = 2*x + 1
	}
	return x
}

// P1.1

func TestRightOfAllSmall(t *testing.T) {
	for at := -70; at <= 140; at++ {
		for width := -70; width <= 140; width++ {
			want := at >= 0 && at <= 63 && width >= 1 && at+width <= 64
			if got := Right(Field{at, width}); got != want {
				t.Errorf("Right(%d, %d) is %v", at, width, got)
			}
		}
	}
}

func TestRightAtTheEdges(t *testing.T) {
	for _, f := range []Field{{0, 1}, {0, 64}, {63, 1}, {1, 63}, {32, 32}} {
		if !Right(f) {
			t.Errorf("%v should be right", f)
		}
	}
	for _, f := range wrongFields() {
		if Right(f) {
			t.Errorf("%v should not be right", f)
		}
	}
}

func TestApartOfNoneAndOne(t *testing.T) {
	if !Apart() || !Apart([]Field{}...) || !Apart([]Field(nil)...) {
		t.Error("no fields are apart")
	}
	for _, f := range rightFields() {
		if !Apart(f) {
			t.Errorf("%v alone is apart", f)
		}
	}
	for _, f := range wrongFields() {
		if Apart(f) {
			t.Errorf("%v isn't right", f)
		}
	}
}

func TestApartOfEachTwo(t *testing.T) {
	l := rightFields()
	for _, a := range l {
		for _, b := range l {
			want := a.At+a.Width <= b.At || b.At+b.Width <= a.At
			if got := Apart(a, b); got != want {
				t.Fatalf("Apart(%v, %v) is %v", a, b, got)
			}
		}
	}
}

func TestApartOfMany(t *testing.T) {
	var bits []Field
	for at := 63; at >= 0; at-- {
		bits = append(bits, Field{at, 1})
	}
	for _, c := range []struct {
		name string
		l    []Field
		want bool
	}{
		{"each bit", bits, true},
		{"each bit, and one again", append(slices.Clone(bits), Field{0, 1}), false},
		{"three in no order", []Field{{60, 4}, {0, 4}, {8, 4}}, true},
		{"three that touch", []Field{{20, 44}, {0, 10}, {10, 10}}, true},
		{"first and last share", []Field{{0, 8}, {16, 8}, {7, 1}}, false},
		{"last two share", []Field{{0, 8}, {16, 8}, {23, 1}}, false},
		{"the top bit is shared", []Field{{63, 1}, {0, 1}, {62, 2}}, false},
		{"the same one twice", []Field{{0, 8}, {16, 8}, {16, 8}}, false},
		{"all but a bit, and that bit", []Field{{1, 63}, {0, 1}}, true},
		{"the whole word, and a bit", []Field{{0, 64}, {0, 1}}, false},
	} {
		if got := Apart(c.l...); got != c.want {
			t.Errorf("%s: %v", c.name, got)
		}
	}
}

func TestApartWithAWrongOne(t *testing.T) {
	a, b := Field{0, 8}, Field{16, 8}
	for _, f := range wrongFields() {
		if Apart(f, a, b) || Apart(a, f, b) || Apart(a, b, f) {
			t.Errorf("%v isn't right", f)
		}
	}
}

// P1.2

func TestExampleOfPut(t *testing.T) {
	if w, e := Put(0, Field{4, 3}, 5); w != 80 || e != api.OK {
		t.Error(w, e)
	}
	if x, e := Get(80, Field{4, 3}); x != 5 || e != api.OK {
		t.Error(x, e)
	}
}

func TestGetOfEachField(t *testing.T) {
	for _, f := range rightFields() {
		for _, w := range someWords() {
			if x, e := Get(w, f); x != slowGet(w, f) || e != api.OK {
				t.Errorf("Get(%x, %v) is %x, %v", w, f, x, e)
			}
		}
	}
}

func TestPutOfEachField(t *testing.T) {
	for _, f := range rightFields() {
		top := most(f.Width)
		for _, w := range someWords() {
			for _, x := range []uint64{0, 1, top, top / 2, top / 3, top - top/2} {
				y, e := Put(w, f, x)
				if y != slowPut(w, f, x) || e != api.OK {
					t.Errorf("Put(%x, %v, %x) is %x, %v", w, f, x, y, e)
				}
			}
		}
	}
}

func TestGetTellsWhatWasPut(t *testing.T) {
	for _, f := range rightFields() {
		for _, x := range []uint64{0, 1, most(f.Width)} {
			w, _ := Put(0x0123456789ABCDEF, f, x)
			if got, e := Get(w, f); got != x || e != api.OK {
				t.Errorf("%v has %x, %v, not %x", f, got, e, x)
			}
		}
	}
}

func TestPutOfTooManyBits(t *testing.T) {
	for _, f := range rightFields() {
		if f.Width == 64 {
			continue // each number fits
		}
		for _, x := range []uint64{most(f.Width) + 1, most(f.Width) + 2, 1 << 63, allOn} {
			if x <= most(f.Width) {
				continue
			}
			if w, e := Put(allOn, f, x); w != 0 || e != api.ErrRange {
				t.Errorf("Put of %x at %v: %x, %v", x, f, w, e)
			}
		}
	}
}

func TestGetAndPutOfWrongFields(t *testing.T) {
	for _, f := range wrongFields() {
		for _, x := range []uint64{0, 1, allOn} {
			if got, e := Get(x, f); got != 0 || e != api.ErrArg {
				t.Errorf("Get(%x, %v): %x, %v", x, f, got, e)
			}
			// A number that is too great as well: ErrArg is named first.
			if w, e := Put(allOn, f, x); w != 0 || e != api.ErrArg {
				t.Errorf("Put(%v, %x): %x, %v", f, x, w, e)
			}
		}
	}
}

// P1.3

func TestExampleOfPack(t *testing.T) {
	l := []Field{{0, 4}, {8, 4}}
	if w, e := Pack(l, []uint64{3, 9}); w != 2307 || e != api.OK {
		t.Error(w, e)
	}
	if x, e := Unpack(2307, l); !slices.Equal(x, []uint64{3, 9}) || e != api.OK {
		t.Error(x, e)
	}
}

func TestPackAndUnpackOfNone(t *testing.T) {
	for _, l := range [][]Field{nil, {}} {
		for _, x := range [][]uint64{nil, {}} {
			if w, e := Pack(l, x); w != 0 || e != api.OK {
				t.Error(w, e)
			}
		}
		if x, e := Unpack(allOn, l); len(x) != 0 || e != api.OK {
			t.Error(x, e)
		}
	}
}

func TestPackAndUnpack(t *testing.T) {
	var bits []Field
	var ones []uint64
	for at := range 64 {
		bits = append(bits, Field{63 - at, 1})
		ones = append(ones, 1)
	}
	for _, c := range []struct {
		l []Field
		x []uint64
		w uint64
	}{
		{[]Field{{0, 64}}, []uint64{allOn}, allOn},
		{[]Field{{0, 64}}, []uint64{0}, 0},
		{[]Field{{63, 1}}, []uint64{1}, 1 << 63},
		{[]Field{{63, 1}, {0, 63}}, []uint64{0, math.MaxInt64}, math.MaxInt64},
		{[]Field{{60, 4}, {0, 4}, {8, 4}}, []uint64{15, 3, 9}, 0xF000000000000903},
		{[]Field{{56, 8}, {32, 8}, {16, 16}, {0, 16}}, []uint64{0xA5, 2, 3, 4}, 0xA500000200030004},
		{bits, ones, allOn},
	} {
		if w, e := Pack(c.l, c.x); w != c.w || e != api.OK {
			t.Errorf("Pack(%v, %x): %x, %v", c.l, c.x, w, e)
		}
		if x, e := Unpack(c.w, c.l); !slices.Equal(x, c.x) || e != api.OK {
			t.Errorf("Unpack(%x, %v): %x, %v", c.w, c.l, x, e)
		}
	}
}

func TestPackAndUnpackOfCutWords(t *testing.T) {
	// The bits 0 to 2 and those from b on are no field's: Pack lets them be 0, Unpack passes them over.
	for a := 4; a <= 62; a++ {
		for b := a + 1; b <= 63; b++ {
			l := []Field{{a, b - a}, {3, a - 3}}
			for _, w := range someWords() {
				want := []uint64{slowGet(w, l[0]), slowGet(w, l[1])}
				x, e := Unpack(w, l)
				if !slices.Equal(x, want) || e != api.OK {
					t.Fatalf("Unpack(%x, %v): %x, %v", w, l, x, e)
				}
				whole := slowPut(slowPut(0, l[0], want[0]), l[1], want[1])
				if y, e := Pack(l, x); y != whole || e != api.OK {
					t.Fatalf("Pack(%v, %x): %x, %v", l, x, y, e)
				}
			}
		}
	}
}

func TestPackOfAnotherLength(t *testing.T) {
	l := []Field{{0, 4}, {8, 4}}
	for _, x := range [][]uint64{nil, {}, {3}, {3, 9, 1}, {3, 9, 0}, {16}, {16, 16, 16}} {
		if w, e := Pack(l, x); w != 0 || e != api.ErrArg {
			t.Errorf("%v: %x, %v", x, w, e)
		}
	}
	if w, e := Pack(nil, []uint64{0}); w != 0 || e != api.ErrArg {
		t.Error(w, e)
	}
}

func TestPackAndUnpackOfFieldsNotApart(t *testing.T) {
	lists := [][]Field{{{0, 4}, {3, 2}}, {{3, 2}, {0, 4}}, {{7, 1}, {7, 1}}, {{0, 64}, {63, 1}}}
	for _, f := range wrongFields() {
		lists = append(lists, []Field{f, {8, 4}}, []Field{{8, 4}, f})
	}
	for _, l := range lists {
		// Numbers that are too great as well, and another length: ErrArg is named first.
		for _, x := range [][]uint64{{0, 0}, {1, 1}, {allOn, allOn}, {0}} {
			if w, e := Pack(l, x); w != 0 || e != api.ErrArg {
				t.Errorf("Pack(%v, %x): %x, %v", l, x, w, e)
			}
		}
		if x, e := Unpack(allOn, l); len(x) != 0 || e != api.ErrArg {
			t.Errorf("Unpack(%v): %x, %v", l, x, e)
		}
	}
}

func TestPackOfTooManyBits(t *testing.T) {
	l := []Field{{0, 4}, {8, 1}, {1 + 8, 55}}
	for _, x := range [][]uint64{
		{16, 0, 0}, {0, 2, 0}, {0, 0, 1 << 55}, {15, 1, allOn}, {allOn, 1, 1}, {15, allOn, 1}, {16, 2, 1 << 55},
	} {
		if w, e := Pack(l, x); w != 0 || e != api.ErrRange {
			t.Errorf("%x: %x, %v", x, w, e)
		}
	}
	if w, e := Pack(l, []uint64{15, 1, 1<<55 - 1}); w != 0xFFFFFFFFFFFFFF0F || e != api.OK {
		t.Errorf("%x, %v", w, e)
	}
}

// The rules that hold everywhere

func TestListsAreLeftAlone(t *testing.T) {
	fields := []Field{{0, 4}, {8, 4}, {-1, -1}, {0, 4}}
	numbers := []uint64{3, 9, allOn, 5}
	l, x := fields[:2], numbers[:2]
	if !Apart(l...) {
		t.Error("what lies behind the length was read")
	}
	if w, e := Pack(l, x); w != 2307 || e != api.OK {
		t.Error(w, e)
	}
	a, _ := Unpack(2307, l)
	b, _ := Unpack(2307, l)
	a[0] = 77
	if !slices.Equal(b, []uint64{3, 9}) {
		t.Error("two answers share memory:", b)
	}
	if !slices.Equal(fields, []Field{{0, 4}, {8, 4}, {-1, -1}, {0, 4}}) || !slices.Equal(numbers, []uint64{3, 9, allOn, 5}) {
		t.Error("a list that was handed in was changed:", fields, numbers)
	}
}
