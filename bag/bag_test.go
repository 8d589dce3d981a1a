package bag

import (
	"cmp"
	"math"
	"math/rand"
	"slices"
	"testing"
)

// slow is a bag as a list in no order: each question goes through the whole of it, so that it shares nothing with what is tested.
type slow[T cmp.Ordered] struct {
	l []T
}

func slowOf[T cmp.Ordered](l ...T) *slow[T] {
	s := &slow[T]{}
	for _, x := range l {
		s.put(x)
	}
	return s
}

func (s *slow[T]) has(x T) bool {
	for _, y := range s.l {
		if y == x {
			return true
		}
	}
	return false
}

func (s *slow[T]) put(x T) bool {
	if s.has(x) {
		return false
	}
	s.l = append(s.l, x)
	return true
}

func (s *slow[T]) del(x T) bool {
	var left []T
	for _, y := range s.l {
		if y != x {
			left = append(left, y)
		}
	}
	was := len(left) < len(s.l)
	s.l = left
	return was
}

// least is, of those that from lets pass, the one than which none is less.
func (s *slow[T]) least(from func(T) bool) (T, bool) {
	var least T
	found := false
	for _, y := range s.l {
		if from(y) && (!found || y < least) {
			least, found = y, true
		}
	}
	return least, found
}

func (s *slow[T]) first(x T) (T, bool) {
	return s.least(func(y T) bool { return y >= x })
}

func (s *slow[T]) all() []T {
	var l []T
	x, ok := s.least(func(T) bool { return true })
	for ok {
		l = append(l, x)
		x, ok = s.least(func(y T) bool { return y > x })
	}
	return l
}

// isLike holds all that a bag answers against the slow one's answers, at all things of both and at some others.
func isLike[T cmp.Ordered](t *testing.T, b *Bag[T], s *slow[T], others ...T) {
	t.Helper()
	all := s.all()
	if l := slices.Collect(b.All()); !slices.Equal(l, all) {
		t.Fatalf("All: %v, not %v", l, all)
	}
	if n := b.Len(); n != len(all) {
		t.Fatalf("Len of %v: %d", all, n)
	}
	for _, x := range slices.Concat(all, others) {
		if has := b.Has(x); has != s.has(x) {
			t.Fatalf("Has(%v) of %v: %v", x, all, has)
		}
		want, wantOK := s.first(x)
		if y, ok := b.First(x); y != want || ok != wantOK {
			t.Fatalf("First(%v) of %v: %v, %v, not %v, %v", x, all, y, ok, want, wantOK)
		}
	}
}

// has is isLike of a bag that is to have just these.
func has[T cmp.Ordered](t *testing.T, b *Bag[T], l ...T) {
	t.Helper()
	isLike(t, b, slowOf(l...))
}

func is(t *testing.T, what string, got, want bool) {
	t.Helper()
	if got != want {
		t.Fatalf("%s: %v", what, got)
	}
}

// part are the numbers from 0 on whose bits are set, the greatest first.
func part(bits int) []int {
	var l []int
	for i := 20; i >= 0; i-- {
		if bits>>i&1 == 1 {
			l = append(l, i)
		}
	}
	return l
}

// edges are ints about the least and the greatest, and such as go wrong way round if bits are cut off or a difference wraps round.
func edges() []int {
	l := []int{math.MinInt, math.MinInt + 1, math.MaxInt, math.MaxInt - 1}
	for _, n := range []int{0, 127, 128, 255, 256, 1 << 15, 1 << 16, 1 << 31, 1 << 32, 1 << 53, 1 << 62} {
		for d := -1; d <= 1; d++ {
			l = append(l, n+d, -n+d)
		}
	}
	return l
}

// texts are such as bytes, lengths and runes put in an order each of its own.
func texts() []string {
	return []string{"", "\x00", "\x00\x00", "a", "a\x00", "aa", "ab", "b", "B", "10", "9", "z", "ä", "\xff", "\xff\xfe", "\xc3", "日", "日本", " ", "~"}
}

// P8.1

func TestExample(t *testing.T) {
	b := New(3, 1, 3)
	has(t, b, 1, 3)
	if x, ok := b.First(2); x != 3 || !ok {
		t.Errorf("First(2): %v, %v", x, ok)
	}
}

func TestNew(t *testing.T) {
	has(t, New[int]())
	has(t, New([]int(nil)...))
	has(t, New([]int{}...))
	has(t, New(0), 0)
	has(t, New(7, 7, 7, 7), 7)
	isLike(t, New(edges()...), slowOf(edges()...))
	isLike(t, New(texts()...), slowOf(texts()...))
	isLike(t, New("a", "b", "a", "", ""), slowOf("a", "b", ""))
}

// All lists of up to six of three things, in all orders.
func TestNewOfEachSmallList(t *testing.T) {
	lists := [][]int{nil}
	for len(lists) > 0 {
		l := lists[0]
		lists = lists[1:]
		isLike(t, New(l...), slowOf(l...), -1, 0, 1, 2, 3)
		if len(l) == 6 {
			continue
		}
		for x := range 3 {
			lists = append(lists, append(slices.Clone(l), x))
		}
	}
}

// The list is neither changed nor kept; what lies behind its length is neither read nor written.
func TestNewLeavesItsList(t *testing.T) {
	memory := []int{5, 1, 5, 3, 77, 78, 79}
	before := slices.Clone(memory)
	b := New(memory[:4]...)
	has(t, b, 1, 3, 5)
	is(t, "Put", b.Put(9), true)
	is(t, "Put", b.Put(0), true)
	is(t, "Del", b.Del(5), true)
	b.Join(New(20, 21))
	b.Less(New(3))
	if !slices.Equal(memory, before) {
		t.Fatalf("the list is %v", memory)
	}
	has(t, b, 0, 1, 9, 20, 21)
	for i := range memory {
		memory[i] = -8
	}
	has(t, b, 0, 1, 9, 20, 21)

	memory = []int{1, 2, 3, 4} // in order already
	b = New(memory[:3]...)
	is(t, "Put", b.Put(9), true)
	is(t, "Put", b.Put(0), true)
	if !slices.Equal(memory, []int{1, 2, 3, 4}) {
		t.Fatalf("the list is %v", memory)
	}
	memory[0] = 50
	has(t, b, 0, 1, 2, 3, 9)
}

func TestPutAndDel(t *testing.T) {
	b := New[int]()
	is(t, "Del of an empty one", b.Del(0), false)
	is(t, "Put", b.Put(0), true)
	is(t, "Put again", b.Put(0), false)
	has(t, b, 0)
	is(t, "Del", b.Del(0), true)
	is(t, "Del again", b.Del(0), false)
	has(t, b)
	is(t, "Put behind Del", b.Put(0), true)
	has(t, b, 0)
}

// Each thing is put into, and taken out of, each part of some numbers.
func TestPutAndDelOfEachSmallBag(t *testing.T) {
	const n = 7
	for bits := range 1 << n {
		for x := -1; x <= n; x++ {
			b, s := New(part(bits)...), slowOf(part(bits)...)
			is(t, "Put", b.Put(x), s.put(x))
			isLike(t, b, s, -1, x, n)

			b, s = New(part(bits)...), slowOf(part(bits)...)
			is(t, "Del", b.Del(x), s.del(x))
			isLike(t, b, s, -1, x, n)
		}
	}
}

func putsAndDels[T cmp.Ordered](t *testing.T, l []T) {
	t.Helper()
	b, s := New[T](), slowOf[T]()
	for range 2 {
		for _, x := range l {
			is(t, "Put", b.Put(x), s.put(x))
			isLike(t, b, s, l...)
		}
	}
	for range 2 {
		for _, x := range l {
			is(t, "Del", b.Del(x), s.del(x))
			isLike(t, b, s, l...)
		}
	}
}

// own is a kind of the test's own, made of an ordered one.
type own string

func TestKinds(t *testing.T) {
	putsAndDels(t, edges())
	putsAndDels(t, texts())
	putsAndDels(t, []int8{0, -128, 127, -1, 1, -127, 126})
	putsAndDels(t, []int16{0, math.MinInt16, math.MaxInt16, -1, 1})
	putsAndDels(t, []int32{0, math.MinInt32, math.MaxInt32, -1, 1})
	putsAndDels(t, []int64{0, math.MinInt64, math.MaxInt64, -1, 1})
	putsAndDels(t, []byte{0, 255, 127, 128, 1})
	putsAndDels(t, []uint16{0, math.MaxUint16, 1 << 15, 1})
	putsAndDels(t, []uint32{0, math.MaxUint32, 1 << 31, 1})
	putsAndDels(t, []uint64{0, math.MaxUint64, 1 << 63, 1<<63 - 1, 1<<63 + 1, 1, 1 << 53, 1<<53 + 1})
	putsAndDels(t, []uint{0, math.MaxUint, 1 << 63, 1})
	putsAndDels(t, []uintptr{0, 5, 1})
	putsAndDels(t, []own{"b", "", "a", "\xff", "ab"})
	putsAndDels(t, []float64{0, -1.5, math.Inf(1), math.Inf(-1), 0.5, math.MaxFloat64, math.SmallestNonzeroFloat64})
}

// A NaN is there once as well, ahead of all others.
func TestNaN(t *testing.T) {
	nan := math.NaN()
	b := New(nan, 1, nan, math.Inf(-1), nan)
	if b.Len() != 3 || !b.Has(nan) || b.Put(nan) {
		t.Fatalf("%v", slices.Collect(b.All()))
	}
	b.Join(New(nan, 2))
	if x, ok := b.First(nan); x == x || !ok || b.Len() != 4 {
		t.Fatalf("First: %v, %v of %v", x, ok, slices.Collect(b.All()))
	}
	is(t, "Del", b.Del(nan), true)
	is(t, "Del again", b.Del(nan), false)
	has(t, b, math.Inf(-1), 1, 2)
}

// Rising, falling, and all about: many things.
func TestMany(t *testing.T) {
	const n = 5003
	for _, step := range []int{1, n - 1, 1234} {
		b := New[int]()
		for i := range n {
			is(t, "Put", b.Put(i*step%n), true)
			is(t, "Put again", b.Put(i/2*step%n), false)
		}
		for i, x := range slices.Collect(b.All()) {
			if i != x {
				t.Fatalf("All tells %d as number %d", x, i)
			}
		}
		for i := range n {
			if b.Len() != n-i {
				t.Fatalf("Len: %d, not %d", b.Len(), n-i)
			}
			x := i * step % n
			is(t, "Has", b.Has(x), true)
			is(t, "Del", b.Del(x), true)
			is(t, "Has behind Del", b.Has(x), false)
		}
		has(t, b)
	}
}

// P8.2

func TestFirstOfEachSmallBag(t *testing.T) {
	const n = 9
	for bits := range 1 << n {
		l := part(bits)
		for i := range l {
			l[i] = l[i]*2 - 8 // below 0 too, and something between all
		}
		others := edges()
		for x := -11; x <= 12; x++ {
			others = append(others, x)
		}
		isLike(t, New(l...), slowOf(l...), others...)
	}
}

// Where there is none it is the zero thing, also if the zero thing is there; where that is the first, it is told with true.
func TestFirstAndTheZeroThing(t *testing.T) {
	b := New(-5, 0)
	if x, ok := b.First(1); x != 0 || ok {
		t.Errorf("First(1): %v, %v", x, ok)
	}
	if x, ok := b.First(-4); x != 0 || !ok {
		t.Errorf("First(-4): %v, %v", x, ok)
	}
	if x, ok := New(-5).First(-4); x != 0 || ok {
		t.Errorf("First(-4) of -5: %v, %v", x, ok)
	}
	if x, ok := New("", "a").First("b"); x != "" || ok {
		t.Errorf("First of texts: %q, %v", x, ok)
	}
	if x, ok := New("", "a").First(""); x != "" || !ok {
		t.Errorf("First of texts: %q, %v", x, ok)
	}
	if x, ok := New("a", "ab").First("a\x00"); x != "ab" || !ok {
		t.Errorf("First of texts: %q, %v", x, ok)
	}
	if x, ok := New(math.MinInt, math.MaxInt).First(math.MaxInt); x != math.MaxInt || !ok {
		t.Errorf("First of the greatest: %v, %v", x, ok)
	}
	if x, ok := New[int]().First(math.MinInt); x != 0 || ok {
		t.Errorf("First of an empty one: %v, %v", x, ok)
	}
}

// First, from the one behind the last one on, tells what All tells.
func TestFirstWalks(t *testing.T) {
	b := New(edges()...)
	var l []int
	for x, ok := b.First(math.MinInt); ok; x, ok = b.First(x + 1) {
		l = append(l, x)
		if x == math.MaxInt {
			break
		}
	}
	if !slices.Equal(l, slices.Collect(b.All())) {
		t.Errorf("First tells %v", l)
	}
}

// changes are all ways of changing a bag that has 2, 4, 6 and 8.
func changes() map[string]func(*Bag[int]) {
	return map[string]func(*Bag[int]){
		"put the least":     func(b *Bag[int]) { b.Put(-1) },
		"put between":       func(b *Bag[int]) { b.Put(5) },
		"put the greatest":  func(b *Bag[int]) { b.Put(99) },
		"put what is there": func(b *Bag[int]) { b.Put(4) },
		"del the least":     func(b *Bag[int]) { b.Del(2) },
		"del one":           func(b *Bag[int]) { b.Del(6) },
		"del the greatest":  func(b *Bag[int]) { b.Del(8) },
		"join":              func(b *Bag[int]) { b.Join(New(1, 4, 7, 100)) },
		"join itself":       func(b *Bag[int]) { b.Join(b) },
		"less":              func(b *Bag[int]) { b.Less(New(4, 5, 8)) },
		"less itself":       func(b *Bag[int]) { b.Less(b) },
		"all out, other in": func(b *Bag[int]) { b.Less(New(2, 4, 6, 8)); b.Join(New(12, 14, 16, 18)) },
		"del and put": func(b *Bag[int]) {
			b.Del(2)
			b.Put(3)
			b.Del(8)
			b.Put(7)
		},
	}
}

// A bag with room to spare, and one without: a change may go into the same memory, or not.
func twoFourSixEight() []*Bag[int] {
	roomy := New(2, 4, 6, 8)
	for i := range 20 {
		roomy.Put(i + 20)
	}
	for i := range 20 {
		roomy.Del(i + 20)
	}
	return []*Bag[int]{New(8, 6, 4, 2), roomy}
}

// All tells what was there when it was called, not when it is gone through.
func TestAllIsOfWhenItIsCalled(t *testing.T) {
	for name, change := range changes() {
		for _, b := range twoFourSixEight() {
			all := b.All()
			change(b)
			for range 2 {
				if l := slices.Collect(all); !slices.Equal(l, []int{2, 4, 6, 8}) {
					t.Errorf("%s: All: %v", name, l)
				}
			}
		}
	}
}

func TestAllWhileTheBagIsChanged(t *testing.T) {
	for name, change := range changes() {
		for at := range 4 {
			for k := range 2 {
				b, want := twoFourSixEight()[k], twoFourSixEight()[k]
				change(want)
				var l []int
				for x := range b.All() {
					if len(l) == at {
						change(b)
					}
					l = append(l, x)
				}
				if !slices.Equal(l, []int{2, 4, 6, 8}) {
					t.Errorf("%s at number %d: All: %v", name, at, l)
				}
				has(t, b, slices.Collect(want.All())...)
			}
		}
	}
}

func TestAllWhileEachIsTakenOut(t *testing.T) {
	b := New(part(1<<20 - 1)...)
	n := 0
	for x := range b.All() {
		if x != n {
			t.Fatalf("All tells %d as number %d", x, n)
		}
		is(t, "Del", b.Del(x), true)
		is(t, "Put", b.Put(x+100), true)
		n++
	}
	if n != 20 || b.Len() != 20 || b.Has(19) || !b.Has(100) || !b.Has(119) {
		t.Errorf("%d were told, %v are left", n, slices.Collect(b.All()))
	}
}

func TestAllMayBeLeft(t *testing.T) {
	b := New(part(1<<20 - 1)...)
	for stop := range 20 {
		told := 0
		b.All()(func(x int) bool {
			if x != told {
				t.Fatalf("All tells %d as number %d", x, told)
			}
			told++
			return x != stop
		})
		if told != stop+1 {
			t.Fatalf("left at %d, %d were told", stop, told)
		}
	}
	has(t, b, part(1<<20-1)...)
}

func TestAllWithinAll(t *testing.T) {
	b := New(3, 1, 2)
	all := b.All()
	n := 0
	for range all {
		if l := slices.Collect(all); !slices.Equal(l, []int{1, 2, 3}) {
			t.Fatalf("All within All: %v", l)
		}
		n++
	}
	if n != 3 {
		t.Errorf("%d were told", n)
	}
}

// What All told is the asker's.
func TestAllIsNewMemory(t *testing.T) {
	b := New(1, 2, 3)
	all := b.All()
	l, other := slices.Collect(all), slices.Collect(all)
	l[0] = 77
	l = append(l[:1], 78)
	has(t, b, 1, 2, 3)
	if !slices.Equal(other, []int{1, 2, 3}) || !slices.Equal(slices.Collect(all), []int{1, 2, 3}) {
		t.Errorf("All: %v, behind %v", other, l)
	}
}

// P8.3

// All pairs of parts of some numbers.
func TestJoinAndLessOfEachSmallPair(t *testing.T) {
	const n = 6
	for x := range 1 << n {
		for y := range 1 << n {
			b, o := New(part(x)...), New(part(y)...)
			b.Join(o)
			has(t, b, part(x|y)...)
			has(t, o, part(y)...)

			b = New(part(x)...)
			b.Less(o)
			has(t, b, part(x&^y)...)
			has(t, o, part(y)...)
		}
	}
}

func TestJoinAndLessOfTexts(t *testing.T) {
	l := texts()
	b, o := New(l[:12]...), New(l[8:]...)
	b.Join(o)
	isLike(t, b, slowOf(l...))
	isLike(t, o, slowOf(l[8:]...))
	b.Less(o)
	isLike(t, b, slowOf(l[:8]...), l...)
	isLike(t, o, slowOf(l[8:]...))
}

func TestJoinAndLessOfEdges(t *testing.T) {
	l := edges()
	for cut := range l {
		b, o := New(l[:cut]...), New(l[cut:]...)
		want := slowOf(l[:cut]...)
		for _, x := range l[cut:] {
			want.put(x)
		}
		b.Join(o)
		isLike(t, b, want)
		for _, x := range l[cut:] {
			want.del(x)
		}
		b.Less(o)
		isLike(t, b, want, l...)
		isLike(t, o, slowOf(l[cut:]...))
	}
}

func TestOfItself(t *testing.T) {
	for bits := range 1 << 7 {
		b := New(part(bits)...)
		b.Join(b)
		has(t, b, part(bits)...)
		b.Less(b)
		has(t, b)
		b.Less(b)
		b.Join(b)
		has(t, b)
		is(t, "Put", b.Put(4), true)
		has(t, b, 4)
	}
}

// Behind Join and Less, a change of the one is none of the other.
func TestJoinedAreApart(t *testing.T) {
	for _, first := range [][]int{nil, {5}, {1, 2, 3}, {1, 9}} {
		for _, use := range []func(b, o *Bag[int]){(*Bag[int]).Join, (*Bag[int]).Less} {
			b, o := New(first...), New(2, 4, 6)
			use(b, o)
			before := slices.Collect(b.All())
			is(t, "Del", o.Del(2), true)
			is(t, "Put", o.Put(3), true)
			is(t, "Put", o.Put(8), true)
			has(t, b, before...)
			for i := range 10 {
				b.Del(i)
			}
			has(t, o, 3, 4, 6, 8)
			for i := range 10 {
				b.Put(i * 10)
			}
			has(t, o, 3, 4, 6, 8)
		}
	}
}

func TestJoinAndLessOfMany(t *testing.T) {
	const n = 20000
	var twos, threes []int
	for i := range n {
		if i%2 == 0 {
			twos = append(twos, i)
		}
		if i%3 == 0 {
			threes = append(threes, i)
		}
	}
	b, o := New(twos...), New(threes...)
	b.Join(o)
	next := 0
	for x := range b.All() {
		for next%2 != 0 && next%3 != 0 {
			next++
		}
		if x != next {
			t.Fatalf("All tells %d, not %d", x, next)
		}
		next++
	}
	b.Less(o)
	for x := range b.All() {
		if x%2 != 0 || x%3 == 0 {
			t.Fatalf("%d is there", x)
		}
	}
	if b.Len() != n/3 || o.Len() != len(threes) {
		t.Errorf("Len: %d, %d", b.Len(), o.Len())
	}
}

// The nil Bag, and the rules that hold everywhere

func nilBag[T cmp.Ordered](t *testing.T, l ...T) {
	t.Helper()
	var b *Bag[T]
	var zero T
	is(t, "Len", b.Len() == 0, true)
	b.Join(New(l...))
	b.Less(New(l...))
	b.Join(nil)
	b.Less(nil)
	for _, x := range l {
		is(t, "Put", b.Put(x), false)
		is(t, "Has", b.Has(x), false)
		is(t, "Del", b.Del(x), false)
		if y, ok := b.First(x); y != zero || ok {
			t.Errorf("First(%v): %v, %v", x, y, ok)
		}
	}
	for x := range b.All() {
		t.Errorf("All tells %v", x)
	}

	a := New(l...)
	a.Join(b)
	isLike(t, a, slowOf(l...))
	a.Less(b)
	isLike(t, a, slowOf(l...))
	a.Join(nil)
	a.Less(nil)
	isLike(t, a, slowOf(l...))
}

func TestNil(t *testing.T) {
	nilBag(t, edges()...)
	nilBag(t, texts()...)
	nilBag[uint8](t)
}

func TestBagsAreApart(t *testing.T) {
	l := []int{1, 2, 3}
	a, b := New(l...), New(l...)
	is(t, "Del", a.Del(2), true)
	is(t, "Put", b.Put(2), false)
	is(t, "Put", a.Put(9), true)
	has(t, a, 1, 3, 9)
	has(t, b, 1, 2, 3)
	is(t, "Del", b.Del(3), true)
	has(t, a, 1, 3, 9)
	has(t, b, 1, 2)
}

// A long walk of calls of all kinds on two bags, held against the slow ones behind each.
func TestWalk(t *testing.T) {
	for seed := range int64(60) {
		r := rand.New(rand.NewSource(seed))
		n := 2 + r.Intn(30)
		bags, slows := []*Bag[int]{New[int](), New[int]()}, []*slow[int]{slowOf[int](), slowOf[int]()}
		for range 200 {
			stepBoth(t, r, n, bags, slows)
			for i := range bags {
				isLike(t, bags[i], slows[i], -1, 0, r.Intn(n), n)
			}
		}
	}
}

// stepBoth does one call on a bag and its slow one, and holds the answers against each other.
func stepBoth(t *testing.T, r *rand.Rand, n int, bags []*Bag[int], slows []*slow[int]) {
	t.Helper()
	i, k, x := r.Intn(2), r.Intn(2), r.Intn(n)
	other := slices.Clone(slows[k].l)
	switch r.Intn(20) {
	case 0:
		bags[i].Join(bags[k])
		for _, y := range other {
			slows[i].put(y)
		}
	case 1:
		bags[i].Less(bags[k])
		for _, y := range other {
			slows[i].del(y)
		}
	case 2, 3, 4, 5, 6, 7:
		is(t, "Del", bags[i].Del(x), slows[i].del(x))
	default:
		is(t, "Put", bags[i].Put(x), slows[i].put(x))
	}
}
