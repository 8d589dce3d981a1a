package gray

import (
	"math"
	"math/rand"
	"slices"
	"testing"
)

// slow is a list by its whole history: nothing is kept but what was done, and each answer is worked out of that from the first one on.
type slow struct {
	deeds []deed
}

// deed makes one thing of one color.
type deed struct {
	x     int
	color Color
}

func (s *slow) color(x int) Color {
	for _, d := range slices.Backward(s.deeds) {
		if d.x == x {
			return d.color
		}
	}
	return White
}

// waiting are those that are gray: each stands where its last deed does.
func (s *slow) waiting() []int {
	var l []int
	for i, d := range s.deeds {
		later := slices.ContainsFunc(s.deeds[i+1:], func(o deed) bool { return o.x == d.x })
		if d.color == Gray && !later {
			l = append(l, d.x)
		}
	}
	return l
}

func (s *slow) done() []int {
	var l []int
	for _, d := range s.deeds {
		if s.color(d.x) == Black {
			l = append(l, d.x)
		}
	}
	slices.Sort(l)
	return slices.Compact(l)
}

func (s *slow) turn(x int, from []Color, to Color) bool {
	if !slices.Contains(from, s.color(x)) {
		return false
	}
	s.deeds = append(s.deeds, deed{x, to})
	return true
}

func (s *slow) put(l ...int) int {
	n := 0
	for _, x := range l {
		if s.turn(x, []Color{White}, Gray) {
			n++
		}
	}
	return n
}

func (s *slow) next() (int, bool) {
	l := s.waiting()
	if len(l) == 0 {
		return 0, false
	}
	return l[0], s.turn(l[0], []Color{Gray}, Black)
}

func (s *slow) again(x int) bool { return s.turn(x, []Color{Black}, Gray) }
func (s *slow) paint(x int) bool { return s.turn(x, []Color{White, Gray}, Black) }

// holdAll has both tell the same of all things, and nothing else changed by that.
func holdAll(t *testing.T, l *List, s *slow, things []int) {
	t.Helper()
	if got, want := l.Len(), len(s.waiting()); got != want {
		t.Fatalf("Len: %d, not %d", got, want)
	}
	if got, want := l.Done(), s.done(); !slices.Equal(got, want) {
		t.Fatalf("Done: %v, not %v", got, want)
	}
	for _, x := range things {
		if got, want := l.Color(x), s.color(x); got != want {
			t.Fatalf("Color(%d): %d, not %d", x, got, want)
		}
	}
}

// empty goes on till none waits, and has both tell the same.
func empty(t *testing.T, l *List, s *slow) {
	t.Helper()
	for range len(s.waiting()) + 2 {
		holdNext(t, l, s)
	}
}

func holdNext(t *testing.T, l *List, s *slow) {
	t.Helper()
	got, ok := l.Next()
	want, wantOk := s.next()
	if got != want || ok != wantOk {
		t.Fatalf("Next: %d, %v, not %d, %v", got, ok, want, wantOk)
	}
}

// P14.1, P14.2: the chapter's example.
func TestExample(t *testing.T) {
	l := New()
	if n := l.Put(4, 7, 4); n != 2 {
		t.Errorf("Put(4, 7, 4): %d", n)
	}
	if x, ok := l.Next(); x != 4 || !ok {
		t.Errorf("Next: %d, %v", x, ok)
	}
	if n := l.Put(4); n != 0 {
		t.Errorf("Put(4): %d", n)
	}
	if !l.Again(4) {
		t.Error("Again(4): false")
	}
	for _, want := range []int{7, 4} {
		if x, ok := l.Next(); x != want || !ok {
			t.Errorf("Next: %d, %v, not %d", x, ok, want)
		}
	}
	if x, ok := l.Next(); x != 0 || ok {
		t.Errorf("Next of none: %d, %v", x, ok)
	}
}

// P14.1: the colors by their numbers.
func TestColors(t *testing.T) {
	if White != 0 || Gray != 1 || Black != 2 {
		t.Error(White, Gray, Black)
	}
}

// P14.1: a new one: all is white, none waits, none is done.
func TestNew(t *testing.T) {
	l := New()
	for _, x := range []int{0, 1, -1, math.MinInt, math.MaxInt} {
		if c := l.Color(x); c != White {
			t.Errorf("Color(%d): %d", x, c)
		}
		if l.Again(x) {
			t.Errorf("Again(%d): true", x)
		}
		if c := l.Color(x); c != White {
			t.Errorf("Color(%d) behind Again: %d", x, c)
		}
	}
	if x, ok := l.Next(); x != 0 || ok {
		t.Errorf("Next: %d, %v", x, ok)
	}
	if l.Len() != 0 || len(l.Done()) != 0 {
		t.Error(l.Len(), l.Done())
	}
}

// P14.1: Put of nothing, of an empty list, and of one thing many times.
func TestPutCounts(t *testing.T) {
	l := New()
	if l.Put() != 0 || l.Put([]int{}...) != 0 || l.Put(nil...) != 0 || l.Len() != 0 {
		t.Error("nothing was put, but counted")
	}
	if n := l.Put(3, 3, 3); n != 1 || l.Len() != 1 {
		t.Errorf("Put(3, 3, 3): %d, Len %d", n, l.Len())
	}
	l.Paint(5)
	if n := l.Put(5, 3, 6, 5, 6); n != 1 || l.Len() != 2 {
		t.Errorf("Put of one black, one gray and one white thing: %d, Len %d", n, l.Len())
	}
}

// in makes a list of one thing of a color, between two others that wait.
func in(x int, c Color) *List {
	l := New()
	l.Put(-10)
	if c == Gray {
		l.Put(x)
	}
	l.Put(-20)
	if c == Black {
		l.Paint(x)
	}
	return l
}

// P14.1, P14.2: what each call does with a thing of each color; 0 is a thing like others.
func TestEachColor(t *testing.T) {
	for _, x := range []int{0, 1, -1, math.MinInt, math.MaxInt} {
		for _, c := range []struct {
			name   string
			from   Color
			do     func(l *List) bool
			want   bool
			to     Color
			behind []int
		}{
			{"Put", White, func(l *List) bool { return l.Put(x) == 1 }, true, Gray, []int{-10, -20, x}},
			{"Put", Gray, func(l *List) bool { return l.Put(x) == 1 }, false, Gray, []int{-10, x, -20}},
			{"Put", Black, func(l *List) bool { return l.Put(x) == 1 }, false, Black, []int{-10, -20}},
			{"Again", White, func(l *List) bool { return l.Again(x) }, false, White, []int{-10, -20}},
			{"Again", Gray, func(l *List) bool { return l.Again(x) }, false, Gray, []int{-10, x, -20}},
			{"Again", Black, func(l *List) bool { return l.Again(x) }, true, Gray, []int{-10, -20, x}},
			{"Paint", White, func(l *List) bool { return l.Paint(x) }, true, Black, []int{-10, -20}},
			{"Paint", Gray, func(l *List) bool { return l.Paint(x) }, true, Black, []int{-10, -20}},
			{"Paint", Black, func(l *List) bool { return l.Paint(x) }, false, Black, []int{-10, -20}},
		} {
			l := in(x, c.from)
			if got := l.Color(x); got != c.from {
				t.Fatalf("%d is of the color %d, not %d", x, got, c.from)
			}
			if got := c.do(l); got != c.want {
				t.Errorf("%s of %d of the color %d: %v", c.name, x, c.from, got)
			}
			if got := l.Color(x); got != c.to {
				t.Errorf("%s of %d of the color %d: it is %d, not %d", c.name, x, c.from, got, c.to)
			}
			if got := l.Len(); got != len(c.behind) {
				t.Errorf("%s of %d of the color %d: %d wait, not %d", c.name, x, c.from, got, len(c.behind))
			}
			if got := rest(l); !slices.Equal(got, c.behind) {
				t.Errorf("%s of %d of the color %d: %v wait, not %v", c.name, x, c.from, got, c.behind)
			}
		}
	}
}

// rest are all that wait, in order.
func rest(l *List) []int {
	var got []int
	for x, ok := l.Next(); ok; x, ok = l.Next() {
		got = append(got, x)
	}
	return got
}

// P14.1: the first, one between, the last and the only one of those that wait are painted, and the others stay in order; then others come behind.
func TestPaintAtAllPlaces(t *testing.T) {
	for n := 1; n <= 5; n++ {
		for out := range 1 << n {
			l := New()
			var want []int
			for x := range n {
				l.Put(x)
			}
			for x := n - 1; x >= 0; x-- {
				if out>>x&1 == 1 && !l.Paint(x) {
					t.Fatalf("Paint(%d): false", x)
				}
			}
			for x := range n {
				if out>>x&1 == 0 {
					want = append(want, x)
				}
			}
			if l.Put(n) != 1 || l.Len() != len(want)+1 {
				t.Fatalf("%d of %b: %d wait", n, out, l.Len())
			}
			if got := rest(l); !slices.Equal(got, append(want, n)) {
				t.Fatalf("%d of %b: %v", n, out, got)
			}
			if got := l.Done(); len(got) != n+1 || !slices.IsSorted(got) {
				t.Fatalf("%d of %b: %v done", n, out, got)
			}
		}
	}
}

// P14.2: Next tells in the order in which things became gray, not in that of their numbers; a none changes nothing, and what comes behind it is told.
func TestNextOrder(t *testing.T) {
	l := New()
	l.Put(9, -3, 0)
	l.Put(0, 2, 9, math.MinInt)
	l.Put(math.MaxInt)
	if got := rest(l); !slices.Equal(got, []int{9, -3, 0, 2, math.MinInt, math.MaxInt}) {
		t.Error(got)
	}
	for range 3 {
		if x, ok := l.Next(); x != 0 || ok {
			t.Errorf("Next of none: %d, %v", x, ok)
		}
	}
	if l.Len() != 0 || !slices.Equal(l.Done(), []int{math.MinInt, -3, 0, 2, 9, math.MaxInt}) {
		t.Error(l.Len(), l.Done())
	}
	l.Put(1)
	l.Again(9)
	if got := rest(l); !slices.Equal(got, []int{1, 9}) {
		t.Error(got)
	}
}

// P14.2: Done doesn't have what waits, be it again.
func TestDone(t *testing.T) {
	l := New()
	l.Put(5, 1, 3)
	if len(l.Done()) != 0 {
		t.Error(l.Done())
	}
	l.Next()
	l.Paint(8)
	l.Paint(-8)
	if got := l.Done(); !slices.Equal(got, []int{-8, 5, 8}) {
		t.Error(got)
	}
	l.Again(5)
	if got := l.Done(); !slices.Equal(got, []int{-8, 8}) {
		t.Error(got)
	}
	rest(l)
	if got := l.Done(); !slices.Equal(got, []int{-8, 1, 3, 5, 8}) {
		t.Error(got)
	}
}

// P14.2: Done of many, told in any order, rises and has each once.
func TestDoneOfMany(t *testing.T) {
	l := New()
	const n = 2000
	for _, x := range rand.New(rand.NewSource(3)).Perm(n) {
		l.Put(x - n/2)
	}
	rest(l)
	got := l.Done()
	for i, x := range got {
		if x != i-n/2 {
			t.Fatalf("%d at %d", x, i)
		}
	}
	if len(got) != n {
		t.Error(len(got))
	}
}

// P14.3: all that is put is told or painted, each once, and once more for each Again.
func TestToldOnce(t *testing.T) {
	r := rand.New(rand.NewSource(14))
	for range 50 {
		l, told, due := New(), map[int]int{}, map[int]int{}
		for range 300 {
			x := r.Intn(30)
			switch r.Intn(5) {
			case 0, 1:
				due[x] += l.Put(x)
			case 2:
				if l.Again(x) {
					due[x]++
				}
			case 3:
				if l.Color(x) == Gray && l.Paint(x) {
					due[x]--
				}
			case 4:
				if x, ok := l.Next(); ok {
					told[x]++
				}
			}
		}
		for _, x := range rest(l) {
			told[x]++
		}
		for x := range 30 {
			if told[x] != due[x] {
				t.Fatalf("%d was told %d times, not %d", x, told[x], due[x])
			}
		}
	}
}

// P14.1, P14.2: long random walks, held against the slow one at every step.
func TestWalk(t *testing.T) {
	things := []int{0, 1, 2, -1, 7, 100, math.MinInt, math.MinInt + 1, math.MaxInt, math.MaxInt - 1}
	r := rand.New(rand.NewSource(1))
	for range 60 {
		l, s := New(), &slow{}
		for range 120 {
			step(t, r, l, s, things)
			holdAll(t, l, s, things)
		}
		empty(t, l, s)
		holdAll(t, l, s, things)
	}
}

// step does one call of both.
func step(t *testing.T, r *rand.Rand, l *List, s *slow, things []int) {
	t.Helper()
	x := things[r.Intn(len(things))]
	switch r.Intn(6) {
	case 0:
		list := make([]int, r.Intn(4))
		for i := range list {
			list[i] = things[r.Intn(len(things))]
		}
		if got, want := l.Put(list...), s.put(list...); got != want {
			t.Fatalf("Put(%v): %d, not %d", list, got, want)
		}
	case 1:
		if got, want := l.Put(x), s.put(x); got != want {
			t.Fatalf("Put(%d): %d, not %d", x, got, want)
		}
	case 2, 3:
		if got, want := l.Again(x), s.again(x); got != want {
			t.Fatalf("Again(%d): %v, not %v", x, got, want)
		}
	case 4:
		if got, want := l.Paint(x), s.paint(x); got != want {
			t.Fatalf("Paint(%d): %v, not %v", x, got, want)
		}
	case 5:
		holdNext(t, l, s)
	}
}

// P14.1, P14.2: all rows of six calls on two things.
func TestAllShortRows(t *testing.T) {
	const calls, length = 7, 6
	rows := 1
	for range length {
		rows *= calls
	}
	for row := range rows {
		l, s := New(), &slow{}
		left := row
		for range length {
			call(t, left%calls, l, s)
			left /= calls
		}
		holdAll(t, l, s, []int{0, 1})
		empty(t, l, s)
	}
}

func call(t *testing.T, which int, l *List, s *slow) {
	t.Helper()
	x := which % 2
	ok := true
	switch which / 2 {
	case 0:
		ok = l.Put(x) == s.put(x)
	case 1:
		ok = l.Again(x) == s.again(x)
	case 2:
		ok = l.Paint(x) == s.paint(x)
	case 3:
		holdNext(t, l, s)
	}
	if !ok {
		t.Fatalf("call %d is answered otherwise", which)
	}
}

// Rule 4: what is handed in stays as it is, and isn't kept; what lies behind its length isn't read.
func TestHandedIn(t *testing.T) {
	l := New()
	whole := []int{4, 2, 4, 9, 8}
	if n := l.Put(whole[:3]...); n != 2 {
		t.Error(n)
	}
	if !slices.Equal(whole, []int{4, 2, 4, 9, 8}) {
		t.Error(whole)
	}
	clear(whole)
	if l.Color(9) != White || l.Color(0) != White {
		t.Error("what lies behind the list, or was written over it, is told")
	}
	if got := rest(l); !slices.Equal(got, []int{4, 2}) {
		t.Error(got)
	}
}

// Rule 4: Done is new memory each time.
func TestDoneIsNew(t *testing.T) {
	l := New()
	l.Put(3, 1, 2)
	rest(l)
	a, b := l.Done(), l.Done()
	clear(a[:cap(a)])
	if !slices.Equal(b, []int{1, 2, 3}) || !slices.Equal(l.Done(), []int{1, 2, 3}) || l.Color(0) != White {
		t.Error(b, l.Done())
	}
}

// P1: a nil list.
func TestNil(t *testing.T) {
	var l *List
	if l.Put() != 0 || l.Put(1, 2) != 0 || l.Again(1) || l.Paint(1) || l.Len() != 0 || l.Color(1) != White || len(l.Done()) != 0 {
		t.Error("a nil list tells something")
	}
	if x, ok := l.Next(); x != 0 || ok {
		t.Error(x, ok)
	}
}

// P2: two lists have nothing to do with one another.
func TestTwoApart(t *testing.T) {
	a, b := New(), New()
	a.Put(1, 2, 3)
	a.Next()
	if b.Len() != 0 || b.Color(1) != White || b.Color(2) != White || len(b.Done()) != 0 {
		t.Error("b tells what a was told")
	}
	b.Put(2, 5)
	b.Paint(3)
	if got := rest(a); !slices.Equal(got, []int{2, 3}) {
		t.Error(got)
	}
	if got := rest(b); !slices.Equal(got, []int{2, 5}) {
		t.Error(got)
	}
}

// P1: no call's time grows with how many wait, and what was painted takes no place among them.
func TestMany(t *testing.T) {
	l := New()
	const n = 200000
	all := make([]int, n)
	for x := range all {
		all[x] = x
	}
	if l.Put(all...) != n {
		t.Error("Put")
	}
	for x := n - 2; x > 0; x-- {
		if !l.Paint(x) {
			t.Fatal("Paint", x)
		}
	}
	for range n {
		if !l.Again(n/2) || !l.Paint(n/2) {
			t.Fatal("Again, Paint")
		}
	}
	if got := rest(l); !slices.Equal(got, []int{0, n - 1}) || len(l.Done()) != n {
		t.Error(got, len(l.Done()))
	}
}

// P14.1: turn by turn painted and black again, a thing keeps no more memory than one thing.
func TestNothingIsHeaped(t *testing.T) {
	l := New()
	l.Put(1)
	per := testing.AllocsPerRun(1000, func() {
		l.Paint(1)
		l.Again(1)
	})
	if per != 0 {
		t.Errorf("%v pieces of memory for each turn", per)
	}
}
