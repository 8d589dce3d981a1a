package bitmap

import (
	"math"
	"slices"
	"testing"

	"turnrow/api"
)

// slow is a map as a list of bools: each question goes place by place, so that it shares nothing with what is tested.
type slow []bool

func (s slow) has(i int) bool { return i >= 0 && i < len(s) && s[i] }

func (s slow) count() int { return len(s.all()) }

func (s slow) first(from int) (int, bool) {
	for i := range s {
		if i >= from && !s[i] {
			return i, true
		}
	}
	return 0, false
}

func (s slow) run(n int) (int, bool) {
	row := 0
	for i := range s {
		row++
		if s[i] {
			row = 0
		}
		if n >= 1 && row >= n {
			return i - n + 1, true
		}
	}
	return 0, false
}

func (s slow) all() []int {
	var l []int
	for i, on := range s {
		if on {
			l = append(l, i)
		}
	}
	return l
}

func newMap(t *testing.T, n int) *Map {
	t.Helper()
	m, e := New(n)
	if e != api.OK || m == nil {
		t.Fatalf("New(%d): %v, %v", n, m, e)
	}
	return m
}

// mapOf has the places of s on, each by a Set of its own.
func mapOf(t *testing.T, s slow) *Map {
	t.Helper()
	m := newMap(t, len(s))
	for _, i := range s.all() {
		if e := m.Set(i, true); e != api.OK {
			t.Fatalf("Set(%d) of %d: %v", i, len(s), e)
		}
	}
	return m
}

// isLike holds each place of m against s.
func isLike(t *testing.T, m *Map, s slow) {
	t.Helper()
	if m.Len() != len(s) {
		t.Fatalf("Len is %d, not %d", m.Len(), len(s))
	}
	for i := -2; i < len(s)+70; i++ {
		if m.Has(i) != s.has(i) {
			t.Fatalf("Has(%d) of %d is %v", i, len(s), m.Has(i))
		}
	}
	if m.Count() != s.count() {
		t.Fatalf("Count is %d, not %d", m.Count(), s.count())
	}
	if l := slices.Collect(m.All()); !slices.Equal(l, s.all()) {
		t.Fatalf("All is %v, not %v", l, s.all())
	}
}

// answersLike holds what First and Run tell against s.
func answersLike(t *testing.T, m *Map, s slow, from, n int) {
	t.Helper()
	i, ok := m.First(from)
	if j, want := s.first(from); i != j || ok != want {
		t.Fatalf("First(%d) of %v on of %d: %d, %v, not %d, %v", from, s.all(), len(s), i, ok, j, want)
	}
	i, ok = m.Run(n)
	if j, want := s.run(n); i != j || ok != want {
		t.Fatalf("Run(%d) of %v on of %d: %d, %v, not %d, %v", n, s.all(), len(s), i, ok, j, want)
	}
}

func someLengths() []int {
	return []int{1, 2, 3, 8, 62, 63, 64, 65, 66, 127, 128, 129, 130, 192, 193}
}

// patterns are maps of n places that differ in where they are on.
func patterns(n int) []slow {
	rules := []func(i int) bool{
		func(i int) bool { return false },
		func(i int) bool { return true },
		func(i int) bool { return i == 0 },
		func(i int) bool { return i == n-1 },
		func(i int) bool { return i != 0 },
		func(i int) bool { return i != n-1 },
		func(i int) bool { return i%2 == 0 },
		func(i int) bool { return i%3 == 1 },
		func(i int) bool { return i%17 > 11 },
		func(i int) bool { return i%64 == 63 },
		func(i int) bool { return i%64 == 0 },
		func(i int) bool { return i/64%2 == 0 },
		func(i int) bool { return i/64%2 == 1 },
		func(i int) bool { return i < 61 || i > 66 },
		func(i int) bool { return i*i%7 < 3 && i%5 != 1 },
		func(i int) bool { return i < n/2 },
		func(i int) bool { return i >= n/2 },
	}
	var l []slow
	for _, rule := range rules {
		s := make(slow, n)
		for i := range s {
			s[i] = rule(i)
		}
		l = append(l, s)
	}
	return l
}

// wrongPlaces are none of a map of n places.
func wrongPlaces(n int) []int {
	return []int{
		-1, -2, -63, -64, -65, n, n + 1, n + 63, n + 64, 1 << 20, 1<<20 + 1, 1 << 32, 1<<32 + 1, -1 << 32,
		math.MinInt, math.MinInt + 1, math.MinInt + 64, math.MaxInt, math.MaxInt - 1, math.MaxInt - 63,
	}
}

// P2.1

func TestNewIsOff(t *testing.T) {
	for n := 1; n <= 300; n++ {
		isLike(t, newMap(t, n), make(slow, n))
	}
}

func TestNewOfTheMost(t *testing.T) {
	m := newMap(t, api.MaxBits)
	if m.Len() != 1<<20 || m.Count() != 0 || m.Has(0) || m.Has(1<<20-1) || m.Has(1<<20) {
		t.Error(m.Len(), m.Count())
	}
	if e := m.Set(1<<20-1, true); e != api.OK || !m.Has(1<<20-1) || m.Has(1<<20-2) || m.Count() != 1 {
		t.Error(e, m.Count())
	}
	if i, ok := m.Run(1<<20 - 1); i != 0 || !ok {
		t.Error(i, ok)
	}
	if i, ok := m.Run(1 << 20); i != 0 || ok {
		t.Error(i, ok)
	}
	if e := m.Fill(0, 1<<20, true); e != api.OK || m.Count() != 1<<20 {
		t.Error(e, m.Count())
	}
	if e := m.Set(1<<20-1, false); e != api.OK {
		t.Error(e)
	}
	if i, ok := m.First(0); i != 1<<20-1 || !ok {
		t.Error(i, ok)
	}
	if i, ok := m.Run(1); i != 1<<20-1 || !ok {
		t.Error(i, ok)
	}
}

func TestNewOfWrongLengths(t *testing.T) {
	for _, n := range []int{0, -1, -64, math.MinInt, math.MinInt + 1, 1<<20 + 1, 1<<20 + 64, 1 << 32, math.MaxInt - 63, math.MaxInt} {
		if m, e := New(n); m != nil || e != api.ErrRange {
			t.Errorf("New(%d): %v, %v", n, m, e)
		}
	}
}

func TestHasOfNoPlace(t *testing.T) {
	for _, n := range someLengths() {
		m := newMap(t, n)
		m.Fill(0, n, true)
		for _, i := range wrongPlaces(n) {
			if m.Has(i) {
				t.Errorf("Has(%d) of %d", i, n)
			}
		}
	}
}

// P2.2

func TestSetOfEachPlace(t *testing.T) {
	for _, n := range someLengths() {
		for _, s := range patterns(n) {
			m := mapOf(t, s)
			isLike(t, m, s)
			for i := range n {
				for _, on := range []bool{!s[i], !s[i], s[i], s[i]} {
					before := s[i]
					s[i] = on
					if e := m.Set(i, on); e != api.OK || m.Has(i) != on || m.Count() != s.count() {
						t.Fatalf("Set(%d, %v) of %d: %v", i, on, n, e)
					}
					s[i] = before
				}
			}
			isLike(t, m, s)
		}
	}
}

func TestSetTurnsOneAlone(t *testing.T) {
	for _, n := range []int{1, 64, 65, 130} {
		for i := range n {
			s := make(slow, n)
			m := newMap(t, n)
			m.Set(i, true)
			s[i] = true
			isLike(t, m, s)
			m.Fill(0, n, true)
			m.Set(i, false)
			for k := range s {
				s[k] = k != i
			}
			isLike(t, m, s)
		}
	}
}

func TestSetOfNoPlace(t *testing.T) {
	for _, n := range someLengths() {
		for _, s := range patterns(n) {
			m := mapOf(t, s)
			for _, i := range wrongPlaces(n) {
				if m.Set(i, true) != api.ErrRange || m.Set(i, false) != api.ErrRange {
					t.Errorf("Set(%d) of %d", i, n)
				}
			}
			isLike(t, m, s)
		}
	}
}

func TestFillOfEachPart(t *testing.T) {
	for _, size := range []int{1, 3, 64, 65, 131} {
		for _, on := range []bool{true, false} {
			for from := 0; from <= size; from++ {
				for n := 0; n <= size-from; n++ {
					m := newMap(t, size)
					m.Fill(0, size, !on)
					if e := m.Fill(from, n, on); e != api.OK {
						t.Fatalf("Fill(%d, %d) of %d: %v", from, n, size, e)
					}
					for i := range size {
						if m.Has(i) != (on == (i >= from && i < from+n)) {
							t.Fatalf("Has(%d) behind Fill(%d, %d, %v) of %d", i, from, n, on, size)
						}
					}
				}
			}
		}
	}
}

func TestFillOverPatterns(t *testing.T) {
	for _, n := range someLengths() {
		for _, s := range patterns(n) {
			for _, c := range [][2]int{{0, n}, {0, 0}, {n, 0}, {0, 1}, {n - 1, 1}, {n / 2, n - n/2}, {n / 3, n / 3}} {
				for _, on := range []bool{true, false} {
					m, want := mapOf(t, s), slices.Clone(s)
					for i := c[0]; i < c[0]+c[1]; i++ {
						want[i] = on
					}
					if e := m.Fill(c[0], c[1], on); e != api.OK {
						t.Fatalf("Fill(%d, %d) of %d: %v", c[0], c[1], n, e)
					}
					isLike(t, m, want)
				}
			}
		}
	}
}

func TestFillBeyond(t *testing.T) {
	for _, n := range someLengths() {
		wrong := [][2]int{
			{0, -1}, {n, -1}, {1, -1}, {0, n + 1}, {1, n}, {n, 1}, {n - 1, 2}, {n + 1, 0}, {n + 1, -1}, {-1, 0}, {-1, 1}, {-1, 2}, {-1, n + 1}, {-n, n},
			{math.MaxInt, 1}, {1, math.MaxInt}, {math.MaxInt, math.MaxInt}, {math.MaxInt, 0}, {math.MinInt, 0}, {math.MinInt, 1},
			{0, math.MinInt}, {n, math.MinInt}, {math.MinInt, math.MinInt}, {math.MinInt, math.MaxInt}, {math.MaxInt, math.MinInt}, {n, math.MaxInt}, {0, math.MaxInt},
			{math.MaxInt - 1, 2}, {2, math.MaxInt - 1}, {1, math.MaxInt - 1}, {-1, math.MaxInt}, {1 << 62, 1 << 62}, {-1 << 62, 1 << 62},
		}
		for _, s := range patterns(n) {
			m := mapOf(t, s)
			for _, c := range wrong {
				if e := m.Fill(c[0], c[1], true); e != api.ErrRange {
					t.Errorf("Fill(%d, %d, true) of %d: %v", c[0], c[1], n, e)
				}
				if e := m.Fill(c[0], c[1], false); e != api.ErrRange {
					t.Errorf("Fill(%d, %d, false) of %d: %v", c[0], c[1], n, e)
				}
			}
			isLike(t, m, s)
		}
	}
}

// P2.3

func TestExample(t *testing.T) {
	m := mapOf(t, slow{true, true, false, true, false, false, false, false})
	if i, ok := m.First(0); i != 2 || !ok {
		t.Error("First", i, ok)
	}
	if i, ok := m.Run(2); i != 4 || !ok {
		t.Error("Run", i, ok)
	}
	if l := slices.Collect(m.All()); !slices.Equal(l, []int{0, 1, 3}) || m.Count() != 3 {
		t.Error("All", l, m.Count())
	}
}

func TestQuestionsOfEachSmallMap(t *testing.T) {
	for n := 1; n <= 9; n++ {
		for x := range 1 << n {
			s := make(slow, n)
			for i := range s {
				s[i] = x>>i&1 == 1
			}
			m := mapOf(t, s)
			isLike(t, m, s)
			for k := -2; k <= n+2; k++ {
				answersLike(t, m, s, k, k)
			}
		}
	}
}

func TestQuestionsOfPatterns(t *testing.T) {
	for _, n := range someLengths() {
		for _, s := range patterns(n) {
			m := mapOf(t, s)
			for k := -3; k <= n+70; k++ {
				answersLike(t, m, s, k, k)
			}
			for _, k := range wrongPlaces(n) {
				answersLike(t, m, s, k, k)
			}
			isLike(t, m, s)
		}
	}
}

func TestRunsAcrossWords(t *testing.T) {
	// All but one gap are on: Run finds the gap just if it is long enough.
	const size = 200
	for from := range size {
		for _, n := range []int{1, 2, 63, 64, 65, 128, 129} {
			if from+n > size {
				continue
			}
			m := newMap(t, size)
			m.Fill(0, size, true)
			m.Fill(from, n, false)
			if i, ok := m.Run(n); i != from || !ok {
				t.Fatalf("Run(%d): %d, %v, not %d", n, i, ok, from)
			}
			if i, ok := m.Run(n + 1); i != 0 || ok {
				t.Fatalf("Run(%d): %d, %v", n+1, i, ok)
			}
		}
	}
}

func TestRunTakesTheLeast(t *testing.T) {
	// Gaps of 1, 2, 5, 3, 5 places; the last one ends at the last place.
	s := slow{}
	for _, gap := range []int{1, 2, 5, 3, 5} {
		s = append(s, true)
		s = append(s, make(slow, gap)...)
	}
	m := mapOf(t, s)
	for n, want := range map[int]int{1: 1, 2: 3, 3: 6, 4: 6, 5: 6} {
		if i, ok := m.Run(n); i != want || !ok {
			t.Errorf("Run(%d): %d, %v, not %d", n, i, ok, want)
		}
	}
	m.Set(8, true)
	if i, ok := m.Run(5); i != len(s)-5 || !ok {
		t.Error("a run that ends at the last place:", i, ok)
	}
	if i, ok := m.Run(6); i != 0 || ok {
		t.Error(i, ok)
	}
}

// All, in the midst of changes

func TestAllTellsThePlacesAsTheyAreComeTo(t *testing.T) {
	for _, n := range []int{10, 64, 70, 200} {
		m := newMap(t, n)
		for _, i := range []int{0, 3, 4, n - 2} {
			m.Set(i, true)
		}
		var l []int
		for i := range m.All() {
			l = append(l, i)
			switch i {
			case 0:
				m.Set(3, false) // ahead: not told
				m.Set(5, true)  // ahead: told
				m.Set(0, false) // the one that is told
			case 4:
				m.Set(1, true) // behind: not told any more
				m.Set(4, false)
				m.Set(4, true) // the one that is told: not told twice
			case n - 2:
				m.Set(n-1, true)
			}
		}
		if !slices.Equal(l, []int{0, 4, 5, n - 2, n - 1}) {
			t.Errorf("of %d: %v", n, l)
		}
		if again := slices.Collect(m.All()); !slices.Equal(again, []int{1, 4, 5, n - 2, n - 1}) {
			t.Errorf("of %d: %v", n, again)
		}
	}
}

func TestAllGrowsAndEndsInTheMidst(t *testing.T) {
	// Each place turns the next one on: the walk goes to the end.
	m := newMap(t, 150)
	m.Set(0, true)
	want := 0
	for i := range m.All() {
		if i != want {
			t.Fatal(i, want)
		}
		want++
		m.Set(i+1, true)
	}
	if want != 150 {
		t.Error(want)
	}
	// One turns all off: the walk ends there.
	told := 0
	for i := range m.All() {
		told++
		if i == 70 {
			m.Fill(0, 150, false)
		}
	}
	if told != 71 {
		t.Error(told)
	}
}

func TestAllMayBeLeft(t *testing.T) {
	m := newMap(t, 130)
	m.Fill(0, 130, true)
	for stop := range 130 {
		told := 0
		m.All()(func(i int) bool {
			if i != told {
				t.Fatal(i, told)
			}
			told++
			return i != stop
		})
		if told != stop+1 {
			t.Fatalf("left at %d, %d were told", stop, told)
		}
	}
	if m.Count() != 130 {
		t.Error("a walk changed the map")
	}
}

func TestAllIsHandedOutOnceAndWalkedOften(t *testing.T) {
	m := newMap(t, 100)
	all := m.All()
	m.Set(99, true)
	m.Set(7, true)
	for range 2 {
		if l := slices.Collect(all); !slices.Equal(l, []int{7, 99}) {
			t.Error(l)
		}
	}
	pairs := 0
	for i := range all { // two walks of one map, one within the other
		for k := range all {
			if i <= k {
				pairs++
			}
		}
	}
	if pairs != 3 {
		t.Error(pairs)
	}
	m.Set(7, false)
	if l := slices.Collect(all); !slices.Equal(l, []int{99}) {
		t.Error(l)
	}
}

// The nil Map, and the rules that hold everywhere

func TestNilMap(t *testing.T) {
	var m *Map
	for _, i := range append(wrongPlaces(0), 0, 1, 2) {
		for _, on := range []bool{true, false} {
			if e := m.Set(i, on); e != api.ErrNil {
				t.Errorf("Set(%d): %v", i, e)
			}
			for _, n := range []int{0, 1, -1, math.MinInt, math.MaxInt} {
				if e := m.Fill(i, n, on); e != api.ErrNil {
					t.Errorf("Fill(%d, %d): %v", i, n, e)
				}
			}
		}
		if k, ok := m.First(i); k != 0 || ok {
			t.Errorf("First(%d): %d, %v", i, k, ok)
		}
		if k, ok := m.Run(i); k != 0 || ok {
			t.Errorf("Run(%d): %d, %v", i, k, ok)
		}
		if m.Has(i) {
			t.Errorf("Has(%d)", i)
		}
	}
	if m.Len() != 0 || m.Count() != 0 {
		t.Error(m.Len(), m.Count())
	}
	for i := range m.All() {
		t.Error("All tells", i)
	}
}

func TestMapsAreApart(t *testing.T) {
	a, b := newMap(t, 70), newMap(t, 70)
	a.Fill(0, 70, true)
	isLike(t, b, make(slow, 70))
	b.Set(69, true)
	a.Fill(0, 70, false)
	if !b.Has(69) || b.Count() != 1 || a.Count() != 0 {
		t.Error(a.Count(), b.Count())
	}
}

func TestQuestionsChangeNothing(t *testing.T) {
	for _, s := range patterns(130) {
		m := mapOf(t, s)
		for k := -1; k < 140; k++ {
			m.First(k)
			m.Run(k)
			m.Has(k)
		}
		m.Count()
		for range m.All() {
			break
		}
		isLike(t, m, s)
	}
}
