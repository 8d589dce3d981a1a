package remset

import (
	"math"
	"math/rand"
	"slices"
	"testing"

	"turnrow/api"
)

// going is a reference of the slow set, and where it goes.
type going struct {
	source, place, target int
}

// slow is a set on one list in no order, which is gone through for each question, so that it shares nothing with what is tested.
type slow struct {
	l []going
}

func (s *slow) find(r api.Ref) int {
	for i, g := range s.l {
		if g.source == r.Source && g.place == r.Place {
			return i
		}
	}
	return -1
}

func (s *slow) put(r api.Ref, target int) bool {
	i := s.find(r)
	if i >= 0 {
		s.l[i].target = target
		return false
	}
	s.l = append(s.l, going{r.Source, r.Place, target})
	return true
}

// takeOut leaves those of which it isn't asked, and tells how many the others were.
func (s *slow) takeOut(asked func(going) bool) int {
	var left []going
	for _, g := range s.l {
		if !asked(g) {
			left = append(left, g)
		}
	}
	n := len(s.l) - len(left)
	s.l = left
	return n
}

func (s *slow) cut(r api.Ref) bool {
	return s.takeOut(func(g going) bool { return g.source == r.Source && g.place == r.Place }) > 0
}

func (s *slow) forget(source int) int {
	return s.takeOut(func(g going) bool { return g.source == source })
}

func (s *slow) to(r api.Ref) (int, bool) {
	if i := s.find(r); i >= 0 {
		return s.l[i].target, true
	}
	return 0, false
}

// inOrder are the references of which it is asked: each one is laid behind all that go ahead of it.
func (s *slow) inOrder(asked func(going) bool) []api.Ref {
	var l []api.Ref
	for _, g := range s.l {
		if !asked(g) {
			continue
		}
		i := 0
		for i < len(l) && (l[i].Source < g.source || l[i].Source == g.source && l[i].Place < g.place) {
			i++
		}
		l = slices.Insert(l, i, api.Ref{Source: g.source, Place: g.place})
	}
	return l
}

func (s *slow) of(target int) []api.Ref {
	return s.inOrder(func(g going) bool { return g.target == target })
}

func (s *slow) from(source int) []api.Ref {
	return s.inOrder(func(g going) bool { return g.source == source })
}

// pair is a set, the slow one that is like it, and the numbers that are asked of.
type pair struct {
	t       *testing.T
	x       *Set
	s       *slow
	sources []int
	places  []int
	targets []int
}

func newPair(t *testing.T, sources, places, targets []int) *pair {
	t.Helper()
	x := New()
	if x == nil {
		t.Fatal("New: nil")
	}
	return &pair{t, x, &slow{}, sources, places, targets}
}

func (p *pair) put(r api.Ref, target int) {
	p.t.Helper()
	if got, want := p.x.Put(r, target), p.s.put(r, target); got != want {
		p.t.Fatalf("Put(%v, %d): %v", r, target, got)
	}
}

func (p *pair) cut(r api.Ref) {
	p.t.Helper()
	if got, want := p.x.Cut(r), p.s.cut(r); got != want {
		p.t.Fatalf("Cut(%v): %v", r, got)
	}
}

func (p *pair) forget(source int) {
	p.t.Helper()
	if got, want := p.x.Forget(source), p.s.forget(source); got != want {
		p.t.Fatalf("Forget(%d): %d, not %d", source, got, want)
	}
}

// isLike holds all that can be asked of these numbers against the slow set.
func (p *pair) isLike() {
	p.t.Helper()
	if n := p.x.Len(); n != len(p.s.l) {
		p.t.Fatalf("Len: %d, not %d", n, len(p.s.l))
	}
	for _, source := range p.sources {
		for _, place := range p.places {
			p.toIsLike(api.Ref{Source: source, Place: place})
		}
		if got, want := p.x.From(source), p.s.from(source); !slices.Equal(got, want) {
			p.t.Fatalf("From(%d): %v, not %v", source, got, want)
		}
	}
	for _, target := range p.targets {
		if got, want := p.x.Of(target), p.s.of(target); !slices.Equal(got, want) {
			p.t.Fatalf("Of(%d): %v, not %v", target, got, want)
		}
	}
}

func (p *pair) toIsLike(r api.Ref) {
	p.t.Helper()
	got, ok := p.x.To(r)
	if want, wantOk := p.s.to(r); got != want || ok != wantOk {
		p.t.Fatalf("To(%v): %d, %v, not %d, %v", r, got, ok, want, wantOk)
	}
}

// agrees holds the set against itself alone: P11.3.
func (p *pair) agrees() {
	p.t.Helper()
	ofAll, fromAll := 0, 0
	for _, target := range p.targets {
		for _, r := range p.x.Of(target) {
			ofAll++
			if to, ok := p.x.To(r); to != target || !ok {
				p.t.Fatalf("%v is one of Of(%d), and goes to %d, %v", r, target, to, ok)
			}
			if !slices.Contains(p.x.From(r.Source), r) {
				p.t.Fatalf("%v is one of Of(%d), and none of From(%d)", r, target, r.Source)
			}
		}
	}
	for _, source := range p.sources {
		for _, r := range p.x.From(source) {
			fromAll++
			if to, ok := p.x.To(r); r.Source != source || !ok || !slices.Contains(p.x.Of(to), r) {
				p.t.Fatalf("%v is one of From(%d), and none of Of(%d)", r, source, to)
			}
		}
	}
	if n := p.x.Len(); ofAll != n || fromAll != n {
		p.t.Fatalf("%d by targets, %d by sources, %d in all", ofAll, fromAll, n)
	}
}

func ref(source, place int) api.Ref {
	return api.Ref{Source: source, Place: place}
}

func refsAre(t *testing.T, what string, got []api.Ref, want ...api.Ref) {
	t.Helper()
	if !slices.Equal(got, want) {
		t.Errorf("%s: %v, not %v", what, got, want)
	}
}

func goesTo(t *testing.T, s *Set, r api.Ref, want int) {
	t.Helper()
	if got, ok := s.To(r); got != want || !ok {
		t.Errorf("To(%v): %d, %v, not %d", r, got, ok, want)
	}
}

func goesNowhere(t *testing.T, s *Set, r api.Ref) {
	t.Helper()
	if got, ok := s.To(r); got != 0 || ok {
		t.Errorf("To(%v): %d, %v", r, got, ok)
	}
}

// edges are the least and the greatest numbers, those about 0, and those that differ in their upper halves alone.
func edges() []int {
	return []int{math.MinInt, math.MinInt + 1, -1 << 32, -1, 0, 1, 1 << 31, 1 << 32, 1<<32 + 1, math.MaxInt - 1, math.MaxInt}
}

// P11.1

func TestExample(t *testing.T) {
	s := New()
	if !s.Put(ref(3, 1), 7) || !s.Put(ref(2, 5), 7) || s.Put(ref(3, 1), 8) {
		t.Error("Put tells wrongly what is new")
	}
	refsAre(t, "Of(7)", s.Of(7), ref(2, 5))
	refsAre(t, "From(3)", s.From(3), ref(3, 1))
	refsAre(t, "Of(8)", s.Of(8), ref(3, 1))
	if n := s.Len(); n != 2 {
		t.Errorf("Len: %d", n)
	}
}

func TestNew(t *testing.T) {
	p := newPair(t, edges(), edges(), edges())
	p.isLike()
	p.agrees()
	for _, x := range edges() {
		p.forget(x)
		for _, y := range edges() {
			p.cut(ref(x, y))
		}
	}
	p.isLike()
}

func TestPut(t *testing.T) {
	s := New()
	if !s.Put(ref(1, 2), 3) {
		t.Error("a new one was there")
	}
	goesTo(t, s, ref(1, 2), 3)
	if s.Put(ref(1, 2), 3) {
		t.Error("the same one again wasn't there")
	}
	goesTo(t, s, ref(1, 2), 3)
	if s.Put(ref(1, 2), 4) {
		t.Error("one that goes elsewhere wasn't there")
	}
	goesTo(t, s, ref(1, 2), 4)
	refsAre(t, "Of(3)", s.Of(3))
	refsAre(t, "Of(4)", s.Of(4), ref(1, 2))
	refsAre(t, "From(1)", s.From(1), ref(1, 2))
	if n := s.Len(); n != 1 {
		t.Errorf("Len: %d", n)
	}
	// Back again, it is found where it was.
	s.Put(ref(1, 2), 3)
	refsAre(t, "Of(3)", s.Of(3), ref(1, 2))
	refsAre(t, "Of(4)", s.Of(4))
}

func TestCut(t *testing.T) {
	s := New()
	s.Put(ref(1, 2), 3)
	for _, r := range []api.Ref{ref(2, 1), ref(1, 1), ref(2, 2), ref(1, 3), ref(3, 2), {}} {
		if s.Cut(r) {
			t.Errorf("Cut(%v): it was there", r)
		}
	}
	goesTo(t, s, ref(1, 2), 3)
	if !s.Cut(ref(1, 2)) {
		t.Error("it wasn't there")
	}
	goesNowhere(t, s, ref(1, 2))
	if s.Cut(ref(1, 2)) {
		t.Error("it was there twice")
	}
	refsAre(t, "Of(3)", s.Of(3))
	refsAre(t, "From(1)", s.From(1))
	if n := s.Len(); n != 0 {
		t.Errorf("Len: %d", n)
	}
	if !s.Put(ref(1, 2), 3) {
		t.Error("one that was cut is there")
	}
	refsAre(t, "Of(3)", s.Of(3), ref(1, 2))
	refsAre(t, "From(1)", s.From(1), ref(1, 2))
}

// A reference that goes to 0 is there, unlike one that goes nowhere.
func TestToZero(t *testing.T) {
	s := New()
	goesNowhere(t, s, ref(0, 0))
	if !s.Put(ref(0, 0), 0) || s.Put(ref(0, 0), 0) {
		t.Error("Put tells wrongly what is new")
	}
	goesTo(t, s, ref(0, 0), 0)
	refsAre(t, "Of(0)", s.Of(0), ref(0, 0))
	refsAre(t, "From(0)", s.From(0), ref(0, 0))
	if !s.Cut(ref(0, 0)) {
		t.Error("it wasn't there")
	}
	goesNowhere(t, s, ref(0, 0))
}

// Sources, places and targets are any numbers: all there are at the edges, each with each.
func TestEdges(t *testing.T) {
	p := newPair(t, edges(), edges(), edges())
	for i, source := range edges() {
		for k, place := range edges() {
			p.put(ref(source, place), edges()[(i+k)%len(edges())])
		}
	}
	p.isLike()
	p.agrees()
	for i, source := range edges() {
		p.cut(ref(source, edges()[i]))
	}
	p.isLike()
	for i, target := range edges() {
		p.put(ref(edges()[i], math.MaxInt), target)
		p.put(ref(math.MinInt, edges()[i]), target)
	}
	p.isLike()
	p.agrees()
	for _, source := range edges() {
		p.forget(source)
		p.isLike()
	}
}

func TestNil(t *testing.T) {
	var s *Set
	for _, x := range edges() {
		if s.Put(ref(x, x), x) || s.Cut(ref(x, x)) {
			t.Errorf("Put or Cut of %d: true", x)
		}
		goesNowhere(t, s, ref(x, x))
		if n := s.Forget(x); n != 0 {
			t.Errorf("Forget(%d): %d", x, n)
		}
		refsAre(t, "Of", s.Of(x))
		refsAre(t, "From", s.From(x))
	}
	if n := s.Len(); n != 0 {
		t.Errorf("Len: %d", n)
	}
}

// P11.2

func TestOrder(t *testing.T) {
	s := New()
	for _, r := range []api.Ref{ref(2, -1), ref(10, 0), ref(-3, 4), ref(2, 9), ref(-3, -4), ref(9, 2), ref(2, 0), ref(-10, 7)} {
		s.Put(r, 5)
	}
	s.Put(ref(2, 1), 6)
	s.Put(ref(2, 2), 5)
	refsAre(t, "Of(5)", s.Of(5), ref(-10, 7), ref(-3, -4), ref(-3, 4), ref(2, -1), ref(2, 0), ref(2, 2), ref(2, 9), ref(9, 2), ref(10, 0))
	refsAre(t, "Of(6)", s.Of(6), ref(2, 1))
	refsAre(t, "From(2)", s.From(2), ref(2, -1), ref(2, 0), ref(2, 1), ref(2, 2), ref(2, 9))
	refsAre(t, "From(-3)", s.From(-3), ref(-3, -4), ref(-3, 4))
	refsAre(t, "From(5)", s.From(5))
	refsAre(t, "Of(2)", s.Of(2))
}

// The references of a source are forgotten, not those that go there, nor those with such a place.
func TestForget(t *testing.T) {
	s := New()
	s.Put(ref(1, 1), 1)
	s.Put(ref(1, 2), 2)
	s.Put(ref(1, 3), 2)
	s.Put(ref(2, 1), 1)
	s.Put(ref(2, 2), 2)
	if n := s.Forget(3); n != 0 || s.Len() != 5 {
		t.Errorf("Forget(3): %d, %d left", n, s.Len())
	}
	if n := s.Forget(1); n != 3 || s.Len() != 2 {
		t.Errorf("Forget(1): %d, %d left", n, s.Len())
	}
	for place := 1; place <= 3; place++ {
		goesNowhere(t, s, ref(1, place))
	}
	refsAre(t, "From(1)", s.From(1))
	refsAre(t, "From(2)", s.From(2), ref(2, 1), ref(2, 2))
	refsAre(t, "Of(1)", s.Of(1), ref(2, 1))
	refsAre(t, "Of(2)", s.Of(2), ref(2, 2))
	if n := s.Forget(1); n != 0 || s.Len() != 2 {
		t.Errorf("Forget(1) again: %d, %d left", n, s.Len())
	}
	if !s.Put(ref(1, 1), 2) {
		t.Error("one that was forgotten is there")
	}
	refsAre(t, "Of(2)", s.Of(2), ref(1, 1), ref(2, 2))
	refsAre(t, "Of(1)", s.Of(1), ref(2, 1))
}

// What is told is new memory, and stays as it was told.
func TestAnswersApart(t *testing.T) {
	s := New()
	for place := range 6 {
		s.Put(ref(1, place), 9)
	}
	all := s.Of(9)
	of, from := s.Of(9), s.From(1)
	for i := range of {
		of[i], from[i] = ref(-1, -1), ref(-2, -2)
	}
	_ = append(of[:2], ref(-3, -3))
	refsAre(t, "Of(9)", s.Of(9), all...)
	refsAre(t, "From(1)", s.From(1), all...)
	of, from = s.Of(9), s.From(1)
	s.Cut(ref(1, 3))
	s.Put(ref(1, 0), 8)
	s.Forget(1)
	s.Put(ref(1, 9), 9)
	refsAre(t, "what Of told", of, all...)
	refsAre(t, "what From told", from, all...)
}

// P2
func TestSetsApart(t *testing.T) {
	a, b := New(), New()
	a.Put(ref(1, 1), 7)
	b.Put(ref(1, 1), 8)
	b.Put(ref(2, 1), 7)
	goesTo(t, a, ref(1, 1), 7)
	refsAre(t, "Of(7)", a.Of(7), ref(1, 1))
	b.Forget(1)
	goesTo(t, a, ref(1, 1), 7)
	a.Cut(ref(1, 1))
	refsAre(t, "Of(7) of the other one", b.Of(7), ref(2, 1))
	if a.Len() != 0 || b.Len() != 1 {
		t.Errorf("Len: %d, %d", a.Len(), b.Len())
	}
}

// P11.3

// All rows of four calls of those there are with two sources, two places and two targets that are the same numbers.
func TestRows(t *testing.T) {
	numbers := []int{1, 2}
	var calls []func(p *pair)
	for _, source := range numbers {
		calls = append(calls, func(p *pair) { p.forget(source) })
		for _, place := range numbers {
			calls = append(calls, func(p *pair) { p.cut(ref(source, place)) })
			for _, target := range numbers {
				calls = append(calls, func(p *pair) { p.put(ref(source, place), target) })
			}
		}
	}
	const row = 4
	rows := 1
	for range row {
		rows *= len(calls)
	}
	for n := range rows {
		p := newPair(t, numbers, numbers, numbers)
		for range row {
			calls[n%len(calls)](p)
			n /= len(calls)
		}
		p.isLike()
		p.agrees()
	}
}

func some(r *rand.Rand, l []int) int {
	return l[r.Intn(len(l))]
}

// A long walk of calls among few numbers, so that most things are met again; there is much at some times, and little at others.
func TestWalk(t *testing.T) {
	r := rand.New(rand.NewSource(1))
	sources := []int{math.MinInt, -7, 0, 1, 2, 3, 1 << 40, math.MaxInt}
	places := append(edges(), 2, 3, 4, 5)
	targets := []int{math.MinInt, -1, 0, 1, 2, 3, math.MaxInt}
	p := newPair(t, sources, places, targets)
	for step := range 40000 {
		x := ref(some(r, sources), some(r, places))
		grows := step/2000%2 == 0
		switch k := r.Intn(100); {
		case k == 0:
			p.forget(x.Source)
		case grows && k < 80, k < 30:
			p.put(x, some(r, targets))
		default:
			p.cut(x)
		}
		p.toIsLike(x)
		if step%20 == 0 {
			p.isLike()
		}
		if step%400 == 0 {
			p.agrees()
		}
	}
}

// As many references as a great store has room for, in a mixed order: of some sources, and all to one target.
func TestMany(t *testing.T) {
	const sources, places = 40, 5000
	s := New()
	r := rand.New(rand.NewSource(2))
	for _, k := range r.Perm(sources * places) {
		if !s.Put(ref(k/places, k%places), 1) {
			t.Fatalf("%d was there", k)
		}
	}
	of := s.Of(1)
	if len(of) != sources*places || s.Len() != len(of) {
		t.Fatalf("Of(1): %d, Len: %d", len(of), s.Len())
	}
	for k, x := range of {
		if x != ref(k/places, k%places) {
			t.Fatalf("Of(1)[%d]: %v", k, x)
		}
	}
	for k := range sources {
		if n := s.Forget(k); n != places {
			t.Fatalf("Forget(%d): %d", k, n)
		}
	}
	if n := s.Len(); n != 0 || len(s.Of(1)) != 0 {
		t.Errorf("%d left", n)
	}
	// Nor is anything kept of what isn't there any more.
	if len(s.targets) != 0 || len(s.of) != 0 || len(s.from) != 0 {
		t.Errorf("kept: %d, %d, %d", len(s.targets), len(s.of), len(s.from))
	}
}

// What is told doesn't hang on the order in which references were put, nor on the order of a map.
func TestOrdersOfPutting(t *testing.T) {
	r := rand.New(rand.NewSource(3))
	var want []api.Ref
	for k := range 60 {
		want = append(want, ref(k/10-3, k%10))
	}
	for range 200 {
		s := New()
		for _, k := range r.Perm(len(want)) {
			s.Put(want[k], r.Intn(2))
		}
		for _, k := range r.Perm(len(want)) {
			s.Put(want[k], 4)
		}
		refsAre(t, "Of(4)", s.Of(4), want...)
		refsAre(t, "From(-3)", s.From(-3), want[:10]...)
		refsAre(t, "From(2)", s.From(2), want[50:]...)
		refsAre(t, "Of(0)", s.Of(0))
		refsAre(t, "Of(1)", s.Of(1))
	}
}
