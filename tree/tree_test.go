package tree

import (
	"fmt"
	"math"
	"math/rand"
	"slices"
	"testing"

	"turnrow/api"
)

// knot is a region of the slow tree, which hangs as it is by its kids alone: no parent is kept, each question looks through the whole of it.
type knot struct {
	id   int
	kids []*knot
}

// slow is a tree of knots, so that it shares nothing with what is tested; the region 0 is the top.
type slow struct {
	top  *knot
	told int
}

func newSlow() *slow {
	return &slow{top: &knot{}}
}

// find is the knot of a number, and the one right above it.
func (k *knot) find(id int) (*knot, *knot) {
	for _, x := range k.kids {
		if x.id == id {
			return x, k
		}
		if y, above := x.find(id); y != nil {
			return y, above
		}
	}
	return nil, nil
}

// under are the numbers of a knot and of all below it.
func (k *knot) under() []int {
	l := []int{k.id}
	for _, x := range k.kids {
		l = append(l, x.under()...)
	}
	slices.Sort(l)
	return l
}

func (k *knot) without(x *knot) {
	var left []*knot
	for _, y := range k.kids {
		if y != x {
			left = append(left, y)
		}
	}
	k.kids = left
}

func (s *slow) find(id int) (*knot, *knot) {
	return s.top.find(id)
}

func (s *slow) ids() []int {
	return s.top.under()[1:]
}

func (s *slow) orTop(id int) *knot {
	if id == 0 {
		return s.top
	}
	k, _ := s.find(id)
	return k
}

func (s *slow) add(parent int) (int, api.Errno) {
	k := s.orTop(parent)
	if k == nil {
		return 0, api.ErrNone
	}
	if len(s.ids()) == 64 {
		return 0, api.ErrFull
	}
	s.told++
	k.kids = append(k.kids, &knot{id: s.told})
	return s.told, api.OK
}

func (s *slow) parent(id int) (int, api.Errno) {
	k, above := s.find(id)
	if k == nil {
		return 0, api.ErrNone
	}
	return above.id, api.OK
}

func (s *slow) kids(id int) ([]int, api.Errno) {
	k := s.orTop(id)
	if k == nil {
		return nil, api.ErrNone
	}
	var l []int
	for _, x := range k.kids {
		l = append(l, x.id)
	}
	slices.Sort(l)
	return l, api.OK
}

func (s *slow) under(id int) ([]int, api.Errno) {
	k, _ := s.find(id)
	if k == nil {
		return nil, api.ErrNone
	}
	return k.under(), api.OK
}

func (s *slow) free(id int) ([]int, api.Errno) {
	k, above := s.find(id)
	if k == nil {
		return nil, api.ErrNone
	}
	above.without(k)
	return k.under(), api.OK
}

func (s *slow) merge(id int) (int, api.Errno) {
	k, above := s.find(id)
	if k == nil {
		return 0, api.ErrNone
	}
	if above == s.top {
		return 0, api.ErrTop
	}
	above.without(k)
	above.kids = append(above.kids, k.kids...)
	return above.id, api.OK
}

// pair is a tree, and the slow one that is like it.
type pair struct {
	t *testing.T
	x *Tree
	s *slow
}

func newPair(t *testing.T) *pair {
	t.Helper()
	x := New()
	if x == nil {
		t.Fatal("New: nil")
	}
	p := &pair{t, x, newSlow()}
	p.isLike()
	return p
}

// asked are the numbers that are asked of: all that were told, and such as never were.
func (p *pair) asked() []int {
	l := []int{math.MinInt, math.MinInt + 1, -1 << 32, 1<<32 + 1, math.MaxInt - 1, math.MaxInt}
	for id := -2; id <= p.s.told+2; id++ {
		l = append(l, id)
	}
	return l
}

func (p *pair) numberIs(what string, id, got int, e api.Errno, want int, wantErr api.Errno) {
	p.t.Helper()
	if got != want || e != wantErr {
		p.t.Fatalf("%s(%d): %d, %v, not %d, %v", what, id, got, e, want, wantErr)
	}
}

func (p *pair) listIs(what string, id int, got []int, e api.Errno, want []int, wantErr api.Errno) {
	p.t.Helper()
	if !slices.Equal(got, want) || e != wantErr {
		p.t.Fatalf("%s(%d): %v, %v, not %v, %v", what, id, got, e, want, wantErr)
	}
}

// isLike holds all that can be asked against the slow tree, and P10.4 of what is told.
func (p *pair) isLike() {
	p.t.Helper()
	live := 0
	for _, id := range p.asked() {
		k, _ := p.s.find(id)
		if got := p.x.Live(id); got != (k != nil) {
			p.t.Fatalf("Live(%d): %v", id, got)
		}
		if k != nil {
			live++
			p.isBelowTop(id)
		}
		got, e := p.x.Parent(id)
		want, wantErr := p.s.parent(id)
		p.numberIs("Parent", id, got, e, want, wantErr)
		l, e := p.x.Kids(id)
		wantList, wantErr := p.s.kids(id)
		p.listIs("Kids", id, l, e, wantList, wantErr)
		l, e = p.x.Under(id)
		wantList, wantErr = p.s.under(id)
		p.listIs("Under", id, l, e, wantList, wantErr)
	}
	if n := p.x.Len(); n != live {
		p.t.Fatalf("Len: %d, not %d", n, live)
	}
}

// isBelowTop goes up from a live region: each number is less than the one ahead, till the top is come to.
func (p *pair) isBelowTop(id int) {
	p.t.Helper()
	for id != 0 {
		parent, e := p.x.Parent(id)
		if e != api.OK || parent >= id || parent < 0 {
			p.t.Fatalf("Parent(%d): %d, %v", id, parent, e)
		}
		id = parent
	}
}

func (p *pair) add(parent int) (int, api.Errno) {
	p.t.Helper()
	got, e := p.x.Add(parent)
	want, wantErr := p.s.add(parent)
	p.numberIs("Add", parent, got, e, want, wantErr)
	return got, e
}

func (p *pair) free(id int) api.Errno {
	p.t.Helper()
	got, e := p.x.Free(id)
	want, wantErr := p.s.free(id)
	p.listIs("Free", id, got, e, want, wantErr)
	return e
}

func (p *pair) merge(id int) api.Errno {
	p.t.Helper()
	got, e := p.x.Merge(id)
	want, wantErr := p.s.merge(id)
	p.numberIs("Merge", id, got, e, want, wantErr)
	return e
}

// adds are Adds that all go well.
func (p *pair) adds(parents ...int) {
	p.t.Helper()
	for _, parent := range parents {
		if _, e := p.add(parent); e != api.OK {
			p.t.Fatalf("Add(%d): %v", parent, e)
		}
	}
	p.isLike()
}

func is(t *testing.T, what string, got, want api.Errno) {
	t.Helper()
	if got != want {
		t.Fatalf("%s: %v, not %v", what, got, want)
	}
}

// P10.1

func TestExample(t *testing.T) {
	x := New()
	for i, parent := range []int{0, 1, 1, 2} {
		if id, e := x.Add(parent); id != i+1 || e != api.OK {
			t.Errorf("Add(%d): %d, %v", parent, id, e)
		}
	}
	if parent, e := x.Merge(2); parent != 1 || e != api.OK {
		t.Errorf("Merge(2): %d, %v", parent, e)
	}
	if l, e := x.Kids(1); !slices.Equal(l, []int{3, 4}) || e != api.OK {
		t.Errorf("Kids(1): %v, %v", l, e)
	}
}

func TestNew(t *testing.T) {
	x := New()
	if n := x.Len(); n != 0 {
		t.Errorf("Len: %d", n)
	}
	if x.Live(0) || x.Live(1) {
		t.Error("there is a region")
	}
	if l, e := x.Kids(0); len(l) != 0 || e != api.OK {
		t.Errorf("Kids(0): %v, %v", l, e)
	}
	newPair(t)
}

func TestAddBelowNone(t *testing.T) {
	p := newPair(t)
	for _, id := range []int{1, -1, 2, math.MinInt, math.MaxInt} {
		_, e := p.add(id)
		is(t, fmt.Sprintf("Add(%d)", id), e, api.ErrNone)
	}
	p.adds(0, 1)
	is(t, "Free(2)", p.free(2), api.OK)
	_, e := p.add(2)
	is(t, "Add below a freed one", e, api.ErrNone)
	// A refused call takes no number: this one is 3.
	p.adds(1)
	p.adds(3)
	is(t, "Merge(3)", p.merge(3), api.OK)
	_, e = p.add(3)
	is(t, "Add below a merged one", e, api.ErrNone)
	p.adds(4)
}

// MaxRegions live in a row, at the top, and below each other at random.
func TestFull(t *testing.T) {
	r := rand.New(rand.NewSource(1))
	for name, parent := range map[string]func(last int) int{
		"a row":         func(last int) int { return last },
		"all at top":    func(last int) int { return 0 },
		"all below one": func(last int) int { return min(last, 1) },
		"by chance":     func(last int) int { return r.Intn(last + 1) },
	} {
		p := newPair(t)
		for last := range api.MaxRegions {
			p.adds(parent(last))
		}
		for _, id := range []int{0, 1, 64} {
			_, e := p.add(id)
			is(t, name+": one too many", e, api.ErrFull)
		}
		for _, id := range []int{-1, 65, math.MaxInt, math.MinInt} {
			_, e := p.add(id)
			is(t, name+": ErrNone goes ahead", e, api.ErrNone)
		}
		p.isLike()
		is(t, name, p.free(64), api.OK)
		p.adds(0)
		_, e := p.add(0)
		is(t, name+": full again", e, api.ErrFull)
		is(t, name, p.free(1), api.OK)
		p.adds(0)
	}
}

// MaxRegions is of those that live, not of those that ever did; and no number comes twice.
func TestNoNumberTwice(t *testing.T) {
	x := New()
	if id, e := x.Add(0); id != 1 || e != api.OK {
		t.Fatal(id, e)
	}
	for want := 2; want < 3000; want += 2 {
		for k := range 2 {
			if id, e := x.Add(1); id != want+k || e != api.OK {
				t.Fatalf("Add: %d, %v, not %d", id, e, want+k)
			}
		}
		if _, e := x.Free(want); e != api.OK {
			t.Fatal(e)
		}
		if _, e := x.Merge(want + 1); e != api.OK {
			t.Fatal(e)
		}
		if x.Live(want) || x.Live(want+1) || x.Len() != 1 {
			t.Fatalf("behind %d: %d live", want, x.Len())
		}
	}
}

// A tree in which none is left goes on where it was.
func TestEmptyAgain(t *testing.T) {
	p := newPair(t)
	p.adds(0, 1, 0)
	is(t, "Free(1)", p.free(1), api.OK)
	is(t, "Free(3)", p.free(3), api.OK)
	p.isLike()
	if id, e := p.add(0); id != 4 || e != api.OK {
		t.Errorf("Add(0): %d, %v", id, e)
	}
	p.isLike()
}

// P10.2

func TestParentKidsUnder(t *testing.T) {
	x := New()
	for _, parent := range []int{0, 1, 0, 2, 1, 3, 2, 4} {
		if _, e := x.Add(parent); e != api.OK {
			t.Fatal(e)
		}
	}
	for id, want := range map[int]int{1: 0, 2: 1, 3: 0, 4: 2, 5: 1, 6: 3, 7: 2, 8: 4} {
		if got, e := x.Parent(id); got != want || e != api.OK {
			t.Errorf("Parent(%d): %d, %v", id, got, e)
		}
	}
	for id, want := range map[int][]int{0: {1, 3}, 1: {2, 5}, 2: {4, 7}, 3: {6}, 4: {8}, 5: nil, 8: nil} {
		if l, e := x.Kids(id); !slices.Equal(l, want) || e != api.OK {
			t.Errorf("Kids(%d): %v, %v", id, l, e)
		}
	}
	for id, want := range map[int][]int{1: {1, 2, 4, 5, 7, 8}, 2: {2, 4, 7, 8}, 3: {3, 6}, 4: {4, 8}, 8: {8}} {
		if l, e := x.Under(id); !slices.Equal(l, want) || e != api.OK {
			t.Errorf("Under(%d): %v, %v", id, l, e)
		}
	}
}

// 0 is no region, though it has kids.
func TestTopIsNoRegion(t *testing.T) {
	p := newPair(t)
	p.adds(0, 1, 0)
	if p.x.Live(0) {
		t.Error("0 lives")
	}
	_, e := p.x.Parent(0)
	is(t, "Parent(0)", e, api.ErrNone)
	l, e := p.x.Under(0)
	is(t, "Under(0)", e, api.ErrNone)
	if len(l) != 0 {
		t.Errorf("Under(0): %v", l)
	}
	is(t, "Free(0)", p.free(0), api.ErrNone)
	is(t, "Merge(0)", p.merge(0), api.ErrNone)
	p.isLike()
}

// Kids that came by Merge stand among the others by their numbers, not behind them.
func TestKidsRiseBehindMerge(t *testing.T) {
	p := newPair(t)
	p.adds(0, 1, 2, 1, 2, 3, 1, 3)
	is(t, "Merge(2)", p.merge(2), api.OK)
	if l, e := p.x.Kids(1); !slices.Equal(l, []int{3, 4, 5, 7}) || e != api.OK {
		t.Errorf("Kids(1): %v, %v", l, e)
	}
	is(t, "Merge(3)", p.merge(3), api.OK)
	if l, e := p.x.Kids(1); !slices.Equal(l, []int{4, 5, 6, 7, 8}) || e != api.OK {
		t.Errorf("Kids(1): %v, %v", l, e)
	}
	p.isLike()
}

// P10.3

func TestFree(t *testing.T) {
	p := newPair(t)
	p.adds(0, 1, 1, 2, 0, 4, 5, 3)
	is(t, "Free(2)", p.free(2), api.OK)
	p.isLike()
	for _, id := range []int{2, 4, 6} {
		if p.x.Live(id) {
			t.Errorf("%d lives", id)
		}
		is(t, "Free again", p.free(id), api.ErrNone)
		is(t, "Merge of a freed one", p.merge(id), api.ErrNone)
	}
	is(t, "Free at the top", p.free(1), api.OK)
	if l, e := p.x.Kids(0); !slices.Equal(l, []int{5}) || e != api.OK {
		t.Errorf("Kids(0): %v, %v", l, e)
	}
	p.isLike()
}

func TestMerge(t *testing.T) {
	p := newPair(t)
	p.adds(0, 1, 2, 2, 3)
	is(t, "Merge at the top", p.merge(1), api.ErrTop)
	p.isLike()
	is(t, "Merge(2)", p.merge(2), api.OK)
	p.isLike()
	is(t, "Merge again", p.merge(2), api.ErrNone)
	is(t, "Free of a merged one", p.free(2), api.ErrNone)
	is(t, "Merge of one without kids", p.merge(5), api.OK)
	p.isLike()
	is(t, "Merge(3)", p.merge(3), api.OK)
	is(t, "Merge(4)", p.merge(4), api.OK)
	is(t, "Merge of the last one", p.merge(1), api.ErrTop)
	p.isLike()
}

func TestRefusedCallsChangeNothing(t *testing.T) {
	p := newPair(t)
	p.adds(0, 1, 2, 0)
	is(t, "Free(3)", p.free(3), api.OK)
	for _, id := range p.asked() {
		if p.x.Live(id) {
			continue
		}
		is(t, fmt.Sprintf("Free(%d)", id), p.free(id), api.ErrNone)
		is(t, fmt.Sprintf("Merge(%d)", id), p.merge(id), api.ErrNone)
		if id != 0 {
			_, e := p.add(id)
			is(t, fmt.Sprintf("Add(%d)", id), e, api.ErrNone)
		}
		p.isLike()
	}
	is(t, "Merge(1)", p.merge(1), api.ErrTop)
	is(t, "Merge(4)", p.merge(4), api.ErrTop)
	p.isLike()
	p.adds(2)
}

// change is one call that changes a tree.
type change struct {
	what byte
	id   int
}

func (p *pair) do(x change) {
	p.t.Helper()
	switch x.what {
	case 'a':
		p.add(x.id)
	case 'f':
		p.free(x.id)
	case 'm':
		p.merge(x.id)
	}
}

// All rows of up to six calls that each go well, from an empty tree on.
func TestEachSmallTree(t *testing.T) {
	rows := [][]change{nil}
	for len(rows) > 0 {
		row := rows[len(rows)-1]
		rows = rows[:len(rows)-1]
		p := newPair(t)
		for _, x := range row {
			p.do(x)
		}
		p.isLike()
		if len(row) == 6 {
			continue
		}
		next := []change{{'a', 0}}
		for _, id := range p.s.ids() {
			next = append(next, change{'a', id}, change{'f', id})
			if _, above := p.s.find(id); above != p.s.top {
				next = append(next, change{'m', id})
			}
		}
		for _, x := range next {
			rows = append(rows, append(slices.Clone(row), x))
		}
	}
}

// Long walks; most calls add, so that MaxRegions is come to over and over.
func TestLongWalks(t *testing.T) {
	for seed := range int64(20) {
		r := rand.New(rand.NewSource(seed))
		p := newPair(t)
		full := 0
		for range 400 {
			x := change{what: "aaaaaaaaaamf"[r.Intn(12)]}
			ids := append(p.s.ids(), 0, -1, p.s.told+1)
			x.id = ids[r.Intn(len(ids))]
			if x.what == 'f' && r.Intn(4) > 0 {
				x.id = ids[len(ids)/2]
			}
			p.do(x)
			if p.x.Len() == api.MaxRegions {
				full++
			}
			if r.Intn(8) == 0 {
				p.isLike()
			}
		}
		p.isLike()
		if seed == 0 && full == 0 {
			t.Error("MaxRegions was never come to")
		}
	}
}

// Rules that hold everywhere

func TestNilTree(t *testing.T) {
	var x *Tree
	if x.Len() != 0 {
		t.Errorf("Len: %d", x.Len())
	}
	for _, id := range []int{0, 1, -1, math.MinInt, math.MaxInt} {
		if x.Live(id) {
			t.Errorf("Live(%d)", id)
		}
		for what, f := range map[string]func(int) (int, api.Errno){"Add": x.Add, "Parent": x.Parent, "Merge": x.Merge} {
			if n, e := f(id); n != 0 || e != api.ErrNil {
				t.Errorf("%s(%d): %d, %v", what, id, n, e)
			}
		}
		for what, f := range map[string]func(int) ([]int, api.Errno){"Kids": x.Kids, "Under": x.Under, "Free": x.Free} {
			if l, e := f(id); len(l) != 0 || e != api.ErrNil {
				t.Errorf("%s(%d): %v, %v", what, id, l, e)
			}
		}
	}
}

// What is told may be written to, also behind its length: the tree stays, and so does each other answer.
func TestAnswersAreNewMemory(t *testing.T) {
	p := newPair(t)
	p.adds(0, 1, 1, 2, 0, 5)
	for _, x := range []struct {
		what string
		ask  func() ([]int, api.Errno)
	}{
		{"Kids(0)", func() ([]int, api.Errno) { return p.x.Kids(0) }},
		{"Kids(1)", func() ([]int, api.Errno) { return p.x.Kids(1) }},
		{"Under(1)", func() ([]int, api.Errno) { return p.x.Under(1) }},
		{"Free(5)", func() ([]int, api.Errno) { p.s.free(5); return p.x.Free(5) }},
	} {
		l, e := x.ask()
		is(t, x.what, e, api.OK)
		other, e := p.x.Under(1)
		is(t, "Under(1)", e, api.OK)
		l = l[:cap(l)]
		for i := range l {
			l[i] = -7
		}
		_ = append(l, -7)
		if !slices.Equal(other, []int{1, 2, 3, 4}) {
			t.Errorf("behind %s: Under(1) is %v", x.what, other)
		}
		p.isLike()
	}
	p.adds(4)
}

// Two trees have nothing to do with one another (P2).
func TestTwoTrees(t *testing.T) {
	p, q := newPair(t), newPair(t)
	p.adds(0, 1, 2)
	q.isLike()
	q.adds(0, 0)
	is(t, "Free(1)", q.free(1), api.OK)
	p.isLike()
	is(t, "Merge(2)", p.merge(2), api.OK)
	q.isLike()
	q.adds(2)
	p.isLike()
}

// The limit is the document's.
func TestMaxRegions(t *testing.T) {
	if api.MaxRegions != 64 {
		t.Fatal(api.MaxRegions)
	}
}
