package bump

import (
	"fmt"
	"math"
	"math/rand"
	"slices"
	"testing"

	"turnrow/api"
	"turnrow/store"
)

// ground is a store as a list of owners (0: free), so that the slow spaces share nothing with what is tested.
type ground struct {
	words  int
	owners []int
}

// take is the first one of the first n free chunks in a row, which are the owner's now.
func (g *ground) take(owner, n int) (int, api.Errno) {
	row := 0
	for c, o := range g.owners {
		row++
		if o != 0 {
			row = 0
		}
		if row == n {
			for k := range n {
				g.owners[c-k] = owner
			}
			return c - n + 1, api.OK
		}
	}
	return 0, api.ErrChunks
}

// slow is a space as a list of parts of which each has its chunks, and how many of its words are filled.
type slow struct {
	g     *ground
	owner int
	parts []*slowPart
	now   *slowPart
}

type slowPart struct {
	chunks []int
	filled int
}

func (s *slow) alloc(n int) (int, api.Errno) {
	if n < 1 {
		return 0, api.ErrArg
	}
	if s.now != nil && s.now.filled <= s.g.words-n {
		s.now.filled += n
		return s.now.chunks[0]*s.g.words + s.now.filled - n, api.OK
	}
	need := 1
	for n > need*s.g.words && need <= len(s.g.owners) {
		need++
	}
	first, e := s.g.take(s.owner, need)
	if e != api.OK {
		return 0, e
	}
	x := &slowPart{filled: n}
	for k := range need {
		x.chunks = append(x.chunks, first+k)
	}
	s.parts = append(s.parts, x)
	if need == 1 {
		s.now = x
	}
	return first * s.g.words, api.OK
}

func (s *slow) chunks() []int {
	var l []int
	for _, x := range s.parts {
		l = append(l, x.chunks...)
	}
	return l
}

func (s *slow) room() int {
	if s.now == nil {
		return 0
	}
	return s.g.words - s.now.filled
}

func (s *slow) big(chunk int) bool {
	for _, x := range s.parts {
		if len(x.chunks) > 1 && slices.Contains(x.chunks, chunk) {
			return true
		}
	}
	return false
}

func (s *slow) join(o *slow) api.Errno {
	if o == nil || o == s || o.g != s.g {
		return api.ErrArg
	}
	for _, x := range o.parts {
		s.parts = append(s.parts, x)
		s.g.give(x, s.owner)
	}
	if o.now != nil {
		s.now = o.now
	}
	o.parts, o.now = nil, nil
	return api.OK
}

func (g *ground) give(x *slowPart, owner int) {
	for _, c := range x.chunks {
		g.owners[c] = owner
	}
}

// out takes out the part of at least so many chunks that begins with first.
func (s *slow) out(first, least int) *slowPart {
	for i, x := range s.parts {
		if x.chunks[0] == first && len(x.chunks) >= least {
			s.parts = append(slices.Clone(s.parts[:i]), s.parts[i+1:]...)
			return x
		}
	}
	return nil
}

func (s *slow) hand(o *slow, first int) api.Errno {
	if o == nil || o == s || o.g != s.g {
		return api.ErrArg
	}
	x := s.out(first, 2)
	if x == nil {
		return api.ErrNone
	}
	s.g.give(x, o.owner)
	o.parts = append(o.parts, x)
	return api.OK
}

func (s *slow) drop(first int) api.Errno {
	x := s.out(first, 1)
	if x == nil {
		return api.ErrNone
	}
	s.g.give(x, 0)
	if x == s.now {
		s.now = nil
	}
	return api.OK
}

func (s *slow) clear() {
	for len(s.parts) > 0 {
		s.drop(s.parts[len(s.parts)-1].chunks[0])
	}
}

// pair is a space, and the slow one that is like it.
type pair struct {
	p *Space
	s *slow
}

// yard is a store with some spaces on it, and the slow ones.
type yard struct {
	t     *testing.T
	store *store.Store
	g     *ground
	of    []pair
}

func newYard(t *testing.T, chunks, words int, owners ...int) *yard {
	t.Helper()
	s, e := store.New(chunks, words)
	if e != api.OK {
		t.Fatal(e)
	}
	f := &yard{t, s, &ground{words, make([]int, chunks)}, nil}
	for _, o := range owners {
		p, e := New(s, o)
		if e != api.OK || p == nil {
			t.Fatalf("New of the owner %d: %v, %v", o, p, e)
		}
		f.of = append(f.of, pair{p, &slow{g: f.g, owner: o}})
	}
	f.isLike()
	return f
}

// isLike holds all that can be asked of all spaces, and of whose the chunks are, against the slow ones.
func (f *yard) isLike() {
	f.t.Helper()
	for c, o := range f.g.owners {
		if got := f.store.Owner(c); got != o {
			f.t.Fatalf("the chunk %d is %d's, not %d's", c, got, o)
		}
	}
	for i, x := range f.of {
		if got := x.p.Chunks(); !slices.Equal(got, x.s.chunks()) {
			f.t.Fatalf("Chunks of %d: %v, not %v", i, got, x.s.chunks())
		}
		if got := x.p.Room(); got != x.s.room() {
			f.t.Fatalf("Room of %d: %d, not %d", i, got, x.s.room())
		}
		for _, c := range firsts(len(f.g.owners)) {
			if got := x.p.Big(c); got != x.s.big(c) {
				f.t.Fatalf("Big(%d) of %d: %v", c, i, got)
			}
		}
	}
}

// firsts are all chunks that there are, and such that there aren't.
func firsts(chunks int) []int {
	l := []int{math.MinInt, math.MinInt + 1, math.MaxInt - 1, math.MaxInt}
	for c := -2; c < chunks+3; c++ {
		l = append(l, c)
	}
	return l
}

// alloc allocates n words of the space i, and holds the answer against the slow one's.
func (f *yard) alloc(i, n int) (int, api.Errno) {
	f.t.Helper()
	want, wantErr := f.of[i].s.alloc(n)
	got, e := f.of[i].p.Alloc(n)
	if got != want || e != wantErr {
		f.t.Fatalf("Alloc(%d) of %d: %d, %v, not %d, %v", n, i, got, e, want, wantErr)
	}
	return got, e
}

// allocs allocates of the space i, one behind the other, pieces that all fit.
func (f *yard) allocs(i int, l ...int) {
	f.t.Helper()
	for _, n := range l {
		if _, e := f.alloc(i, n); e != api.OK {
			f.t.Fatalf("Alloc(%d) of %d: %v", n, i, e)
		}
	}
	f.isLike()
}

func (f *yard) is(what string, got, want api.Errno) {
	f.t.Helper()
	if got != want {
		f.t.Fatalf("%s: %v, not %v", what, got, want)
	}
	f.isLike()
}

func (f *yard) join(i, k int) api.Errno {
	f.t.Helper()
	want := f.of[i].s.join(f.of[k].s)
	f.is(fmt.Sprintf("Join of %d and %d", i, k), f.of[i].p.Join(f.of[k].p), want)
	return want
}

func (f *yard) hand(i, k, first int) api.Errno {
	f.t.Helper()
	want := f.of[i].s.hand(f.of[k].s, first)
	f.is(fmt.Sprintf("Hand(%d) of %d to %d", first, i, k), f.of[i].p.Hand(f.of[k].p, first), want)
	return want
}

func (f *yard) drop(i, first int) api.Errno {
	f.t.Helper()
	want := f.of[i].s.drop(first)
	f.is(fmt.Sprintf("Drop(%d) of %d", first, i), f.of[i].p.Drop(first), want)
	return want
}

func (f *yard) clear(i int) {
	f.t.Helper()
	f.of[i].s.clear()
	f.of[i].p.Clear()
	f.isLike()
}

// has asks, without the slow ones, which chunks and what room a space has.
func (f *yard) has(i, room int, chunks ...int) {
	f.t.Helper()
	p := f.of[i].p
	if p.Room() != room || !slices.Equal(p.Chunks(), chunks) {
		f.t.Fatalf("%d has %v, and room for %d; not %v, and for %d", i, p.Chunks(), p.Room(), chunks, room)
	}
}

// P9.1

func TestNew(t *testing.T) {
	s, _ := store.New(3, 2)
	for _, owner := range []int{math.MinInt, -1, 0, 1, 2, math.MaxInt} {
		if p, e := New(nil, owner); p != nil || e != api.ErrNil {
			t.Errorf("New(nil, %d): %v, %v", owner, p, e)
		}
		p, e := New(s, owner)
		if owner < 1 {
			if p != nil || e != api.ErrArg {
				t.Errorf("New(s, %d): %v, %v", owner, p, e)
			}
			continue
		}
		if p == nil || e != api.OK {
			t.Fatalf("New(s, %d): %v, %v", owner, p, e)
		}
		if len(p.Chunks()) != 0 || p.Room() != 0 || p.Big(0) || s.Free() != 3 {
			t.Errorf("a new space: %v, %d, %v; %d are free", p.Chunks(), p.Room(), p.Big(0), s.Free())
		}
		if a, e := p.Alloc(1); a != 0 || e != api.OK || s.Owner(0) != owner {
			t.Errorf("Alloc of the owner %d: %d, %v", owner, a, e)
		}
		p.Clear()
	}
}

// What an owner has already is not the space's.
func TestNewHasNoneOfItsOwnersChunks(t *testing.T) {
	s, _ := store.New(4, 2)
	s.Take(5)
	s.TakeRun(5, 2)
	p, _ := New(s, 5)
	if len(p.Chunks()) != 0 || p.Room() != 0 || p.Big(1) || p.Drop(0) != api.ErrNone || p.Drop(1) != api.ErrNone {
		t.Error(p.Chunks(), p.Room())
	}
	if a, e := p.Alloc(1); a != 6 || e != api.OK {
		t.Error(a, e)
	}
	p.Clear()
	if s.Free() != 1 || s.Owner(0) != 5 || s.Owner(2) != 5 {
		t.Error(s.Free())
	}
}

func TestExample(t *testing.T) {
	f := newYard(t, 6, 8, 5)
	for _, c := range [][2]int{{3, 0}, {6, 8}, {2, 14}, {20, 16}} {
		if a, e := f.of[0].p.Alloc(c[0]); a != c[1] || e != api.OK {
			t.Errorf("Alloc(%d): %d, %v, not %d", c[0], a, e, c[1])
		}
	}
	f.has(0, 0, 0, 1, 2, 3, 4)
}

// Parts stand in the order in which they came, which need not be that of their chunks.
func TestChunksByParts(t *testing.T) {
	f := newYard(t, 10, 4, 5, 6)
	f.allocs(1, 8, 4) // 0 and 1, 2
	f.allocs(0, 4, 8) // 3, 4 and 5
	f.clear(1)
	f.allocs(0, 16, 1, 4, 4) // 6 to 9, 0, 1, 2
	f.has(0, 0, 3, 4, 5, 6, 7, 8, 9, 0, 1, 2)
	for c, want := range []bool{false, false, false, false, true, true, true, true, true, true, false} {
		if got := f.of[0].p.Big(c); got != want {
			t.Errorf("Big(%d): %v", c, got)
		}
	}
}

// Big is of a space's own runs, not of other ones', nor of chunks that stand in a row.
func TestBig(t *testing.T) {
	f := newYard(t, 8, 2, 5, 5)
	f.allocs(0, 2, 2, 4)
	f.allocs(1, 3, 1)
	for c := range 8 {
		if got := f.of[0].p.Big(c); got != (c == 2 || c == 3) {
			t.Errorf("Big(%d): %v", c, got)
		}
		if got := f.of[1].p.Big(c); got != (c == 4 || c == 5) {
			t.Errorf("Big(%d) of the other one: %v", c, got)
		}
	}
}

func TestChunksIsNewMemory(t *testing.T) {
	f := newYard(t, 8, 2, 5)
	f.allocs(0, 2, 4, 1)
	a, b := f.of[0].p.Chunks(), f.of[0].p.Chunks()
	for i := range a {
		a[i] = 7
	}
	a = append(a[:1], 6)
	f.isLike()
	f.drop(0, 0)
	if !slices.Equal(b, []int{0, 1, 2, 3}) {
		t.Errorf("what was told is %v", b)
	}
}

// P9.2

// Each piece, behind each piece, behind each piece, in stores with chunks of all small lengths.
func TestAllocOfEachThree(t *testing.T) {
	for words := 1; words <= 4; words++ {
		most := 3*words + 1
		for a := 1; a <= most; a++ {
			for b := 1; b <= most; b++ {
				for c := 1; c <= most; c++ {
					f := newYard(t, 12, words, 3)
					f.allocs(0, a, b, c)
				}
			}
		}
	}
}

// A piece of just the room that is left, one less, and one more; of just a chunk, and one more.
func TestAllocAtTheEdges(t *testing.T) {
	f := newYard(t, 16, 8, 3)
	for _, c := range []struct{ n, addr, room int }{
		{8, 0, 0},   // a whole chunk
		{1, 8, 7},   // no room was left
		{6, 9, 1},   // one less than there is
		{1, 15, 0},  // all that is left
		{5, 16, 3},  // another chunk
		{4, 24, 4},  // one more than there is
		{9, 32, 4},  // one more than a chunk: a run; the present chunk stays it
		{4, 28, 0},  // into the present one, ahead of the run
		{16, 48, 0}, // just two chunks
		{17, 64, 0}, // one more
		{7, 88, 1},
		{24, 96, 1}, // just three, the last ones but one
		{2, 120, 6}, // the last one
		{6, 122, 0},
	} {
		if a, e := f.alloc(0, c.n); a != c.addr || e != api.OK || f.of[0].p.Room() != c.room {
			t.Errorf("Alloc(%d): %d, %v, room %d; not %d, room %d", c.n, a, e, f.of[0].p.Room(), c.addr, c.room)
		}
		f.isLike()
	}
	for _, n := range []int{1, 8, 9} {
		if a, e := f.alloc(0, n); a != 0 || e != api.ErrChunks {
			t.Errorf("Alloc(%d) of a full store: %d, %v", n, a, e)
		}
		f.isLike()
	}
}

// What may not be is refused ahead of what doesn't fit, whether there is room or not.
func TestAllocWrong(t *testing.T) {
	for _, fill := range [][]int{nil, {1}, {4}, {4, 9}, {12, 2}, {16}} {
		f := newYard(t, 4, 4, 3)
		f.allocs(0, fill...)
		for _, n := range []int{math.MinInt, math.MinInt + 1, -4, -1, 0} {
			if a, e := f.alloc(0, n); a != 0 || e != api.ErrArg {
				t.Errorf("Alloc(%d) behind %v: %d, %v", n, fill, a, e)
			}
			f.isLike()
		}
	}
}

// What doesn't fit leaves all as it was; what fits is told then as if nothing had been asked.
func TestAllocWithoutRoom(t *testing.T) {
	for _, words := range []int{1, 2, 3, 4, 1023, 1024} {
		all := 4 * words
		tooMuch := []int{all + 1, all + words, 1 << 32, 1<<62 + 5, math.MaxInt - words, math.MaxInt - 1, math.MaxInt}
		for _, fill := range [][]int{nil, {1}, {words}, {words, words + 1}, {all - words + 1}} {
			f := newYard(t, 4, words, 3)
			f.allocs(0, fill...)
			for _, n := range tooMuch {
				if a, e := f.alloc(0, n); a != 0 || e != api.ErrChunks {
					t.Fatalf("Alloc(%d) behind %v: %d, %v", n, fill, a, e)
				}
			}
			f.isLike()
			f.alloc(0, 1)
			f.isLike()
		}
		f := newYard(t, 4, words, 3)
		f.allocs(0, all)
		f.has(0, 0, 0, 1, 2, 3)
	}
}

// Enough chunks are free, but none in a row; a chunk that is full has no room, and no other one is free.
func TestAllocWhereTooFewStandInARow(t *testing.T) {
	f := newYard(t, 7, 3, 5)
	f.allocs(0, 3, 3, 3, 3, 3, 3, 2)
	for _, c := range []int{1, 3, 5} {
		f.drop(0, c)
	}
	if a, e := f.alloc(0, 4); a != 0 || e != api.ErrChunks {
		t.Fatal(a, e)
	}
	f.isLike()
	f.drop(0, 2)
	if a, e := f.alloc(0, 9); a != 3 || e != api.OK {
		t.Fatal(a, e)
	}
	f.has(0, 1, 0, 4, 6, 1, 2, 3)
	f.allocs(0, 3)
	if a, e := f.alloc(0, 1); a != 0 || e != api.ErrChunks {
		t.Fatal(a, e)
	}
	f.isLike()
}

// The greatest store, chunk by chunk, and in one run.
func TestAllocOfTheGreatestStore(t *testing.T) {
	s, _ := store.New(api.MaxChunks, api.MaxWords)
	p, _ := New(s, 1)
	for c := range api.MaxChunks {
		if a, e := p.Alloc(api.MaxWords/2 + 1); a != c*api.MaxWords || e != api.OK || p.Room() != api.MaxWords/2-1 {
			t.Fatalf("Alloc of number %d: %d, %v, %d", c, a, e, p.Room())
		}
	}
	if a, e := p.Alloc(api.MaxWords / 2); a != 0 || e != api.ErrChunks {
		t.Fatal(a, e)
	}
	if a, e := p.Alloc(api.MaxWords/2 - 1); a != api.MaxChunks*api.MaxWords-api.MaxWords/2+1 || e != api.OK {
		t.Fatal(a, e)
	}
	p.Clear()
	if a, e := p.Alloc(api.MaxChunks*api.MaxWords + 1); a != 0 || e != api.ErrChunks || s.Free() != api.MaxChunks {
		t.Fatal(a, e)
	}
	if a, e := p.Alloc(api.MaxChunks * api.MaxWords); a != 0 || e != api.OK || s.Free() != 0 || !p.Big(1023) || p.Big(1024) {
		t.Fatal(a, e)
	}
}

// P9.3

// kinds are spaces of all kinds: without parts, with and without a present chunk, with one that is full, with runs ahead of it and behind it.
func kinds() map[string]func(f *yard, i int) {
	return map[string]func(f *yard, i int){
		"empty":     func(f *yard, i int) {},
		"a chunk":   func(f *yard, i int) { f.allocs(i, 3) },
		"full":      func(f *yard, i int) { f.allocs(i, 4) },
		"two":       func(f *yard, i int) { f.allocs(i, 3, 2) },
		"a run":     func(f *yard, i int) { f.allocs(i, 5) },
		"two runs":  func(f *yard, i int) { f.allocs(i, 5, 9) },
		"run ahead": func(f *yard, i int) { f.allocs(i, 9, 1) },
		"run last":  func(f *yard, i int) { f.allocs(i, 2, 9) },
		"between":   func(f *yard, i int) { f.allocs(i, 2, 9, 3) },
		"present dropped": func(f *yard, i int) {
			f.allocs(i, 3, 3)
			f.drop(i, f.of[i].p.Chunks()[1])
		},
		"run dropped": func(f *yard, i int) {
			f.allocs(i, 3, 6)
			f.drop(i, f.of[i].p.Chunks()[1])
		},
		"cleared": func(f *yard, i int) {
			f.allocs(i, 3, 6)
			f.clear(i)
		},
	}
}

// eachPair does something on two spaces of all kinds, of two owners, and of the same.
func eachPair(t *testing.T, do func(f *yard)) {
	for _, owners := range [][]int{{5, 6}, {5, 5}, {math.MaxInt, 1}} {
		for _, one := range kinds() {
			for _, other := range kinds() {
				f := newYard(t, 24, 4, owners...)
				f.allocs(0, 1) // so that both have chunks ahead of the other one's
				f.drop(0, 0)
				one(f, 0)
				other(f, 1)
				do(f)
			}
		}
	}
}

func TestJoinOfEachPair(t *testing.T) {
	eachPair(t, func(f *yard) {
		f.is("Join", f.join(0, 1), api.OK)
		f.has(1, 0)
		if f.of[1].p.Drop(0) != api.ErrNone {
			t.Fatal("the joined space has a part")
		}
		f.allocs(0, 1, 2, 5)
		f.allocs(1, 2, 7, 2)
		f.is("Join again", f.join(0, 1), api.OK)
		f.allocs(1, 3)
		f.is("Join the other way", f.join(1, 0), api.OK)
		f.allocs(0, 1)
		f.allocs(1, 1)
		f.clear(0)
		f.clear(1)
		if f.store.Free() != 24 {
			t.Fatalf("%d are free", f.store.Free())
		}
	})
}

// Which chunk is the present one behind a Join, by hand.
func TestPresentBehindJoin(t *testing.T) {
	for _, c := range []struct {
		one, other []int
		room, next int // where the next word is
	}{
		{[]int{3}, nil, 1, 3},
		{[]int{3}, []int{2}, 2, 6},
		{[]int{1}, []int{4}, 0, 8}, // it is full, and the present one all the same
		{[]int{3}, []int{5}, 1, 3}, // runs alone
		{nil, []int{2}, 2, 2},
		{nil, []int{5}, 0, 8},
		{[]int{6}, []int{1}, 3, 9},
		{[]int{3}, []int{2, 6}, 2, 6},
	} {
		f := newYard(t, 9, 4, 5, 6)
		f.allocs(0, c.one...)
		f.allocs(1, c.other...)
		f.is("Join", f.join(0, 1), api.OK)
		if got := f.of[0].p.Room(); got != c.room {
			t.Errorf("%v: Room: %d", c, got)
		}
		if got, e := f.alloc(0, 1); got != c.next || e != api.OK {
			t.Errorf("%v: the next word is at %d, %v", c, got, e)
		}
	}
}

func TestJoinAndHandWrong(t *testing.T) {
	f, g := newYard(t, 9, 4, 5), newYard(t, 9, 4, 5)
	for _, x := range []*yard{f, g} {
		x.allocs(0, 2, 9, 1)
	}
	p := f.of[0].p
	for name, o := range map[string]*Space{"nil": nil, "itself": p, "on another store": g.of[0].p} {
		f.is("Join of one that is "+name, p.Join(o), api.ErrArg)
		g.isLike()
		for _, first := range firsts(9) { // a wrong space goes ahead of a wrong chunk
			f.is("Hand to one that is "+name, p.Hand(o, first), api.ErrArg)
			g.isLike()
		}
	}
}

func TestHandOfEachPair(t *testing.T) {
	for _, first := range firsts(12) {
		eachPair(t, func(f *yard) {
			runs := slices.Clone(f.of[0].s.parts)
			e := f.hand(0, 1, first)
			for _, x := range runs {
				if x.chunks[0] == first && len(x.chunks) > 1 {
					f.is("Hand", e, api.OK)
					last := f.of[1].p.Chunks()
					if !slices.Equal(last[len(last)-len(x.chunks):], x.chunks) {
						t.Fatalf("%v is not the last part of %v", x.chunks, last)
					}
					return
				}
			}
			f.is("Hand", e, api.ErrNone)
		})
	}
}

// A run goes to and fro, and out of the midst; what isn't the space's own run is no run of it.
func TestHandByHand(t *testing.T) {
	f := newYard(t, 12, 4, 5, 6)
	f.allocs(0, 2, 5, 9, 3) // 0, 1 and 2, 3 to 5, 6
	f.allocs(1, 2, 8)       // 7, 8 and 9
	for _, first := range []int{0, 2, 4, 5, 6, 7, 8, 9, 10, 12, -1} {
		f.is("Hand", f.hand(0, 1, first), api.ErrNone)
	}
	f.is("Hand", f.hand(0, 1, 1), api.OK)
	f.has(0, 1, 0, 3, 4, 5, 6)
	f.has(1, 2, 7, 8, 9, 1, 2)
	f.is("Hand again", f.hand(0, 1, 1), api.ErrNone)
	f.is("Hand back", f.hand(1, 0, 1), api.OK)
	f.has(0, 1, 0, 3, 4, 5, 6, 1, 2)
	f.is("Hand", f.hand(1, 0, 8), api.OK)
	f.has(1, 2, 7)
	f.allocs(0, 1)
	f.allocs(1, 2)
	f.has(0, 0, 0, 3, 4, 5, 6, 1, 2, 8, 9)
	f.has(1, 0, 7)
}

// Words that stand in chunks stay as they are, whose ever these are.
func TestWordsStay(t *testing.T) {
	f := newYard(t, 9, 4, 5, 6)
	f.allocs(0, 3, 10, 2)
	f.allocs(1, 1, 6)
	for c, o := range f.g.owners {
		for k := range 4 {
			if o != 0 {
				f.store.Write(c*4+k, uint64(c*4+k+100))
			}
		}
	}
	f.hand(0, 1, 1)
	f.join(0, 1)
	f.allocs(0, 1, 1)
	f.hand(0, 1, 6)
	f.join(1, 0)
	for a := range 8 * 4 {
		if x, e := f.store.Read(a); x != uint64(a+100) || e != api.OK {
			t.Errorf("the word at %d is %d, %v", a, x, e)
		}
	}
}

// Behind Join and Hand, the one changes by nothing that is done to the other one.
func TestJoinedAreApart(t *testing.T) {
	f := newYard(t, 30, 4, 5, 6)
	f.allocs(0, 3, 3, 3)
	f.allocs(1, 3, 3, 3, 9)
	f.join(0, 1)
	f.allocs(1, 4, 9, 4)
	f.drop(1, f.of[1].p.Chunks()[0])
	f.allocs(0, 5, 4)
	f.hand(1, 0, f.of[1].p.Chunks()[0])
	f.clear(1)
	f.allocs(1, 4, 4)
	f.drop(0, 0)
	f.allocs(0, 4, 4)
}

// P9.4

func TestDropOfEachChunk(t *testing.T) {
	for _, first := range firsts(24) {
		eachPair(t, func(f *yard) {
			owner := f.store.Owner(first)
			starts := false
			for _, x := range f.of[0].s.parts {
				starts = starts || x.chunks[0] == first
			}
			e := f.drop(0, first)
			if !starts {
				f.is("Drop", e, api.ErrNone)
				return
			}
			f.is("Drop", e, api.OK)
			if owner != f.of[0].s.owner || f.store.Owner(first) != 0 || slices.Contains(f.of[0].p.Chunks(), first) {
				t.Fatalf("the chunk %d is there yet", first)
			}
			f.is("Drop again", f.drop(0, first), api.ErrNone)
			f.allocs(0, 1, 6)
		})
	}
}

// Without the present chunk there is no room, though other chunks had some; without another one all stays.
func TestDropByHand(t *testing.T) {
	f := newYard(t, 8, 4, 5)
	f.allocs(0, 1, 4, 6, 2) // 0, 1, 2 and 3, 4
	f.has(0, 2, 0, 1, 2, 3, 4)
	f.is("Drop of a run's second chunk", f.drop(0, 3), api.ErrNone)
	f.is("Drop of a run", f.drop(0, 2), api.OK)
	f.has(0, 2, 0, 1, 4)
	f.is("Drop of the first one", f.drop(0, 0), api.OK)
	f.has(0, 2, 1, 4)
	f.is("Drop of the present one", f.drop(0, 4), api.OK)
	f.has(0, 0, 1)
	f.allocs(0, 1)
	f.has(0, 3, 1, 0)
	f.is("Drop", f.drop(0, 1), api.OK)
	f.has(0, 3, 0)
	f.is("Drop of the last one", f.drop(0, 0), api.OK)
	f.has(0, 0)
	if f.store.Free() != 8 {
		t.Errorf("%d are free", f.store.Free())
	}
}

func TestClear(t *testing.T) {
	eachPair(t, func(f *yard) {
		f.clear(0)
		f.has(0, 0)
		f.clear(0)
		f.allocs(0, 2, 9)
		f.clear(1)
		f.clear(0)
		if f.store.Free() != 24 {
			t.Fatalf("%d are free", f.store.Free())
		}
	})
}

// What is another space's, also of the same owner, and what its owner has by no space, stays.
func TestClearLeavesOthers(t *testing.T) {
	f := newYard(t, 12, 4, 5, 5)
	f.store.Take(5)
	f.g.owners[0] = 5
	f.allocs(0, 2, 9)
	f.allocs(1, 2, 9)
	f.clear(0)
	if f.store.Owner(0) != 5 || f.of[1].p.Drop(0) != api.ErrNone {
		t.Error("the owner's own chunk")
	}
	f.has(1, 2, 5, 6, 7, 8)
}

// P9.5

// piece is what an Alloc told: these words are nobody else's, till its part is dropped.
type piece struct{ addr, n, mark int }

// walk does calls of all kinds on some spaces, and keeps the pieces that they have.
type walk struct {
	*yard
	r      *rand.Rand
	pieces []piece
	marks  int
}

func TestWalk(t *testing.T) {
	for seed := range int64(150) {
		r := rand.New(rand.NewSource(seed))
		words := 1 + r.Intn(9)
		w := &walk{yard: newYard(t, 1+r.Intn(30), words, 5, 6, 5, 7), r: r}
		for range 150 {
			w.step()
			w.isLike()
			w.piecesAreApart()
		}
	}
}

func (w *walk) step() {
	w.t.Helper()
	i, k := w.r.Intn(len(w.of)), w.r.Intn(len(w.of))
	first := w.r.Intn(len(w.g.owners)+2) - 1
	switch w.r.Intn(20) {
	case 0:
		w.join(i, k)
	case 1, 2:
		w.hand(i, k, first)
	case 3, 4, 5:
		w.drop(i, first)
		w.forget()
	case 6:
		if w.r.Intn(4) == 0 {
			w.clear(i)
			w.forget()
		}
	case 7:
		w.allocPiece(i, w.r.Intn(w.g.words*len(w.g.owners)+3))
	default:
		w.allocPiece(i, w.r.Intn(w.g.words*5/2+2))
	}
}

// allocPiece writes a mark of its own to all words of a new piece.
func (w *walk) allocPiece(i, n int) {
	w.t.Helper()
	before, room := w.of[i].p.Chunks(), w.of[i].p.Room()
	a, e := w.alloc(i, n)
	if e != api.OK {
		return
	}
	if len(w.of[i].p.Chunks()) > len(before) && n <= room {
		w.t.Fatalf("%d words had room for %d, but a chunk was taken", room, n)
	}
	w.marks++
	w.pieces = append(w.pieces, piece{a, n, w.marks})
	for k := range n {
		if x, e := w.store.Read(a + k); x != 0 || e != api.OK {
			w.t.Fatalf("the word at %d of a new piece is %d, %v", a+k, x, e)
		}
		w.store.Write(a+k, uint64(w.marks))
	}
}

// forget leaves out the pieces whose chunks are free now.
func (w *walk) forget() {
	w.pieces = slices.DeleteFunc(w.pieces, func(x piece) bool {
		return w.g.owners[x.addr/w.g.words] == 0
	})
}

// piecesAreApart asks whether each piece is in one chunk, or in one run alone, and has all its words for itself.
func (w *walk) piecesAreApart() {
	w.t.Helper()
	for _, x := range w.pieces {
		first, last := x.addr/w.g.words, (x.addr+x.n-1)/w.g.words
		if first != last && x.addr%w.g.words != 0 {
			w.t.Fatalf("the piece %v goes over a chunk's end", x)
		}
		for c := first; c <= last; c++ {
			if w.of[w.whose(first)].p.Big(c) != (first != last) || w.whose(c) != w.whose(first) {
				w.t.Fatalf("the piece %v is in no one part", x)
			}
		}
		for k := range x.n {
			if got, e := w.store.Read(x.addr + k); got != uint64(x.mark) || e != api.OK {
				w.t.Fatalf("the word %d of the piece %v is %d, %v", k, x, got, e)
			}
		}
	}
}

// whose is the space that has a chunk; there is just one.
func (w *walk) whose(chunk int) int {
	w.t.Helper()
	found := -1
	for i, x := range w.of {
		for _, c := range x.p.Chunks() {
			if c == chunk && found >= 0 {
				w.t.Fatalf("%d and %d have the chunk %d", found, i, c)
			}
			if c == chunk {
				found = i
			}
		}
	}
	if found < 0 {
		w.t.Fatalf("no space has the chunk %d", chunk)
	}
	return found
}

// Of two chunks that were taken one behind the other, what is filled of the first one and the second one's first piece are more than a chunk.
func TestFewChunks(t *testing.T) {
	for seed := range int64(40) {
		r := rand.New(rand.NewSource(seed))
		words := 2 + r.Intn(20)
		s, _ := store.New(200, words)
		p, _ := New(s, 1)
		filled := words
		for range 300 {
			n := 1 + r.Intn(words)
			taken := len(p.Chunks())
			if _, e := p.Alloc(n); e != api.OK {
				break
			}
			if len(p.Chunks()) == taken {
				filled += n
				continue
			}
			if filled+n <= words {
				t.Fatalf("%d words of %d are filled, but %d more took a chunk", filled, words, n)
			}
			filled = n
		}
	}
}

// The nil Space, and the rules that hold everywhere

func TestNil(t *testing.T) {
	var p *Space
	f := newYard(t, 6, 4, 5)
	f.allocs(0, 2, 9)
	for _, n := range []int{math.MinInt, -1, 0, 1, 4, 5, math.MaxInt} {
		if a, e := p.Alloc(n); a != 0 || e != api.ErrNil {
			t.Errorf("Alloc(%d): %d, %v", n, a, e)
		}
		f.is("Drop", p.Drop(n), api.ErrNil)
		f.is("Hand", p.Hand(f.of[0].p, n), api.ErrNil)
		f.is("Hand to nil", p.Hand(nil, n), api.ErrNil)
		if p.Big(n) {
			t.Errorf("Big(%d)", n)
		}
	}
	f.is("Join", p.Join(f.of[0].p), api.ErrNil)
	f.is("Join of nil", p.Join(nil), api.ErrNil)
	if len(p.Chunks()) != 0 || p.Room() != 0 {
		t.Error(p.Chunks(), p.Room())
	}
	p.Clear()
	f.isLike()
}

// Spaces on two stores have nothing to do with one another; those on one share its chunks alone.
func TestSpacesAreApart(t *testing.T) {
	f, g := newYard(t, 6, 4, 5, 5), newYard(t, 6, 4, 5, 5)
	f.allocs(0, 2, 9)
	g.isLike()
	g.allocs(0, 9)
	f.allocs(1, 1)
	f.clear(0)
	g.allocs(1, 1, 4)
	f.allocs(1, 3, 5)
	f.isLike()
	g.isLike()
}
