package store

import (
	"fmt"
	"math"
	"math/rand"
	"slices"
	"testing"

	"turnrow/api"
)

// slow is a store as a list of chunks with words of their own: each question goes chunk by chunk and word by word, so that it shares nothing with what is tested.
type slow struct{ chunks []slowChunk }

type slowChunk struct {
	owner int
	words []uint64
}

func newSlow(chunks, words int) *slow {
	s := &slow{}
	for range chunks {
		s.chunks = append(s.chunks, slowChunk{0, make([]uint64, words)})
	}
	return s
}

func (s *slow) per() int { return len(s.chunks[0].words) }

func (s *slow) all() int { return len(s.chunks) * s.per() }

func (s *slow) free() int {
	n := 0
	for _, c := range s.chunks {
		if c.owner == 0 {
			n++
		}
	}
	return n
}

func (s *slow) takeRun(owner, n int) (int, api.Errno) {
	if owner < 1 || n < 1 {
		return 0, api.ErrArg
	}
	row := 0
	for i := range s.chunks {
		row++
		if s.chunks[i].owner != 0 {
			row = 0
		}
		if row < n {
			continue
		}
		for k := i - n + 1; k <= i; k++ {
			s.chunks[k] = slowChunk{owner, make([]uint64, s.per())}
		}
		return i - n + 1, api.OK
	}
	return 0, api.ErrChunks
}

func (s *slow) chunk(c int) (*slowChunk, api.Errno) {
	for i := range s.chunks {
		if i == c && s.chunks[i].owner == 0 {
			return nil, api.ErrFree
		}
		if i == c {
			return &s.chunks[i], api.OK
		}
	}
	return nil, api.ErrRange
}

func (s *slow) release(c int) api.Errno {
	x, e := s.chunk(c)
	if e == api.OK {
		x.owner = 0
	}
	return e
}

func (s *slow) give(c, owner int) api.Errno {
	if owner < 1 {
		return api.ErrArg
	}
	x, e := s.chunk(c)
	if e == api.OK {
		x.owner = owner
	}
	return e
}

func (s *slow) word(addr int) (*uint64, api.Errno) {
	at := 0
	for i := range s.chunks {
		for k := range s.chunks[i].words {
			if at == addr && s.chunks[i].owner == 0 {
				return nil, api.ErrFree
			}
			if at == addr {
				return &s.chunks[i].words[k], api.OK
			}
			at++
		}
	}
	return nil, api.ErrRange
}

func (s *slow) copyWords(to, from, n int) api.Errno {
	if n < 0 || n > s.all() || to < 0 || to > s.all() || from < 0 || from > s.all() {
		return api.ErrRange
	}
	if to+n > s.all() || from+n > s.all() {
		return api.ErrRange
	}
	var old []uint64
	for i := range n {
		x, e := s.word(from + i)
		if e != api.OK {
			return e
		}
		if _, e := s.word(to + i); e != api.OK {
			return e
		}
		old = append(old, *x)
	}
	for i, v := range old {
		x, _ := s.word(to + i)
		*x = v
	}
	return api.OK
}

func newStore(t *testing.T, chunks, words int) *Store {
	t.Helper()
	s, e := New(chunks, words)
	if e != api.OK || s == nil {
		t.Fatalf("New(%d, %d): %v, %v", chunks, words, s, e)
	}
	return s
}

// isLike holds all that can be asked of s against w.
func isLike(t *testing.T, s *Store, w *slow) {
	t.Helper()
	if s.Chunks() != len(w.chunks) || s.Words() != w.per() || s.Free() != w.free() {
		t.Fatalf("%d chunks of %d, %d free; not %d of %d, %d free", s.Chunks(), s.Words(), s.Free(), len(w.chunks), w.per(), w.free())
	}
	owned := map[int][]int{}
	for c := -2; c < len(w.chunks)+2; c++ {
		want := 0
		if x, e := w.chunk(c); e == api.OK {
			want = x.owner
			owned[want] = append(owned[want], c)
		}
		if got := s.Owner(c); got != want {
			t.Fatalf("Owner(%d) is %d, not %d", c, got, want)
		}
	}
	for o := -2; o < 12; o++ {
		if got := s.Owned(o); !slices.Equal(got, owned[o]) {
			t.Fatalf("Owned(%d) is %v, not %v", o, got, owned[o])
		}
	}
	for a := -2; a < w.all()+2; a++ {
		isRead(t, s, w, a)
	}
}

// isRead holds what is read at an address against w.
func isRead(t *testing.T, s *Store, w *slow, a int) {
	t.Helper()
	var want uint64
	x, e := w.word(a)
	if e == api.OK {
		want = *x
	}
	if got, err := s.Read(a); got != want || err != e {
		t.Fatalf("Read(%d) is %d, %v, not %d, %v", a, got, err, want, e)
	}
}

// is asks whether a call that answers an error alone answered that one.
func is(t *testing.T, what string, got, want api.Errno) {
	t.Helper()
	if got != want {
		t.Errorf("%s: %v, not %v", what, got, want)
	}
}

// takes asks whether TakeRun(owner, n) of s answers as it should.
func takes(t *testing.T, s *Store, owner, n, want int, wantErr api.Errno) {
	t.Helper()
	if c, e := s.TakeRun(owner, n); c != want || e != wantErr {
		t.Errorf("TakeRun(%d, %d) is %d, %v, not %d, %v", owner, n, c, e, want, wantErr)
	}
}

// both is a store of which just some chunks are owned, with words that all differ, and the slow one that is like it. Owners are written by digits; 0: free.
func both(t *testing.T, owners string, words int) (*Store, *slow) {
	t.Helper()
	s, w := newStore(t, len(owners), words), newSlow(len(owners), words)
	takes(t, s, 9, len(owners), 0, api.OK)
	w.takeRun(9, len(owners))
	for a := range w.all() {
		is(t, "Write", s.Write(a, uint64(a+1)), api.OK)
		x, _ := w.word(a)
		*x = uint64(a + 1)
	}
	for c, o := range owners {
		if o == '0' {
			is(t, "Release", s.Release(c), api.OK)
			w.release(c)
		} else {
			is(t, "Give", s.Give(c, int(o-'0')), api.OK)
			w.give(c, int(o-'0'))
		}
	}
	isLike(t, s, w)
	return s, w
}

// P3.1: New at its edges.
func TestNew(t *testing.T) {
	sides := []int{math.MinInt, -1, 0, 1, 2, 1023, 1024, 1025, math.MaxInt}
	for _, chunks := range sides {
		for _, words := range sides {
			right := chunks >= 1 && chunks <= api.MaxChunks && words >= 1 && words <= api.MaxWords
			s, e := New(chunks, words)
			if !right {
				if s != nil || e != api.ErrRange {
					t.Errorf("New(%d, %d): %v, %v", chunks, words, s, e)
				}
				continue
			}
			if e != api.OK || s == nil {
				t.Fatalf("New(%d, %d): %v", chunks, words, e)
			}
			if s.Chunks() != chunks || s.Words() != words || s.Free() != chunks {
				t.Errorf("New(%d, %d) has %d chunks of %d, %d free", chunks, words, s.Chunks(), s.Words(), s.Free())
			}
		}
	}
	isLike(t, newStore(t, 3, 2), newSlow(3, 2))
}

// P3.1: owners, at chunks and owners that there are, and that there aren't.
func TestOwners(t *testing.T) {
	s, _ := both(t, "2010220", 2)
	for _, c := range []int{math.MinInt, -1, 1, 3, 6, 7, 8, math.MaxInt} {
		if o := s.Owner(c); o != 0 {
			t.Errorf("Owner(%d) is %d", c, o)
		}
	}
	for c, o := range map[int]int{0: 2, 2: 1, 4: 2, 5: 2} {
		if got := s.Owner(c); got != o {
			t.Errorf("Owner(%d) is %d, not %d", c, got, o)
		}
	}
	for o, want := range map[int][]int{2: {0, 4, 5}, 1: {2}, 3: nil, 0: nil, -1: nil, math.MinInt: nil, math.MaxInt: nil} {
		if got := s.Owned(o); !slices.Equal(got, want) {
			t.Errorf("Owned(%d) is %v, not %v", o, got, want)
		}
	}
	is(t, "Give", s.Give(2, math.MaxInt), api.OK)
	if s.Owner(2) != math.MaxInt || !slices.Equal(s.Owned(math.MaxInt), []int{2}) || len(s.Owned(1)) != 0 {
		t.Error(s.Owner(2), s.Owned(math.MaxInt), s.Owned(1))
	}
}

// Rule 4: what Owned answers is nobody else's.
func TestOwnedIsNewMemory(t *testing.T) {
	s, w := both(t, "11011", 1)
	a, b := s.Owned(1), s.Owned(1)
	for i := range a {
		a[i] = 77
	}
	a = append(a[:cap(a)], 78)
	if !slices.Equal(b, []int{0, 1, 3, 4}) {
		t.Error("another answer has changed", b)
	}
	isLike(t, s, w)
	s.Release(0)
	if !slices.Equal(b, []int{0, 1, 3, 4}) {
		t.Error("an answer has changed with the store", b)
	}
}

// The chapter's example.
func TestExample(t *testing.T) {
	s := newStore(t, 4, 8)
	take := func(owner, want int) {
		t.Helper()
		if c, e := s.Take(owner); c != want || e != api.OK {
			t.Errorf("Take(%d) is %d, %v, not %d", owner, c, e, want)
		}
	}
	take(5, 0)
	takes(t, s, 6, 2, 1, api.OK)
	take(5, 3)
	is(t, "Release(1)", s.Release(1), api.OK)
	take(9, 1)
}

// P3.2: Take goes to the least free chunk, down to the last free one, and then to none.
func TestTake(t *testing.T) {
	for _, n := range []int{1, 2, 63, 64, 65, 1023, 1024} {
		s := newStore(t, n, 1)
		for c := range n {
			if got, e := s.Take(c + 1); got != c || e != api.OK || s.Owner(c) != c+1 || s.Free() != n-c-1 {
				t.Fatalf("Take %d of %d is %d, %v", c, n, got, e)
			}
		}
		for range 2 {
			if got, e := s.Take(1); got != 0 || e != api.ErrChunks {
				t.Fatalf("Take of a full store is %d, %v", got, e)
			}
		}
		is(t, "Release of the last one", s.Release(n-1), api.OK)
		if got, e := s.Take(7); got != n-1 || e != api.OK {
			t.Fatalf("Take of the last one is %d, %v", got, e)
		}
	}
	s, _ := both(t, "1010", 1)
	for _, want := range []int{1, 3} {
		if got, e := s.Take(2); got != want || e != api.OK {
			t.Errorf("Take is %d, %v, not %d", got, e, want)
		}
	}
}

// P3.2: TakeRun at its edges.
func TestTakeRun(t *testing.T) {
	for _, c := range []struct {
		owners string
		n      int
		want   int
		err    api.Errno
		behind string
	}{
		{"0000", 4, 0, api.OK, "3333"},                // all chunks
		{"0000", 5, 0, api.ErrChunks, "0000"},         // one too long
		{"1000", 3, 1, api.OK, "1333"},                // ends at the last one
		{"1000", 4, 0, api.ErrChunks, "1000"},         // the last one is passed
		{"0100", 2, 2, api.OK, "0133"},                // too short a row ahead of it
		{"0100", 1, 0, api.OK, "3100"},                // the first one
		{"00100", 2, 0, api.OK, "33100"},              // the first one of two that fit
		{"000100", 2, 0, api.OK, "330100"},            // a part of a row
		{"0101010", 2, 0, api.ErrChunks, ""},          // enough are free, but not in a row
		{"111", 1, 0, api.ErrChunks, "111"},           // none is free
		{"0", 1, 0, api.OK, "3"},                      // a store of one chunk
		{"00100100", 3, 0, api.ErrChunks, ""},         // no row is long enough
		{"001001000", 3, 6, api.OK, ""},               // the last row
		{"000", math.MaxInt, 0, api.ErrChunks, "000"}, // the greatest int
	} {
		s, w := both(t, c.owners, 3)
		takes(t, s, 3, c.n, c.want, c.err)
		if got, e := w.takeRun(3, c.n); got != c.want || e != c.err {
			t.Fatalf("%v: the slow one says %d, %v", c, got, e)
		}
		isLike(t, s, w)
		for i, o := range c.behind {
			if s.Owner(i) != int(o-'0') {
				t.Errorf("%v: Owner(%d) is %d", c, i, s.Owner(i))
			}
		}
	}
}

// P3.2: which owners and lengths may not be; the wrong argument goes ahead of the full store.
func TestTakeWrong(t *testing.T) {
	for _, owners := range []string{"0100", "1111"} {
		s, w := both(t, owners, 2)
		for _, o := range []int{math.MinInt, -1, 0} {
			if c, e := s.Take(o); c != 0 || e != api.ErrArg {
				t.Errorf("Take(%d) is %d, %v", o, c, e)
			}
			for _, n := range []int{math.MinInt, -1, 0, 1, 2, 5, math.MaxInt} {
				takes(t, s, o, n, 0, api.ErrArg)
			}
		}
		for _, n := range []int{math.MinInt, -1, 0} {
			takes(t, s, 1, n, 0, api.ErrArg)
			takes(t, s, math.MaxInt, n, 0, api.ErrArg)
		}
		isLike(t, s, w)
	}
}

// P3.2: Release and Give at all chunks and owners, in the order of their errors.
func TestReleaseAndGive(t *testing.T) {
	for _, c := range []int{math.MinInt, -4, -1, 0, 1, 2, 3, 4, 5, math.MaxInt} {
		want := api.ErrRange
		switch c {
		case 0, 3:
			want = api.OK
		case 1, 2:
			want = api.ErrFree
		}
		s, w := both(t, "1002", 2)
		is(t, fmt.Sprint("Release ", c), s.Release(c), want)
		is(t, "the slow one", w.release(c), want)
		isLike(t, s, w)
		for _, o := range []int{math.MinInt, -1, 0, 1, 2, 7} {
			s, w := both(t, "1002", 2)
			want := want
			if o < 1 {
				want = api.ErrArg
			}
			is(t, fmt.Sprint("Give ", c, o), s.Give(c, o), want)
			is(t, "the slow one", w.give(c, o), want)
			isLike(t, s, w)
		}
	}
}

// P3.2 and P3.4: what is taken again is 0, all of it and nothing else; what is given keeps its words.
func TestTakenIsZero(t *testing.T) {
	s, w := both(t, "12345", 4)
	for c := 1; c <= 3; c++ {
		is(t, "Release", s.Release(c), api.OK)
		w.release(c)
	}
	takes(t, s, 7, 2, 1, api.OK)
	w.takeRun(7, 2)
	for a := range 20 {
		x, e := s.Read(a)
		want, wantErr := uint64(a+1), api.OK
		if a >= 4 && a < 12 {
			want = 0
		}
		if a >= 12 && a < 16 {
			want, wantErr = 0, api.ErrFree
		}
		if x != want || e != wantErr {
			t.Errorf("Read(%d) is %d, %v, not %d, %v", a, x, e, want, wantErr)
		}
	}
	is(t, "Give", s.Give(4, 7), api.OK)
	w.give(4, 7)
	isLike(t, s, w)
	if c, e := s.Take(8); c != 3 || e != api.OK {
		t.Fatal(c, e)
	}
	w.takeRun(8, 1)
	isLike(t, s, w)
}

// P3.3: Read and Write at all addresses, in a store of which some chunks are free; Write changes the one word.
func TestReadWrite(t *testing.T) {
	far := []int{math.MinInt, math.MinInt + 1, -9, 99, math.MaxInt - 1, math.MaxInt}
	for words := 1; words <= 4; words++ {
		for _, owners := range []string{"1", "0", "101", "010", "0110"} {
			addrs := slices.Clone(far)
			for a := -words - 1; a < len(owners)*words+words+1; a++ {
				addrs = append(addrs, a)
			}
			for _, a := range addrs {
				s, w := both(t, owners, words)
				isRead(t, s, w, a)
				x, e := w.word(a)
				if e == api.OK {
					*x = math.MaxUint64
				}
				is(t, fmt.Sprint("Write ", a), s.Write(a, math.MaxUint64), e)
				isRead(t, s, w, a)
				isLike(t, s, w)
			}
		}
	}
}

// P3.3: the first and the last word of the greatest store.
func TestGreatest(t *testing.T) {
	s := newStore(t, api.MaxChunks, api.MaxWords)
	takes(t, s, 1, api.MaxChunks, 0, api.OK)
	last := api.MaxChunks*api.MaxWords - 1
	for _, a := range []int{0, 1023, 1024, last - 1024, last - 1023, last} {
		is(t, "Write", s.Write(a, uint64(a+5)), api.OK)
		if x, e := s.Read(a); x != uint64(a+5) || e != api.OK {
			t.Errorf("Read(%d) is %d, %v", a, x, e)
		}
	}
	is(t, "Write behind the last", s.Write(last+1, 1), api.ErrRange)
	is(t, "Copy of all", s.Copy(0, 0, last+1), api.OK)
	is(t, "Copy of one more", s.Copy(0, 0, last+2), api.ErrRange)
	is(t, "Copy of all but one", s.Copy(0, 1, last), api.OK)
	if x, e := s.Read(1022); x != 1028 || e != api.OK {
		t.Error(x, e)
	}
	if x, e := s.Read(last - 1); x != uint64(last+5) || e != api.OK {
		t.Error(x, e)
	}
}

// P3.3: Copy at all places and lengths of small stores, those that share words with one another, that go over chunks' ends and that pass the last word among them.
func TestCopy(t *testing.T) {
	for _, c := range []struct {
		owners string
		words  int
	}{{"11", 3}, {"1", 4}, {"101", 2}, {"0120", 2}, {"0", 2}, {"1111", 1}, {"1011", 1}} {
		all := len(c.owners) * c.words
		for to := -1; to <= all+1; to++ {
			for from := -1; from <= all+1; from++ {
				for n := -1; n <= all+1; n++ {
					s, w := both(t, c.owners, c.words)
					is(t, fmt.Sprintf("%v: Copy(%d, %d, %d)", c, to, from, n), s.Copy(to, from, n), w.copyWords(to, from, n))
					isLike(t, s, w)
				}
			}
		}
	}
}

// P3.3: Copy by hand: onto words ahead of those that are copied and behind them, and into the next chunk.
func TestCopyByHand(t *testing.T) {
	for _, c := range []struct {
		to, from, n int
		want        []uint64
	}{
		{0, 2, 4, []uint64{3, 4, 5, 6, 5, 6, 7, 8}},
		{2, 0, 4, []uint64{1, 2, 1, 2, 3, 4, 7, 8}},
		{3, 0, 2, []uint64{1, 2, 3, 1, 2, 6, 7, 8}},
		{0, 3, 2, []uint64{4, 5, 3, 4, 5, 6, 7, 8}},
		{4, 0, 4, []uint64{1, 2, 3, 4, 1, 2, 3, 4}},
		{5, 5, 3, []uint64{1, 2, 3, 4, 5, 6, 7, 8}},
		{7, 0, 1, []uint64{1, 2, 3, 4, 5, 6, 7, 1}},
		{0, 8, 0, []uint64{1, 2, 3, 4, 5, 6, 7, 8}},
		{8, 0, 0, []uint64{1, 2, 3, 4, 5, 6, 7, 8}},
	} {
		s, _ := both(t, "11", 4)
		is(t, fmt.Sprint(c), s.Copy(c.to, c.from, c.n), api.OK)
		for a, want := range c.want {
			if x, e := s.Read(a); x != want || e != api.OK {
				t.Errorf("%v: Read(%d) is %d, %v, not %d", c, a, x, e, want)
			}
		}
	}
}

// P3.3 and rule 1: what is beyond the words goes ahead of what is free, also where the sums pass the greatest int; of none, free chunks don't matter.
func TestCopyWrong(t *testing.T) {
	for _, c := range []struct {
		to, from, n int
		want        api.Errno
	}{
		{0, 0, -1, api.ErrRange}, {0, 0, math.MinInt, api.ErrRange}, {0, 0, math.MaxInt, api.ErrRange},
		{1, 0, math.MaxInt, api.ErrRange}, {0, 1, math.MaxInt, api.ErrRange},
		{math.MaxInt, 0, 0, api.ErrRange}, {0, math.MaxInt, 0, api.ErrRange},
		{math.MaxInt, 0, 1, api.ErrRange}, {0, math.MaxInt, 1, api.ErrRange},
		{math.MaxInt, 0, math.MaxInt, api.ErrRange}, {0, math.MaxInt, math.MaxInt, api.ErrRange},
		{math.MinInt, 0, 0, api.ErrRange}, {0, math.MinInt, 0, api.ErrRange},
		{math.MinInt, 0, math.MinInt, api.ErrRange}, {math.MinInt, math.MinInt, math.MaxInt, api.ErrRange},
		{-1, 0, 0, api.ErrRange}, {0, -1, 0, api.ErrRange}, {-1, 0, 1, api.ErrRange},
		{9, 0, 0, api.ErrRange}, {0, 9, 0, api.ErrRange},
		{5, 3, 4, api.ErrRange}, {3, 5, 4, api.ErrRange}, // also free
		{3, 0, 1, api.ErrFree}, {0, 3, 1, api.ErrFree}, {2, 6, 2, api.ErrFree}, {6, 2, 2, api.ErrFree},
		{0, 0, 8, api.ErrFree}, {0, 4, 3, api.ErrFree}, {4, 0, 3, api.ErrFree}, {3, 4, 1, api.ErrFree},
		{3, 4, 0, api.OK}, {8, 8, 0, api.OK}, {0, 8, 0, api.OK}, {8, 0, 0, api.OK}, {4, 1, 0, api.OK},
	} {
		s, w := both(t, "1001", 2)
		is(t, fmt.Sprint(c), s.Copy(c.to, c.from, c.n), c.want)
		isLike(t, s, w)
	}
}

// P3.4: a long walk of calls of all kinds, right and wrong ones, held against the slow store behind each.
func TestWalk(t *testing.T) {
	for seed := range int64(60) {
		r := rand.New(rand.NewSource(seed))
		chunks, words := 1+r.Intn(7), 1+r.Intn(5)
		s, w := newStore(t, chunks, words), newSlow(chunks, words)
		for range 300 {
			stepBoth(t, r, s, w)
			isLike(t, s, w)
		}
	}
}

// stepBoth does one call on both, and holds the answers against each other.
func stepBoth(t *testing.T, r *rand.Rand, s *Store, w *slow) {
	t.Helper()
	chunk, owner := r.Intn(len(w.chunks)+2)-1, r.Intn(6)-1
	addr, from, n := r.Intn(w.all()+2)-1, r.Intn(w.all()+2)-1, r.Intn(w.per()*2+2)-1
	switch r.Intn(7) {
	case 0:
		want, e := w.takeRun(owner, 1)
		if c, err := s.Take(owner); c != want || err != e {
			t.Fatalf("Take(%d) is %d, %v, not %d, %v", owner, c, err, want, e)
		}
	case 1:
		n := r.Intn(4)
		want, e := w.takeRun(owner, n)
		takes(t, s, owner, n, want, e)
	case 2:
		is(t, "Release", s.Release(chunk), w.release(chunk))
	case 3:
		is(t, "Give", s.Give(chunk, owner), w.give(chunk, owner))
	case 4:
		is(t, "Copy", s.Copy(addr, from, n), w.copyWords(addr, from, n))
	default:
		v := r.Uint64()
		x, e := w.word(addr)
		if e == api.OK {
			*x = v
		}
		is(t, "Write", s.Write(addr, v), e)
	}
}

// The line in brackets: of a nil Store ErrNil goes ahead of all other errors.
func TestNil(t *testing.T) {
	var s *Store
	if s.Chunks() != 0 || s.Words() != 0 || s.Free() != 0 {
		t.Error(s.Chunks(), s.Words(), s.Free())
	}
	for _, i := range []int{math.MinInt, -1, 0, 1, math.MaxInt} {
		if s.Owner(i) != 0 || len(s.Owned(i)) != 0 {
			t.Error(i, s.Owner(i), s.Owned(i))
		}
		if c, e := s.Take(i); c != 0 || e != api.ErrNil {
			t.Error("Take", i, c, e)
		}
		if x, e := s.Read(i); x != 0 || e != api.ErrNil {
			t.Error("Read", i, x, e)
		}
		is(t, "Release", s.Release(i), api.ErrNil)
		is(t, "Write", s.Write(i, 1), api.ErrNil)
		for _, k := range []int{math.MinInt, -1, 0, 1, math.MaxInt} {
			takes(t, s, i, k, 0, api.ErrNil)
			is(t, "Give", s.Give(i, k), api.ErrNil)
			is(t, "Copy", s.Copy(i, k, i), api.ErrNil)
		}
	}
}

// P2: two stores have nothing to do with one another.
func TestApart(t *testing.T) {
	a, wa := both(t, "1001", 2)
	b, wb := both(t, "0220", 2)
	takes(t, a, 5, 2, 1, api.OK)
	wa.takeRun(5, 2)
	is(t, "Copy", a.Copy(2, 0, 2), api.OK)
	wa.copyWords(2, 0, 2)
	isLike(t, b, wb)
	is(t, "Release", b.Release(1), api.OK)
	wb.release(1)
	isLike(t, a, wa)
	isLike(t, b, wb)
}
