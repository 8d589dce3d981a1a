package image

import (
	"math"
	"math/rand"
	"slices"
	"testing"

	"turnrow/api"
	"turnrow/layout"
	"turnrow/store"
)

// slow is a store and its objects as plain lists, by sums and divisions, so that it shares nothing with what is tested.
type slow struct {
	chunk   int // words of one
	words   []uint64
	free    []bool // by chunks
	layouts []api.Layout
}

func (s *slow) read(addr int) (uint64, api.Errno) {
	if addr < 0 || addr >= len(s.words) {
		return 0, api.ErrRange
	}
	if s.free[addr/s.chunk] {
		return 0, api.ErrFree
	}
	return s.words[addr], api.OK
}

func (s *slow) write(addr int, x uint64) api.Errno {
	if _, e := s.read(addr); e != api.OK {
		return e
	}
	s.words[addr] = x
	return api.OK
}

// usable looks at n words one by one: that one isn't there is told ahead of a free chunk.
func (s *slow) usable(addr, n int) api.Errno {
	worst := api.OK
	for k := range n {
		_, e := s.read(addr + k)
		// Behind MaxInt the sum wraps round.
		if e == api.ErrRange || addr+k < addr {
			return api.ErrRange
		}
		if e != api.OK {
			worst = e
		}
	}
	return worst
}

// kinds tells of each place of an object whether it is a reference.
func kinds(l api.Layout, count int) ([]bool, api.Errno) {
	if count < 0 || count > 1024 || l.Record == 0 && count != 0 {
		return nil, api.ErrRange
	}
	var k []bool
	for p := range l.Fixed {
		k = append(k, slices.Contains(l.Refs, p))
	}
	for range count {
		for p := range l.Record {
			k = append(k, slices.Contains(l.RecRefs, p))
		}
	}
	if len(k) > 8191 {
		return nil, api.ErrSize
	}
	return k, api.OK
}

func (s *slow) kindsOf(h api.Header) ([]bool, api.Errno) {
	if h.Layout < 1 || h.Layout > len(s.layouts) {
		return nil, api.ErrNone
	}
	return kinds(s.layouts[h.Layout-1], h.Count)
}

func headerMayBe(h api.Header) bool {
	return h.Layout >= 1 && h.Layout <= 64 && h.Count >= 0 && h.Count <= 1024 && h.Slot >= 0 && h.Slot <= 4095
}

// headerWord is the word of a header that may be.
func headerWord(h api.Header) uint64 {
	return 0xA5<<56 + uint64(h.Layout)<<32 + uint64(h.Count)<<16 + uint64(h.Slot)
}

func (s *slow) at(addr int) (api.Header, []bool, api.Errno) {
	w, e := s.read(addr)
	if e != api.OK {
		return api.Header{}, nil, e
	}
	h := api.Header{Layout: int(w >> 32 % 65536), Count: int(w >> 16 % 65536), Slot: int(w % 65536)}
	if !headerMayBe(h) || headerWord(h) != w {
		return api.Header{}, nil, api.ErrForm
	}
	k, e := s.kindsOf(h)
	if e != api.OK {
		return api.Header{}, nil, e
	}
	return h, k, api.OK
}

func (s *slow) make(addr int, h api.Header) (int, api.Errno) {
	if !headerMayBe(h) {
		return 0, api.ErrRange
	}
	k, e := s.kindsOf(h)
	if e != api.OK {
		return 0, e
	}
	n := len(k) + 1
	if e := s.usable(addr, n); e != api.OK {
		return 0, e
	}
	for i := range n {
		s.words[addr+i] = 0
	}
	s.words[addr] = headerWord(h)
	return n, api.OK
}

func (s *slow) move(to, from int) (int, api.Errno) {
	_, k, e := s.at(from)
	if e != api.OK {
		return 0, e
	}
	n := len(k) + 1
	a, b := s.usable(to, n), s.usable(from, n)
	if a == api.ErrRange || b == api.ErrRange {
		return 0, api.ErrRange
	}
	if a != api.OK || b != api.OK {
		return 0, api.ErrFree
	}
	copied := slices.Clone(s.words[from : from+n])
	for i, x := range copied {
		s.words[to+i] = x
	}
	return n, api.OK
}

// place is the address of a place's word, if the place is a reference, or none, as is asked.
func (s *slow) place(addr, place int, ref bool) (int, api.Errno) {
	_, k, e := s.at(addr)
	if e != api.OK {
		return 0, e
	}
	if place < 0 || place >= len(k) {
		return 0, api.ErrRange
	}
	if k[place] != ref {
		return 0, api.ErrKind
	}
	return addr + 1 + place, api.OK
}

func (s *slow) load(addr, place int) (uint64, api.Errno) {
	at, e := s.place(addr, place, false)
	if e != api.OK {
		return 0, e
	}
	return s.read(at)
}

func (s *slow) save(addr, place int, x uint64) api.Errno {
	at, e := s.place(addr, place, false)
	if e != api.OK {
		return e
	}
	return s.write(at, x)
}

func linkMayBe(l api.Link) bool {
	if l.Kind == 2 {
		return l.Token.Index >= 0 && l.Token.Index <= 4095 && l.Token.Gen >= 1 && l.Token.Gen <= 255
	}
	return (l.Kind == 0 || l.Kind == 1) && l.Token.Index == 0 && l.Token.Gen == 0
}

// linkWord is the word of a link that may be.
func linkWord(l api.Link) uint64 {
	if l.Kind < 2 {
		return uint64(l.Kind)
	}
	return uint64(l.Token.Gen)<<32 + uint64(l.Token.Index) + 2
}

func linkOf(w uint64) (api.Link, api.Errno) {
	if w < 2 {
		return api.Link{Kind: int(w)}, api.OK
	}
	l := api.Link{Kind: 2, Token: api.Token{Index: int(w%(1<<32)) - 2, Gen: int(w >> 32)}}
	if !linkMayBe(l) {
		return api.Link{}, api.ErrForm
	}
	return l, api.OK
}

func (s *slow) follow(addr, place int) (api.Link, api.Errno) {
	at, e := s.place(addr, place, true)
	if e != api.OK {
		return api.Link{}, e
	}
	w, e := s.read(at)
	if e != api.OK {
		return api.Link{}, e
	}
	return linkOf(w)
}

func (s *slow) tie(addr, place int, l api.Link) api.Errno {
	at, e := s.place(addr, place, true)
	if e != api.OK {
		return e
	}
	if !linkMayBe(l) {
		return api.ErrArg
	}
	return s.write(at, linkWord(l))
}

// told is what Links tells of one reference.
type told struct {
	place int
	link  api.Link
}

func (s *slow) links(addr int) []told {
	_, k, _ := s.at(addr)
	var l []told
	for p, ref := range k {
		if !ref {
			continue
		}
		x := api.Link{}
		if w, e := s.read(addr + 1 + p); e == api.OK {
			x, _ = linkOf(w)
		}
		l = append(l, told{p, x})
	}
	return l
}

func linksOf(m *Images, addr int) []told {
	var l []told
	for p, x := range m.Links(addr) {
		l = append(l, told{p, x})
	}
	return l
}

// pair is a store with images, and the slow one that is like both.
type pair struct {
	t     *testing.T
	store *store.Store
	book  *layout.Book
	m     *Images
	s     *slow
}

func newPair(t *testing.T, chunks, words int, layouts ...api.Layout) *pair {
	t.Helper()
	st, e := store.New(chunks, words)
	if e != api.OK {
		t.Fatal(e)
	}
	b := layout.NewBook()
	m, e := New(st, b)
	if e != api.OK || m == nil {
		t.Fatalf("New: %v, %v", m, e)
	}
	p := &pair{t, st, b, m, &slow{words, make([]uint64, chunks*words), make([]bool, chunks), nil}}
	for c := range p.s.free {
		p.s.free[c] = true
	}
	for _, l := range layouts {
		p.define(l)
	}
	return p
}

func (p *pair) define(l api.Layout) {
	p.t.Helper()
	if _, e := p.book.Add(l); e != api.OK {
		p.t.Fatalf("%v: %v", l, e)
	}
	p.s.layouts = append(p.s.layouts, l)
}

// takeAll takes all chunks, and lets those go that aren't asked for.
func (p *pair) takeAll(taken func(chunk int) bool) {
	p.t.Helper()
	if _, e := p.store.TakeRun(1, len(p.s.free)); e != api.OK {
		p.t.Fatal(e)
	}
	for c := range p.s.free {
		p.s.free[c] = !taken(c)
		if p.s.free[c] {
			p.store.Release(c)
		}
	}
}

func all(int) bool { return true }

// put sets a word by the store's own call.
func (p *pair) put(addr int, x uint64) {
	p.t.Helper()
	if a, b := p.store.Write(addr, x), p.s.write(addr, x); a != b {
		p.t.Fatalf("the store's Write of %d: %v, not %v", addr, a, b)
	}
}

// fill sets all words that can be written to numbers that are no header's, no link's, and each another one.
func (p *pair) fill() {
	p.t.Helper()
	for a := range p.s.words {
		p.put(a, 1<<48+uint64(a))
	}
}

func (p *pair) make(addr int, h api.Header) {
	p.t.Helper()
	n, e := p.m.Make(addr, h)
	if wantN, want := p.s.make(addr, h); n != wantN || e != want {
		p.t.Fatalf("Make(%d, %v): %d, %v, not %d, %v", addr, h, n, e, wantN, want)
	}
}

func (p *pair) move(to, from int) {
	p.t.Helper()
	n, e := p.m.Move(to, from)
	if wantN, want := p.s.move(to, from); n != wantN || e != want {
		p.t.Fatalf("Move(%d, %d): %d, %v, not %d, %v", to, from, n, e, wantN, want)
	}
}

func (p *pair) save(addr, place int, x uint64) {
	p.t.Helper()
	if e, want := p.m.Save(addr, place, x), p.s.save(addr, place, x); e != want {
		p.t.Fatalf("Save(%d, %d, %x): %v, not %v", addr, place, x, e, want)
	}
}

func (p *pair) tie(addr, place int, l api.Link) {
	p.t.Helper()
	if e, want := p.m.Tie(addr, place, l), p.s.tie(addr, place, l); e != want {
		p.t.Fatalf("Tie(%d, %d, %v): %v, not %v", addr, place, l, e, want)
	}
}

func (p *pair) at(addr int) {
	p.t.Helper()
	h, n, e := p.m.At(addr)
	wantH, k, want := p.s.at(addr)
	wantN := 0
	if want == api.OK {
		wantN = len(k) + 1
	}
	if h != wantH || n != wantN || e != want {
		p.t.Fatalf("At(%d): %v, %d, %v, not %v, %d, %v", addr, h, n, e, wantH, wantN, want)
	}
}

func (p *pair) load(addr, place int) {
	p.t.Helper()
	x, e := p.m.Load(addr, place)
	if wantX, want := p.s.load(addr, place); x != wantX || e != want {
		p.t.Fatalf("Load(%d, %d): %x, %v, not %x, %v", addr, place, x, e, wantX, want)
	}
}

func (p *pair) follow(addr, place int) {
	p.t.Helper()
	l, e := p.m.Follow(addr, place)
	if wantL, want := p.s.follow(addr, place); l != wantL || e != want {
		p.t.Fatalf("Follow(%d, %d): %v, %v, not %v, %v", addr, place, l, e, wantL, want)
	}
}

func (p *pair) links(addr int) {
	p.t.Helper()
	if l, want := linksOf(p.m, addr), p.s.links(addr); !slices.Equal(l, want) {
		p.t.Fatalf("Links(%d): %v, not %v", addr, l, want)
	}
}

// isLike holds all words of the store against the slow one's.
func (p *pair) isLike() {
	p.t.Helper()
	for a := range p.s.words {
		x, e := p.store.Read(a)
		if wantX, want := p.s.read(a); x != wantX || e != want {
			p.t.Fatalf("the word %d: %x, %v, not %x, %v", a, x, e, wantX, want)
		}
	}
}

// asks is all that can be asked of an address, at all places of the object, and beside them.
func (p *pair) asks(addr int) {
	p.t.Helper()
	p.at(addr)
	p.links(addr)
	_, k, _ := p.s.at(addr)
	for place := -2; place < len(k)+3; place++ {
		p.load(addr, place)
		p.follow(addr, place)
	}
	for _, place := range farOff() {
		p.load(addr, place)
		p.follow(addr, place)
	}
}

// farOff are the least and the greatest numbers, and such as wrap round to a place or an address.
func farOff() []int {
	return []int{math.MinInt, math.MinInt + 1, math.MinInt + 8, -1 << 32, -9, -1, 1 << 20, 1<<32 + 1, math.MaxInt - 8, math.MaxInt - 1, math.MaxInt}
}

func hdr(id, count, slot int) api.Header {
	return api.Header{Layout: id, Count: count, Slot: slot}
}

func link(index, gen int) api.Link {
	return api.Link{Kind: 2, Token: api.Token{Index: index, Gen: gen}}
}

// upTo are the numbers below n.
func upTo(n int) []int {
	l := make([]int, n)
	for i := range l {
		l[i] = i
	}
	return l
}

// few are layouts of all sorts: with a fixed part alone, records alone, both; with references and without.
func few() []api.Layout {
	return []api.Layout{
		{Fixed: 2, Refs: []int{1}},
		{Fixed: 1, Record: 2, RecRefs: []int{0}},
		{Record: 3, RecRefs: []int{0, 2}},
		{Fixed: 3, Refs: []int{0, 1, 2}, Record: 1},
		{Fixed: 4},
		{Fixed: 64, Refs: upTo(64), Record: 64, RecRefs: upTo(64)},
	}
}

// fewHeaders are headers of the few layouts whose objects are short.
func fewHeaders() []api.Header {
	return []api.Header{hdr(1, 0, 0), hdr(2, 0, 1), hdr(2, 1, 2), hdr(2, 3, 4095), hdr(3, 0, 4), hdr(3, 1, 5), hdr(3, 2, 6), hdr(4, 0, 7), hdr(4, 2, 8), hdr(5, 0, 9)}
}

// P12.1

func TestExample(t *testing.T) {
	s, _ := store.New(4, 8)
	b := layout.NewBook()
	b.Add(api.Layout{Fixed: 2, Refs: []int{1}})
	s.TakeRun(1, 4)
	m, e := New(s, b)
	if e != api.OK || m == nil {
		t.Fatal(m, e)
	}
	if n, e := m.Make(8, hdr(1, 0, 3)); n != 3 || e != api.OK {
		t.Errorf("Make: %d, %v", n, e)
	}
	if x, e := m.Load(8, 0); x != 0 || e != api.OK {
		t.Errorf("Load: %d, %v", x, e)
	}
	if l, e := m.Follow(8, 0); l != (api.Link{}) || e != api.ErrKind {
		t.Errorf("Follow of the word: %v, %v", l, e)
	}
	if l, e := m.Follow(8, 1); l != (api.Link{}) || e != api.OK {
		t.Errorf("Follow of the reference: %v, %v", l, e)
	}
	if x, e := s.Read(8); x != 0xA500000100000003 || e != api.OK {
		t.Errorf("the first word: %x, %v", x, e)
	}
}

func TestNew(t *testing.T) {
	s, _ := store.New(1, 1)
	b := layout.NewBook()
	for _, c := range []struct {
		s *store.Store
		b *layout.Book
	}{{nil, nil}, {s, nil}, {nil, b}} {
		if m, e := New(c.s, c.b); m != nil || e != api.ErrNil {
			t.Errorf("New(%v, %v): %v, %v", c.s, c.b, m, e)
		}
	}
	if m, e := New(s, b); m == nil || e != api.OK {
		t.Errorf("New: %v, %v", m, e)
	}
}

func TestNil(t *testing.T) {
	var m *Images
	for _, x := range append(farOff(), 0, 1) {
		if n, e := m.Make(x, hdr(1, 0, 0)); n != 0 || e != api.ErrNil {
			t.Errorf("Make: %d, %v", n, e)
		}
		if n, e := m.Make(x, hdr(x, x, x)); n != 0 || e != api.ErrNil {
			t.Errorf("Make of a header that may not be: %d, %v", n, e)
		}
		if h, n, e := m.At(x); h != (api.Header{}) || n != 0 || e != api.ErrNil {
			t.Errorf("At: %v, %d, %v", h, n, e)
		}
		if n, e := m.Move(x, x); n != 0 || e != api.ErrNil {
			t.Errorf("Move: %d, %v", n, e)
		}
		if y, e := m.Load(x, x); y != 0 || e != api.ErrNil {
			t.Errorf("Load: %d, %v", y, e)
		}
		if l, e := m.Follow(x, x); l != (api.Link{}) || e != api.ErrNil {
			t.Errorf("Follow: %v, %v", l, e)
		}
		if e := m.Save(x, x, 1); e != api.ErrNil {
			t.Errorf("Save: %v", e)
		}
		if e := m.Tie(x, x, api.Link{Kind: x}); e != api.ErrNil {
			t.Errorf("Tie: %v", e)
		}
		if l := linksOf(m, x); len(l) != 0 {
			t.Errorf("Links: %v", l)
		}
	}
}

// Each short object at each address of four chunks, of which any are free: what was there is written over, what is beside stays.
func TestMake(t *testing.T) {
	for free := range 16 {
		for _, h := range fewHeaders() {
			p := newPair(t, 4, 3, few()...)
			p.takeAll(func(c int) bool { return free>>c&1 == 0 })
			p.fill()
			for addr := -3; addr < 16; addr++ {
				p.make(addr, h)
				p.isLike()
				p.at(addr)
			}
			for _, addr := range farOff() {
				p.make(addr, h)
			}
			p.isLike()
		}
	}
}

func TestMakeOfOldWords(t *testing.T) {
	p := newPair(t, 1, 12, few()...)
	p.takeAll(all)
	p.fill()
	if n, e := p.m.Make(2, hdr(2, 3, 77)); n != 8 || e != api.OK {
		t.Fatal(n, e)
	}
	want := []uint64{1 << 48, 1<<48 + 1, 0xA50000020003004D, 0, 0, 0, 0, 0, 0, 0, 1<<48 + 10, 1<<48 + 11}
	for a, w := range want {
		if x, e := p.store.Read(a); x != w || e != api.OK {
			t.Errorf("the word %d: %x, %v, not %x", a, x, e, w)
		}
	}
}

// With several errors the one that the chapter names first is told, and nothing is written.
func TestMakeErrors(t *testing.T) {
	p := newPair(t, 2, 8, few()...)
	p.takeAll(func(c int) bool { return c == 0 })
	p.fill()
	for _, c := range []struct {
		addr int
		h    api.Header
		want api.Errno
	}{
		{0, hdr(0, 0, 0), api.ErrRange},
		{0, hdr(65, 0, 0), api.ErrRange},
		{0, hdr(7, 1025, 0), api.ErrRange},
		{0, hdr(7, -1, 0), api.ErrRange},
		{0, hdr(7, 0, 4096), api.ErrRange},
		{8, hdr(7, 0, -1), api.ErrRange},
		{8, hdr(6, 1024, 4096), api.ErrRange},
		{8, hdr(1, 0, 4096), api.ErrRange},
		{0, hdr(256+1, 0, 0), api.ErrRange},
		{0, hdr(1, 65536, 0), api.ErrRange},
		{0, hdr(1, 0, 65536), api.ErrRange},
		{0, hdr(math.MinInt, 0, 0), api.ErrRange},
		{0, hdr(math.MaxInt, 0, 0), api.ErrRange},
		{0, hdr(2, math.MinInt, 0), api.ErrRange},
		{0, hdr(2, math.MaxInt, 0), api.ErrRange},
		{0, hdr(1, 0, math.MinInt), api.ErrRange},
		{0, hdr(1, 0, math.MaxInt), api.ErrRange},
		{0, hdr(7, 0, 0), api.ErrNone},
		{0, hdr(64, 1024, 4095), api.ErrNone},
		{-1, hdr(7, 0, 0), api.ErrNone},
		{8, hdr(7, 0, 0), api.ErrNone},
		{0, hdr(1, 1, 0), api.ErrRange},
		{8, hdr(1, 1, 0), api.ErrRange},
		{8, hdr(5, 1024, 0), api.ErrRange},
		{0, hdr(6, 127, 0), api.ErrSize},
		{-1, hdr(6, 127, 0), api.ErrSize},
		{8, hdr(6, 1024, 0), api.ErrSize},
		{0, hdr(6, 126, 0), api.ErrRange},
		{8, hdr(6, 0, 0), api.ErrRange},
		{-1, hdr(1, 0, 0), api.ErrRange},
		{14, hdr(1, 0, 0), api.ErrRange},
		{16, hdr(3, 0, 0), api.ErrRange},
		{math.MinInt, hdr(1, 0, 0), api.ErrRange},
		{math.MaxInt, hdr(1, 0, 0), api.ErrRange},
		{math.MaxInt - 1, hdr(1, 0, 0), api.ErrRange},
		{13, hdr(1, 0, 0), api.ErrFree},
		{8, hdr(1, 0, 0), api.ErrFree},
		{7, hdr(1, 0, 0), api.ErrFree},
		{6, hdr(1, 0, 0), api.ErrFree},
		{15, hdr(3, 0, 0), api.ErrFree},
		{5, hdr(1, 0, 0), api.OK},
		{7, hdr(3, 0, 0), api.OK},
	} {
		if _, want := p.s.make(c.addr, c.h); want != c.want {
			t.Fatalf("the slow Make(%d, %v): %v, not %v", c.addr, c.h, want, c.want)
		}
		n, e := p.m.Make(c.addr, c.h)
		if e != c.want || (e != api.OK) != (n == 0) {
			t.Errorf("Make(%d, %v): %d, %v, not %v", c.addr, c.h, n, e, c.want)
		}
		p.isLike()
	}
}

// The greatest object there may be fills the store, but for one word at most.
func TestGreatest(t *testing.T) {
	p := newPair(t, 9, 911, api.Layout{Fixed: 63, Refs: []int{62}, Record: 64, RecRefs: []int{63}}, few()[5])
	p.takeAll(all)
	p.fill()
	for _, addr := range []int{-1, 8, 7, 0, 3} {
		p.make(addr, hdr(1, 127, 1))
		p.isLike()
	}
	p.asks(3)
	p.tie(3, 8190, link(4095, 255))
	p.save(3, 8189, math.MaxUint64)
	p.asks(3)
	p.make(0, hdr(1, 128, 1))
	p.make(0, hdr(2, 127, 1))
	for _, to := range []int{8, 7, 0, -1} {
		p.move(to, 3)
		p.isLike()
	}
	if n, e := p.m.Make(7, hdr(1, 127, 1)); n != api.MaxObject || e != api.OK {
		t.Errorf("Make: %d, %v", n, e)
	}
}

// Images keep nothing: what is done to their store and their book by others they see.
func TestKeepsNothing(t *testing.T) {
	p := newPair(t, 2, 8)
	p.make(0, hdr(1, 0, 0))
	p.define(few()[0])
	p.make(0, hdr(1, 0, 0))
	p.takeAll(all)
	p.make(0, hdr(1, 0, 0))
	p.put(0, headerWord(hdr(2, 2, 7)))
	p.asks(0)
	p.define(few()[1])
	p.asks(0)
	other, e := New(p.store, p.book)
	if e != api.OK {
		t.Fatal(e)
	}
	if e := other.Tie(0, 1, link(5, 6)); e != api.OK {
		t.Error(e)
	}
	p.s.tie(0, 1, link(5, 6))
	p.asks(0)
	p.store.Release(0)
	p.s.free[0] = true
	p.asks(0)
	if c, e := p.store.Take(3); c != 0 || e != api.OK {
		t.Fatal(c, e)
	}
	p.s.free[0] = false
	clear(p.s.words[:8])
	p.asks(0)
	p.isLike()
}

// P2
func TestStoresApart(t *testing.T) {
	a, b := newPair(t, 1, 8, few()...), newPair(t, 1, 8, few()[1])
	for _, p := range []*pair{a, b} {
		p.takeAll(all)
		p.make(1, hdr(1, 0, 3))
	}
	a.save(1, 0, 5)
	b.save(1, 0, 6)
	a.tie(1, 1, link(1, 1))
	for _, p := range []*pair{a, b} {
		p.isLike()
		p.asks(1)
	}
}

// P12.2

// All words that are a header's but for a few bits, or whose fields are at their edges.
func TestAtOfWords(t *testing.T) {
	p := newPair(t, 1, 1, few()...)
	p.takeAll(all)
	words := []uint64{0, 1, math.MaxUint64, 0xA5 << 56, 1 << 63}
	for _, id := range []uint64{0, 1, 2, 5, 6, 7, 64, 65, 128, 255} {
		for _, count := range []uint64{0, 1, 126, 127, 128, 1023, 1024, 1025, 32768, 65535} {
			for _, slot := range []uint64{0, 1, 4095, 4096, 65535} {
				words = append(words, 0xA5<<56+id<<32+count<<16+slot)
			}
		}
	}
	for _, h := range fewHeaders() {
		w := headerWord(h)
		for i := range 64 {
			for k := range i + 1 {
				words = append(words, w^1<<i^1<<k)
			}
		}
	}
	for _, w := range words {
		p.put(0, w)
		p.at(0)
		p.links(0)
	}
}

// Whether all words are there isn't asked: an object may run into a free chunk, or out of the store.
func TestAtTheEnd(t *testing.T) {
	p := newPair(t, 2, 4, few()...)
	p.takeAll(func(c int) bool { return c == 1 })
	for addr := -2; addr < 10; addr++ {
		p.put(addr, headerWord(hdr(6, 126, 3)))
		p.at(addr)
	}
	for _, addr := range farOff() {
		p.at(addr)
	}
	if h, n, e := p.m.At(7); h != hdr(6, 126, 3) || n != 8129 || e != api.OK {
		t.Errorf("At: %v, %d, %v", h, n, e)
	}
	if h, n, e := p.m.At(3); h != (api.Header{}) || n != 0 || e != api.ErrFree {
		t.Errorf("At of a free chunk: %v, %d, %v", h, n, e)
	}
}

// An object is moved from each address to each one, also onto itself and over itself, among chunks of which any are free.
func TestMove(t *testing.T) {
	for free := range 16 {
		for _, h := range []api.Header{hdr(1, 0, 8), hdr(3, 0, 9), hdr(2, 2, 10)} {
			for from := range 12 {
				p := newPair(t, 4, 3, few()...)
				p.takeAll(func(c int) bool { return free>>c&1 == 0 })
				for to := -2; to < 15; to++ {
					p.fill()
					p.put(from, headerWord(h))
					p.move(to, from)
					p.isLike()
				}
				for _, to := range farOff() {
					p.move(to, from)
					p.move(from, to)
				}
				p.isLike()
			}
		}
	}
}

// All words go over as they are, such too as are no link's; what was there stays.
func TestMoveOfWords(t *testing.T) {
	p := newPair(t, 2, 8, few()...)
	p.takeAll(all)
	p.make(1, hdr(2, 2, 3))
	p.save(1, 0, math.MaxUint64)
	p.tie(1, 1, api.Link{Kind: 1})
	p.tie(1, 3, link(4, 5))
	p.put(3, 99)
	if n, e := p.m.Move(9, 1); n != 6 || e != api.OK {
		t.Errorf("Move: %d, %v", n, e)
	}
	for a := 1; a < 7; a++ {
		x, _ := p.store.Read(a)
		if y, e := p.store.Read(a + 8); y != x || e != api.OK {
			t.Errorf("the word %d: %x, %v, not %x", a+8, y, e, x)
		}
	}
	p.s.move(9, 1)
	p.isLike()
	p.asks(9)
}

func TestMoveErrors(t *testing.T) {
	p := newPair(t, 3, 4, few()...)
	p.takeAll(func(c int) bool { return c != 1 })
	p.fill()
	p.put(0, headerWord(hdr(1, 0, 0)))
	p.put(2, headerWord(hdr(1, 0, 0)))
	p.put(3, headerWord(hdr(7, 0, 0)))
	p.put(8, headerWord(hdr(1, 1, 0)))
	p.put(9, headerWord(hdr(6, 127, 0)))
	p.put(10, headerWord(hdr(1, 0, 0)))
	for _, c := range []struct {
		to, from int
		want     api.Errno
	}{
		{-1, -1, api.ErrRange},
		{0, 12, api.ErrRange},
		{-1, 4, api.ErrFree},
		{0, 1, api.ErrForm},
		{-1, 1, api.ErrForm},
		{4, 1, api.ErrForm},
		{-1, 3, api.ErrNone},
		{4, 3, api.ErrNone},
		{4, 8, api.ErrRange},
		{-1, 9, api.ErrSize},
		{4, 9, api.ErrSize},
		{-1, 0, api.ErrRange},
		{math.MinInt, 0, api.ErrRange},
		{math.MaxInt, 0, api.ErrRange},
		{10, 0, api.ErrRange},
		{10, 2, api.ErrRange},
		{4, 10, api.ErrRange},
		{0, 10, api.ErrRange},
		{4, 0, api.ErrFree},
		{2, 0, api.ErrFree},
		{7, 0, api.ErrFree},
		{9, 2, api.ErrFree},
		{1, 0, api.OK},
	} {
		if _, want := p.s.move(c.to, c.from); want != c.want {
			t.Fatalf("the slow Move(%d, %d): %v, not %v", c.to, c.from, want, c.want)
		}
		n, e := p.m.Move(c.to, c.from)
		if e != c.want || (e != api.OK) != (n == 0) {
			t.Errorf("Move(%d, %d): %d, %v, not %v", c.to, c.from, n, e, c.want)
		}
		p.isLike()
	}
}

// P12.3

// All words of each short object: those that are no references take any word, and give it back.
func TestSaveAndLoad(t *testing.T) {
	for _, h := range fewHeaders() {
		p := newPair(t, 2, 6, few()...)
		p.takeAll(all)
		p.fill()
		p.make(1, h)
		for place := -2; place < 12; place++ {
			for _, x := range []uint64{1, 2, 0, 1 << 32, math.MaxUint64, 1 << 63, headerWord(h), 1<<40 + uint64(place)} {
				p.save(1, place, x)
				p.load(1, place)
			}
			p.isLike()
		}
		for _, place := range farOff() {
			p.save(1, place, 3)
		}
		p.isLike()
		p.asks(1)
	}
}

// manyLinks are links that may be, and such as may not, at all edges.
func manyLinks() []api.Link {
	numbers := []int{math.MinInt, -1 << 32, -2, -1, 0, 1, 254, 255, 256, 4095, 4096, 1 << 32, 1<<32 + 1, math.MaxInt - 1, math.MaxInt}
	var l []api.Link
	for _, kind := range []int{math.MinInt, -1, 0, 1, 2, 3, 1<<32 + 2, math.MaxInt} {
		for _, index := range numbers {
			for _, gen := range numbers {
				l = append(l, api.Link{Kind: kind, Token: api.Token{Index: index, Gen: gen}})
			}
		}
	}
	return l
}

func TestTieAndFollow(t *testing.T) {
	for _, h := range fewHeaders() {
		p := newPair(t, 2, 6, few()...)
		p.takeAll(all)
		p.fill()
		p.make(1, h)
		for place := -2; place < 12; place++ {
			for _, l := range manyLinks() {
				p.tie(1, place, l)
				p.follow(1, place)
			}
			p.tie(1, place, link(100+place, 7))
			p.isLike()
		}
		for _, place := range farOff() {
			p.tie(1, place, link(1, 1))
		}
		p.isLike()
		p.asks(1)
	}
}

// Of the words of a reference those are told that are a link's.
func TestFollowOfWords(t *testing.T) {
	p := newPair(t, 1, 3, few()...)
	p.takeAll(all)
	p.make(0, hdr(1, 0, 0))
	for _, low := range []uint64{0, 1, 2, 3, 4096, 4097, 4098, 1 << 31, 1<<32 - 1} {
		for _, high := range []uint64{0, 1, 2, 254, 255, 256, 1 << 31, 1<<32 - 1} {
			p.put(2, high<<32+low)
			p.follow(0, 1)
			p.links(0)
			p.load(0, 0)
			p.load(0, 1)
		}
	}
}

// Where several errors apply to a place, the first one is told.
func TestPlaceErrors(t *testing.T) {
	p := newPair(t, 3, 4, few()...)
	p.takeAll(func(c int) bool { return c != 1 })
	p.fill()
	p.put(1, headerWord(hdr(7, 0, 0)))
	p.put(2, headerWord(hdr(1, 1, 0)))
	p.put(3, headerWord(hdr(1, 0, 0)))
	p.put(8, headerWord(hdr(6, 127, 0)))
	p.put(11, headerWord(hdr(1, 0, 0)))
	bad := api.Link{Kind: 3}
	for _, c := range []struct {
		addr, place int
		words, refs api.Errno // of Load and Save; of Follow and Tie
		tied        api.Errno // of Tie with a link that may not be
	}{
		{-1, 0, api.ErrRange, api.ErrRange, api.ErrRange},
		{12, 9, api.ErrRange, api.ErrRange, api.ErrRange},
		{4, -1, api.ErrFree, api.ErrFree, api.ErrFree},
		{0, 0, api.ErrForm, api.ErrForm, api.ErrForm},
		{0, -1, api.ErrForm, api.ErrForm, api.ErrForm},
		{1, -1, api.ErrNone, api.ErrNone, api.ErrNone},
		{2, 0, api.ErrRange, api.ErrRange, api.ErrRange},
		{8, 0, api.ErrSize, api.ErrSize, api.ErrSize},
		{8, -1, api.ErrSize, api.ErrSize, api.ErrSize},
		{3, -1, api.ErrRange, api.ErrRange, api.ErrRange},
		{3, 2, api.ErrRange, api.ErrRange, api.ErrRange},
		{3, math.MaxInt, api.ErrRange, api.ErrRange, api.ErrRange},
		{3, math.MinInt, api.ErrRange, api.ErrRange, api.ErrRange},
		{3, 0, api.ErrFree, api.ErrKind, api.ErrKind},
		{3, 1, api.ErrKind, api.ErrFree, api.ErrArg},
		{11, 0, api.ErrRange, api.ErrKind, api.ErrKind},
		{11, 1, api.ErrKind, api.ErrRange, api.ErrArg},
	} {
		if x, e := p.m.Load(c.addr, c.place); x != 0 || e != c.words {
			t.Errorf("Load(%d, %d): %d, %v, not %v", c.addr, c.place, x, e, c.words)
		}
		if e := p.m.Save(c.addr, c.place, 5); e != c.words {
			t.Errorf("Save(%d, %d): %v, not %v", c.addr, c.place, e, c.words)
		}
		if l, e := p.m.Follow(c.addr, c.place); l != (api.Link{}) || e != c.refs {
			t.Errorf("Follow(%d, %d): %v, %v, not %v", c.addr, c.place, l, e, c.refs)
		}
		if e := p.m.Tie(c.addr, c.place, link(1, 1)); e != c.refs {
			t.Errorf("Tie(%d, %d): %v, not %v", c.addr, c.place, e, c.refs)
		}
		if e := p.m.Tie(c.addr, c.place, bad); e != c.tied {
			t.Errorf("Tie(%d, %d) with %v: %v, not %v", c.addr, c.place, bad, e, c.tied)
		}
		p.isLike()
	}
}

// P12.4

func TestLinks(t *testing.T) {
	p := newPair(t, 2, 8, few()...)
	p.takeAll(all)
	p.make(1, hdr(3, 3, 0))
	p.tie(1, 0, link(0, 1))
	p.tie(1, 2, link(4095, 255))
	p.tie(1, 3, api.Link{Kind: 1})
	p.save(1, 4, 0x100000009)
	p.put(7, math.MaxUint64)
	p.tie(1, 8, link(7, 1))
	want := []told{{0, link(0, 1)}, {2, link(4095, 255)}, {3, api.Link{Kind: 1}}, {5, api.Link{}}, {6, api.Link{}}, {8, link(7, 1)}}
	if l := linksOf(p.m, 1); !slices.Equal(l, want) {
		t.Errorf("Links: %v, not %v", l, want)
	}
	if _, e := p.m.Follow(1, 5); e != api.ErrForm {
		t.Errorf("Follow of a word that is no link's: %v", e)
	}
	// One walk hangs on no other one, within it or behind it.
	walk := p.m.Links(1)
	for range 2 {
		var l []told
		for place, x := range walk {
			l = append(l, told{place, x})
			if !slices.Equal(linksOf(p.m, 1), want) {
				t.Errorf("Links within a walk, at %d: %v", place, linksOf(p.m, 1))
			}
		}
		if !slices.Equal(l, want) {
			t.Errorf("the walk: %v, not %v", l, want)
		}
	}
}

// A walk that is left tells nothing any more.
func TestLinksLeft(t *testing.T) {
	p := newPair(t, 2, 8, few()...)
	p.takeAll(all)
	for _, h := range fewHeaders() {
		p.make(1, h)
		want := p.s.links(1)
		for n := 1; n <= len(want); n++ {
			var l []told
			p.m.Links(1)(func(place int, x api.Link) bool {
				l = append(l, told{place, x})
				return len(l) < n
			})
			if !slices.Equal(l, want[:n]) {
				t.Errorf("Links of %v, left at %d: %v", h, n, l)
			}
		}
	}
}

// Where Follow tells an error, the place is told, with the zero link: words in a free chunk, and beyond the store.
func TestLinksWithoutWords(t *testing.T) {
	for free := range 8 {
		for _, h := range append(fewHeaders(), hdr(6, 0, 3), hdr(6, 1, 3), hdr(6, 127, 3), hdr(7, 0, 3)) {
			p := newPair(t, 3, 3, few()...)
			p.takeAll(func(c int) bool { return free>>c&1 == 0 })
			for addr := range 9 {
				for a := range 9 {
					p.put(a, linkWord(link(a, 1)))
				}
				p.put(addr, headerWord(h))
				p.links(addr)
			}
			p.links(-1)
			p.links(9)
		}
	}
	p := newPair(t, 1, 3, few()...)
	p.takeAll(all)
	p.put(1, headerWord(hdr(2, 2, 0)))
	want := []told{{1, api.Link{}}, {3, api.Link{}}}
	if l := linksOf(p.m, 1); !slices.Equal(l, want) {
		t.Errorf("Links: %v, not %v", l, want)
	}
	for _, addr := range farOff() {
		p.links(addr)
	}
}

// All of them together

func some[T any](r *rand.Rand, l []T) T { return l[r.Intn(len(l))] }

// walkLinks are links that may be, and some that may not.
func walkLinks() []api.Link {
	return []api.Link{{}, {Kind: 1}, link(0, 1), link(4095, 255), link(17, 3), link(0, 0), link(4096, 1), {Kind: 3}, {Kind: 1, Token: api.Token{Gen: 1}}}
}

// turn is a call at places that there are, mostly; chunks come and go meanwhile, too.
func (p *pair) turn(r *rand.Rand) {
	p.t.Helper()
	addr, place := r.Intn(len(p.s.words)+4)-2, r.Intn(9)-1
	switch r.Intn(12) {
	case 0, 1:
		p.make(addr, some(r, append(fewHeaders(), hdr(7, 0, 0), hdr(1, 1, 0), hdr(6, 0, 0), hdr(0, 0, 0))))
	case 2, 3:
		p.move(addr, r.Intn(len(p.s.words)+4)-2)
	case 4, 5:
		p.save(addr, place, some(r, []uint64{0, 1, r.Uint64(), headerWord(some(r, fewHeaders())), linkWord(link(3, 4))}))
	case 6, 7:
		p.tie(addr, place, some(r, walkLinks()))
	case 8, 9:
		p.asks(addr)
	case 10:
		p.put(addr, some(r, []uint64{0, 1, headerWord(some(r, fewHeaders())), linkWord(link(9, 9)), r.Uint64()}))
	case 11:
		p.comeAndGo(r)
	}
}

func (p *pair) comeAndGo(r *rand.Rand) {
	p.t.Helper()
	c := r.Intn(len(p.s.free))
	if r.Intn(3) == 0 {
		if e := p.store.Release(c); (e == api.OK) == p.s.free[c] {
			p.t.Fatalf("Release(%d): %v", c, e)
		}
		p.s.free[c] = true
		return
	}
	if c, e := p.store.Take(1); e == api.OK {
		p.s.free[c] = false
		clear(p.s.words[c*p.s.chunk : (c+1)*p.s.chunk])
	}
}

// A long walk on a few words, so that objects lie over each other, and each call meets what others left.
func TestWalk(t *testing.T) {
	r := rand.New(rand.NewSource(1))
	for _, form := range []struct{ chunks, words int }{{1, 9}, {4, 5}, {20, 1}, {3, 11}} {
		p := newPair(t, form.chunks, form.words, few()...)
		for range 20000 {
			p.turn(r)
			p.isLike()
		}
	}
}

// What is told doesn't hang on who asks, nor on how often.
func TestAsksChangeNothing(t *testing.T) {
	p := newPair(t, 2, 8, few()...)
	p.takeAll(all)
	for _, h := range fewHeaders() {
		p.make(1, h)
		for range 3 {
			p.asks(1)
			p.asks(0)
			p.isLike()
		}
	}
}
