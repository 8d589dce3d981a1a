package table

import (
	"fmt"
	"iter"
	"math"
	"math/rand"
	"slices"
	"testing"

	"turnrow/api"
)

// slow is a table as a list of all that was ever added, one behind the other: each question goes through the whole of it, so that it shares nothing with what is tested.
type slow struct {
	slots int
	told  []slowEntry
}

type slowEntry struct {
	token   api.Token
	entry   api.Entry
	dropped bool
}

// times is how often a slot was used; busy tells whether it is now.
func (s *slow) times(index int) (n int, busy bool) {
	for _, x := range s.told {
		if x.token.Index == index {
			n++
			busy = !x.dropped
		}
	}
	return n, busy
}

func (s *slow) add(e api.Entry) (api.Token, api.Errno) {
	for i := range s.slots {
		if n, busy := s.times(i); !busy && n < 255 {
			x := tok(i, n+1)
			s.told = append(s.told, slowEntry{token: x, entry: e})
			return x, api.OK
		}
	}
	return api.Token{}, api.ErrHandles
}

// find is the one with that token, if it isn't stale.
func (s *slow) find(x api.Token) *slowEntry {
	for i := range s.told {
		if s.told[i].token == x && !s.told[i].dropped {
			return &s.told[i]
		}
	}
	return nil
}

func (s *slow) get(x api.Token) (api.Entry, api.Errno) {
	if y := s.find(x); y != nil {
		return y.entry, api.OK
	}
	return api.Entry{}, api.ErrStale
}

func (s *slow) set(x api.Token, e api.Entry) api.Errno {
	y := s.find(x)
	if y == nil {
		return api.ErrStale
	}
	y.entry = e
	return api.OK
}

func (s *slow) drop(x api.Token) api.Errno {
	y := s.find(x)
	if y == nil {
		return api.ErrStale
	}
	y.dropped = true
	return api.OK
}

func (s *slow) counts() (used, left, retired int) {
	for i := range s.slots {
		switch n, busy := s.times(i); {
		case busy:
			used++
		case n < 255:
			left++
		default:
			retired++
		}
	}
	return used, left, retired
}

// pair is a token with its entry, as All tells them.
type pair struct {
	token api.Token
	entry api.Entry
}

func (s *slow) all() []pair {
	var l []pair
	for i := range s.slots {
		for _, x := range s.told {
			if x.token.Index == i && !x.dropped {
				l = append(l, pair{x.token, x.entry})
			}
		}
	}
	return l
}

func tok(index, gen int) api.Token { return api.Token{Index: index, Gen: gen} }

func pairs(all iter.Seq2[api.Token, api.Entry]) []pair {
	var l []pair
	for x, e := range all {
		l = append(l, pair{x, e})
	}
	return l
}

func newTable(t *testing.T, slots int) *Table {
	t.Helper()
	b, e := New(slots)
	if b == nil || e != api.OK {
		t.Fatalf("New(%d): %v, %v", slots, b, e)
	}
	return b
}

func is(t *testing.T, what string, got, want api.Errno) {
	t.Helper()
	if got != want {
		t.Fatalf("%s: %v, not %v", what, got, want)
	}
}

// adds adds an entry of which it is known what its token must be.
func adds(t *testing.T, b *Table, e api.Entry, want api.Token) {
	t.Helper()
	if x, err := b.Add(e); x != want || err != api.OK {
		t.Fatalf("Add(%+v): %+v, %v, not %+v", e, x, err, want)
	}
}

func gets(t *testing.T, b *Table, x api.Token, want api.Entry, wantErr api.Errno) {
	t.Helper()
	if e, err := b.Get(x); e != want || err != wantErr {
		t.Fatalf("Get(%+v): %+v, %v, not %+v, %v", x, e, err, want, wantErr)
	}
}

func counts(t *testing.T, b *Table, used, left, retired int) {
	t.Helper()
	if b.Used() != used || b.Left() != left || b.Retired() != retired {
		t.Fatalf("%d used, %d left, %d retired, not %d, %d, %d", b.Used(), b.Left(), b.Retired(), used, left, retired)
	}
}

// isLike holds all that b tells against s.
func isLike(t *testing.T, b *Table, s *slow) {
	t.Helper()
	used, left, retired := s.counts()
	counts(t, b, used, left, retired)
	all := s.all()
	if l := pairs(b.All()); !slices.Equal(l, all) {
		t.Fatalf("All is %v, not %v", l, all)
	}
	for i := -2; i < s.slots+66; i++ {
		at := slices.IndexFunc(all, func(p pair) bool { return p.token.Index == i })
		want, wantOK := api.Token{}, at >= 0
		if wantOK {
			want = all[at].token
		}
		if x, ok := b.At(i); x != want || ok != wantOK {
			t.Fatalf("At(%d): %+v, %v, not %+v, %v", i, x, ok, want, wantOK)
		}
	}
	for _, x := range s.told {
		e, err := s.get(x.token)
		gets(t, b, x.token, e, err)
	}
}

// grown is a table, and its slow one, of which slot i was used ages[i] times (at least once), and is free, or retired, now.
func grown(t *testing.T, ages ...int) (*Table, *slow) {
	t.Helper()
	b, s := newTable(t, len(ages)), &slow{slots: len(ages)}
	for range len(ages) {
		adds(t, b, api.Entry{}, tok(b.Used(), 1))
	}
	for i, age := range ages {
		for g := 1; g <= age; g++ {
			s.told = append(s.told, slowEntry{token: tok(i, g), dropped: true})
		}
		// All others are used meanwhile: so it is the one that is free each time.
		for g := 1; g < age; g++ {
			is(t, "Drop", b.Drop(tok(i, g)), api.OK)
			adds(t, b, api.Entry{}, tok(i, g+1))
		}
	}
	for i, age := range ages {
		is(t, "Drop", b.Drop(tok(i, age)), api.OK)
	}
	return b, s
}

// entryOf is another one for each n.
func entryOf(n int) api.Entry {
	return api.Entry{Addr: n * 7, Region: n%5 - 1, Held: n%2 == 0, Pinned: n%3 == 0}
}

// edges are ints about all limits, and such as are a right one if bits are cut off.
func edges() []int {
	l := []int{math.MinInt, math.MinInt + 1, math.MaxInt, math.MaxInt - 1}
	for _, n := range []int{0, 3, 63, 64, 255, 256, 4096, 1 << 16, 1 << 31, 1 << 32, 1 << 62} {
		for d := -1; d <= 1; d++ {
			l = append(l, n+d, -n+d)
		}
	}
	return l
}

// P7.1

func TestNew(t *testing.T) {
	for _, n := range []int{1, 2, 3, 63, 64, 65, 127, 128, 129, 1000} {
		isLike(t, newTable(t, n), &slow{slots: n})
	}
	for _, n := range []int{4095, 4096} {
		b := newTable(t, n)
		counts(t, b, 0, n, 0)
		if l := pairs(b.All()); len(l) != 0 {
			t.Errorf("All of a new one of %d: %v", n, l)
		}
	}
}

func TestNewWrong(t *testing.T) {
	for _, n := range edges() {
		if n >= 1 && n <= 4096 {
			continue
		}
		if b, e := New(n); b != nil || e != api.ErrRange {
			t.Errorf("New(%d): %v, %v", n, b, e)
		}
	}
}

func TestFullOfTheMost(t *testing.T) {
	b := newTable(t, 4096)
	for i := range 4096 {
		counts(t, b, i, 4096-i, 0)
		adds(t, b, entryOf(i), tok(i, 1))
	}
	counts(t, b, 4096, 0, 0)
	if x, e := b.Add(api.Entry{}); x != (api.Token{}) || e != api.ErrHandles {
		t.Fatalf("Add to a full one: %+v, %v", x, e)
	}
	n := 0
	for x, e := range b.All() {
		if x != tok(n, 1) || e != entryOf(n) {
			t.Fatalf("All tells %+v, %+v as number %d", x, e, n)
		}
		gets(t, b, x, e, api.OK)
		n++
	}
	if n != 4096 {
		t.Errorf("All tells %d", n)
	}
	is(t, "Drop", b.Drop(tok(4095, 1)), api.OK)
	is(t, "Drop", b.Drop(tok(64, 1)), api.OK)
	adds(t, b, api.Entry{}, tok(64, 2))
	adds(t, b, api.Entry{}, tok(4095, 2))
}

func TestAt(t *testing.T) {
	b := newTable(t, 3)
	for i := range 3 {
		adds(t, b, api.Entry{}, tok(i, 1))
	}
	for _, i := range edges() {
		want, wantOK := api.Token{}, i >= 0 && i < 3
		if wantOK {
			want = tok(i, 1)
		}
		if x, ok := b.At(i); x != want || ok != wantOK {
			t.Errorf("At(%d): %+v, %v", i, x, ok)
		}
	}
	is(t, "Drop", b.Drop(tok(1, 1)), api.OK)
	if x, ok := b.At(1); x != (api.Token{}) || ok {
		t.Errorf("At of a free one: %+v, %v", x, ok)
	}
	adds(t, b, api.Entry{}, tok(1, 2))
	if x, ok := b.At(1); x != tok(1, 2) || !ok {
		t.Errorf("At of one that is used again: %+v, %v", x, ok)
	}
}

func TestAllOfEachSmallTable(t *testing.T) {
	const n = 7
	for used := range 1 << n {
		b, s := newTable(t, n), &slow{slots: n}
		for i := range n {
			adds(t, b, entryOf(i), tok(i, 1))
			s.add(entryOf(i))
		}
		for i := range n {
			if used>>i&1 == 0 {
				is(t, "Drop", b.Drop(tok(i, 1)), s.drop(tok(i, 1)))
			}
		}
		isLike(t, b, s)
	}
}

func TestAllMayBeLeft(t *testing.T) {
	b := newTable(t, 130)
	for i := range 130 {
		adds(t, b, entryOf(i), tok(i, 1))
	}
	for stop := range 130 {
		told := 0
		b.All()(func(x api.Token, e api.Entry) bool {
			if x != tok(told, 1) || e != entryOf(told) {
				t.Fatalf("All tells %+v, %+v as number %d", x, e, told)
			}
			told++
			return x.Index != stop
		})
		if told != stop+1 {
			t.Fatalf("left at %d, %d were told", stop, told)
		}
	}
	counts(t, b, 130, 0, 0)
}

func TestAllIsWalkedOften(t *testing.T) {
	b := newTable(t, 5)
	for i := range 4 {
		adds(t, b, entryOf(i), tok(i, 1))
	}
	is(t, "Drop", b.Drop(tok(1, 1)), api.OK)
	want := []pair{{tok(0, 1), entryOf(0)}, {tok(2, 1), entryOf(2)}, {tok(3, 1), entryOf(3)}}
	all := b.All()
	for range 2 {
		if l := pairs(all); !slices.Equal(l, want) {
			t.Fatalf("All: %v", l)
		}
	}
	n := 0
	for range all { // one walk within the other
		if l := pairs(all); !slices.Equal(l, want) {
			t.Fatalf("All within All: %v", l)
		}
		n++
	}
	if n != 3 {
		t.Errorf("%d were told", n)
	}
}

// P7.2

func TestExample(t *testing.T) {
	b := newTable(t, 2)
	adds(t, b, api.Entry{Addr: 5}, tok(0, 1))
	adds(t, b, api.Entry{Addr: 6}, tok(1, 1))
	is(t, "Drop", b.Drop(tok(0, 1)), api.OK)
	adds(t, b, api.Entry{Addr: 7}, tok(0, 2))
	gets(t, b, tok(0, 1), api.Entry{}, api.ErrStale)
	gets(t, b, tok(0, 2), api.Entry{Addr: 7}, api.OK)
	gets(t, b, tok(1, 1), api.Entry{Addr: 6}, api.OK)
}

func TestAddTakesTheLeast(t *testing.T) {
	b := newTable(t, 200)
	for i := range 200 {
		adds(t, b, api.Entry{}, tok(i, 1))
	}
	for _, i := range []int{150, 3, 64, 199, 0, 63, 65} {
		is(t, "Drop", b.Drop(tok(i, 1)), api.OK)
	}
	counts(t, b, 193, 7, 0)
	for _, i := range []int{0, 3, 63, 64, 65, 150, 199} {
		adds(t, b, api.Entry{}, tok(i, 2))
	}
	// One that was used more often isn't passed over for one that was used less often.
	is(t, "Drop", b.Drop(tok(3, 2)), api.OK)
	is(t, "Drop", b.Drop(tok(4, 1)), api.OK)
	adds(t, b, api.Entry{}, tok(3, 3))
	adds(t, b, api.Entry{}, tok(4, 2))
	counts(t, b, 200, 0, 0)
}

func TestEntriesMayBeAny(t *testing.T) {
	for _, addr := range edges() {
		for _, e := range []api.Entry{
			{Addr: addr}, {Region: addr}, {Addr: addr, Region: -addr, Held: true}, {Addr: -addr, Region: addr, Pinned: true}, {Addr: addr, Held: true, Pinned: true},
		} {
			b := newTable(t, 2)
			adds(t, b, e, tok(0, 1))
			gets(t, b, tok(0, 1), e, api.OK)
			adds(t, b, api.Entry{}, tok(1, 1))
			gets(t, b, tok(1, 1), api.Entry{}, api.OK)
			is(t, "Set", b.Set(tok(1, 1), e), api.OK)
			is(t, "Set", b.Set(tok(0, 1), api.Entry{}), api.OK)
			gets(t, b, tok(1, 1), e, api.OK)
			gets(t, b, tok(0, 1), api.Entry{}, api.OK)
			if l := pairs(b.All()); !slices.Equal(l, []pair{{tok(0, 1), api.Entry{}}, {tok(1, 1), e}}) {
				t.Fatalf("All: %v", l)
			}
		}
	}
}

func TestSetIsOfOneAlone(t *testing.T) {
	b, s := newTable(t, 70), &slow{slots: 70}
	for i := range 70 {
		adds(t, b, entryOf(i), tok(i, 1))
		s.add(entryOf(i))
	}
	for i := range 70 {
		is(t, "Set", b.Set(tok(i, 1), entryOf(i+100)), s.set(tok(i, 1), entryOf(i+100)))
		isLike(t, b, s)
	}
}

func TestDropIsOfOneAlone(t *testing.T) {
	for i := range 70 {
		b, s := newTable(t, 70), &slow{slots: 70}
		for k := range 70 {
			adds(t, b, entryOf(k), tok(k, 1))
			s.add(entryOf(k))
		}
		is(t, "Drop", b.Drop(tok(i, 1)), s.drop(tok(i, 1)))
		isLike(t, b, s)
	}
}

// Of all tokens about those of a table that has slots of all kinds, just those of the used ones aren't stale; a refused call changes nothing.
func TestStale(t *testing.T) {
	b, s := grown(t, 1, 3, 255, 2, 254)
	for i := range 2 { // slots 0 and 1; 2 is retired, 3 and 4 are free
		x, _ := s.add(entryOf(i))
		adds(t, b, entryOf(i), x)
	}
	fresh := []api.Token{tok(0, 2), tok(1, 4)}
	try := func(x api.Token) {
		t.Helper()
		if slices.Contains(fresh, x) {
			return
		}
		gets(t, b, x, api.Entry{}, api.ErrStale)
		is(t, fmt.Sprint("Set ", x), b.Set(x, api.Entry{Addr: 99}), api.ErrStale)
		is(t, fmt.Sprint("Drop ", x), b.Drop(x), api.ErrStale)
	}
	for i := -1; i <= 5; i++ {
		for g := -1; g <= 257; g++ {
			try(tok(i, g))
		}
	}
	for _, i := range edges() {
		for _, g := range edges() {
			try(tok(i, g))
		}
	}
	isLike(t, b, s)
	counts(t, b, 2, 2, 1)
}

// The zero token is what At tells of no slot: it is stale, too, where slot 0 isn't used.
func TestZeroTokenIsStale(t *testing.T) {
	for _, age := range []int{1, 254, 255} {
		b, s := grown(t, age, 1)
		gets(t, b, api.Token{}, api.Entry{}, api.ErrStale)
		is(t, "Set", b.Set(api.Token{}, entryOf(1)), api.ErrStale)
		is(t, "Drop", b.Drop(api.Token{}), api.ErrStale)
		isLike(t, b, s)
	}
	b := newTable(t, 1)
	gets(t, b, api.Token{}, api.Entry{}, api.ErrStale)
	gets(t, b, tok(0, 1), api.Entry{}, api.ErrStale) // its generation, but it is free yet
	is(t, "Drop", b.Drop(api.Token{}), api.ErrStale)
	is(t, "Drop", b.Drop(tok(0, 1)), api.ErrStale)
	counts(t, b, 0, 1, 0)
	adds(t, b, api.Entry{}, tok(0, 1))
}

func TestFreshBesideEachGeneration(t *testing.T) {
	b := newTable(t, 1)
	for g := 1; g <= 255; g++ {
		adds(t, b, entryOf(g), tok(0, g))
		for other := -1; other <= 512; other++ {
			if other != g {
				gets(t, b, tok(0, other), api.Entry{}, api.ErrStale)
				is(t, "Set", b.Set(tok(0, other), api.Entry{}), api.ErrStale)
				is(t, "Drop", b.Drop(tok(0, other)), api.ErrStale)
			}
		}
		gets(t, b, tok(0, g), entryOf(g), api.OK)
		counts(t, b, 1, 0, 0)
		is(t, "Drop", b.Drop(tok(0, g)), api.OK)
		is(t, "Drop", b.Drop(tok(0, g)), api.ErrStale)
	}
	counts(t, b, 0, 0, 1)
}

// The edge of MaxGen: behind the 254th drop a slot is free yet, behind the 255th it is retired.
func TestRetiring(t *testing.T) {
	b, s := grown(t, 254, 253)
	isLike(t, b, s)
	counts(t, b, 0, 2, 0)
	adds(t, b, entryOf(1), tok(0, 255))
	counts(t, b, 1, 1, 0)
	gets(t, b, tok(0, 255), entryOf(1), api.OK)
	is(t, "Set", b.Set(tok(0, 255), entryOf(2)), api.OK)
	gets(t, b, tok(0, 255), entryOf(2), api.OK)
	is(t, "Drop", b.Drop(tok(0, 255)), api.OK)
	counts(t, b, 0, 1, 1)
	if x, ok := b.At(0); x != (api.Token{}) || ok {
		t.Fatalf("At of a retired one: %+v, %v", x, ok)
	}
	if l := pairs(b.All()); len(l) != 0 {
		t.Fatalf("All tells a retired one: %v", l)
	}
	adds(t, b, api.Entry{}, tok(1, 254))
	is(t, "Drop", b.Drop(tok(1, 254)), api.OK)
	counts(t, b, 0, 1, 1)
	adds(t, b, api.Entry{}, tok(1, 255))
	counts(t, b, 1, 0, 1)
	is(t, "Drop", b.Drop(tok(1, 255)), api.OK)
	counts(t, b, 0, 0, 2)
	for range 300 {
		if x, e := b.Add(api.Entry{Addr: 1}); x != (api.Token{}) || e != api.ErrHandles {
			t.Fatalf("Add, all are retired: %+v, %v", x, e)
		}
		counts(t, b, 0, 0, 2)
	}
}

func TestAddPassesOverTheRetired(t *testing.T) {
	b, s := grown(t, 255, 255, 1, 255, 2)
	counts(t, b, 0, 2, 3)
	for range 4 {
		want, wantErr := s.add(entryOf(3))
		if x, e := b.Add(entryOf(3)); x != want || e != wantErr {
			t.Fatalf("Add: %+v, %v, not %+v, %v", x, e, want, wantErr)
		}
		isLike(t, b, s)
	}
	counts(t, b, 2, 0, 3)
}

func TestAddRefusedChangesNothing(t *testing.T) {
	b, s := newTable(t, 3), &slow{slots: 3}
	for i := range 3 {
		adds(t, b, entryOf(i), tok(i, 1))
		s.add(entryOf(i))
	}
	for range 3 {
		if x, e := b.Add(entryOf(77)); x != (api.Token{}) || e != api.ErrHandles {
			t.Fatalf("Add to a full one: %+v, %v", x, e)
		}
		isLike(t, b, s)
	}
	is(t, "Drop", b.Drop(tok(1, 1)), api.OK)
	adds(t, b, entryOf(5), tok(1, 2))
}

// P7.3

// All tokens of a table are told, one by one, in an order that goes all about: each just once, and stale for ever when it was dropped.
func TestNoTokenTwice(t *testing.T) {
	const slots = 6
	r := rand.New(rand.NewSource(1))
	b := newTable(t, slots)
	told := map[api.Token]bool{}
	var held []api.Token
	for b.Retired() < slots {
		if len(held) > 0 && (b.Left() == 0 || r.Intn(2) == 0) {
			i := r.Intn(len(held))
			is(t, "Drop", b.Drop(held[i]), api.OK)
			held = slices.Delete(held, i, i+1)
			continue
		}
		x, e := b.Add(entryOf(len(told)))
		if e != api.OK || told[x] {
			t.Fatalf("Add: %+v, %v; told already: %v", x, e, told[x])
		}
		told[x] = true
		held = append(held, x)
		for y := range told {
			if _, e := b.Get(y); (e == api.OK) != slices.Contains(held, y) {
				t.Fatalf("Get(%+v): %v", y, e)
			}
		}
	}
	if len(told) != slots*255 {
		t.Errorf("%d tokens were told", len(told))
	}
	for x := range told {
		if x.Index < 0 || x.Index >= slots || x.Gen < 1 || x.Gen > 255 {
			t.Errorf("%+v was told", x)
		}
		gets(t, b, x, api.Entry{}, api.ErrStale)
	}
	counts(t, b, 0, 0, slots)
}

// A long walk of calls of all kinds, right and wrong ones, held against the slow table behind each.
func TestWalk(t *testing.T) {
	for seed := range int64(40) {
		r := rand.New(rand.NewSource(seed))
		ages := make([]int, 1+r.Intn(5))
		for i := range ages {
			ages[i] = []int{1, 2, 252, 253, 254, 255}[r.Intn(6)]
		}
		b, s := grown(t, ages...)
		for range 60 {
			stepBoth(t, r, b, s)
			isLike(t, b, s)
		}
	}
}

// stepBoth does one call on both, and holds the answers against each other.
func stepBoth(t *testing.T, r *rand.Rand, b *Table, s *slow) {
	t.Helper()
	x := tok(r.Intn(s.slots+2)-1, r.Intn(258)-1)
	if all := s.all(); len(all) > 0 && r.Intn(4) > 0 {
		x = all[r.Intn(len(all))].token
	}
	e := entryOf(r.Intn(1000))
	switch r.Intn(5) {
	case 0:
		is(t, "Set", b.Set(x, e), s.set(x, e))
	case 1, 2:
		is(t, "Drop", b.Drop(x), s.drop(x))
	default:
		want, wantErr := s.add(e)
		if got, err := b.Add(e); got != want || err != wantErr {
			t.Fatalf("Add: %+v, %v, not %+v, %v", got, err, want, wantErr)
		}
	}
}

// The nil Table, and the rules that hold everywhere

func TestNil(t *testing.T) {
	var b *Table
	counts(t, b, 0, 0, 0)
	if x, e := b.Add(api.Entry{Addr: 1}); x != (api.Token{}) || e != api.ErrNil {
		t.Errorf("Add: %+v, %v", x, e)
	}
	for _, i := range edges() {
		if x, ok := b.At(i); x != (api.Token{}) || ok {
			t.Errorf("At(%d): %+v, %v", i, x, ok)
		}
		for _, g := range []int{math.MinInt, -1, 0, 1, 255, 256, math.MaxInt} {
			gets(t, b, tok(i, g), api.Entry{}, api.ErrNil)
			is(t, "Set", b.Set(tok(i, g), api.Entry{}), api.ErrNil)
			is(t, "Drop", b.Drop(tok(i, g)), api.ErrNil)
		}
	}
	for x := range b.All() {
		t.Error("All tells", x)
	}
}

func TestTablesAreApart(t *testing.T) {
	a, b := newTable(t, 3), newTable(t, 3)
	adds(t, a, entryOf(1), tok(0, 1))
	adds(t, a, entryOf(2), tok(1, 1))
	counts(t, b, 0, 3, 0)
	gets(t, b, tok(0, 1), api.Entry{}, api.ErrStale)
	adds(t, b, entryOf(3), tok(0, 1))
	is(t, "Drop", a.Drop(tok(0, 1)), api.OK)
	gets(t, b, tok(0, 1), entryOf(3), api.OK)
	is(t, "Set", b.Set(tok(0, 1), entryOf(4)), api.OK)
	adds(t, a, entryOf(5), tok(0, 2))
	gets(t, b, tok(0, 2), api.Entry{}, api.ErrStale)
	gets(t, a, tok(1, 1), entryOf(2), api.OK)
	counts(t, a, 2, 1, 0)
	counts(t, b, 1, 2, 0)
}

func TestQuestionsChangeNothing(t *testing.T) {
	b, s := grown(t, 1, 255, 3)
	x, _ := s.add(entryOf(1))
	adds(t, b, entryOf(1), x)
	for range 3 {
		for i := -1; i < 5; i++ {
			b.At(i)
			b.Get(tok(i, 2))
		}
		for range b.All() {
			break
		}
		isLike(t, b, s)
	}
}
