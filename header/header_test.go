package header

import (
	"math"
	"testing"

	"turnrow/api"
)

// The slow ones: each goes by the chapter's numbers, written out, and by sums and divisions, so that it shares nothing with what is tested.

func slowHeaderMayBe(h api.Header) bool {
	return h.Layout >= 1 && h.Layout <= 64 && h.Count >= 0 && h.Count <= 1024 && h.Slot >= 0 && h.Slot <= 4095
}

func slowEncode(h api.Header) (uint64, api.Errno) {
	if !slowHeaderMayBe(h) {
		return 0, api.ErrRange
	}
	const base = 0xA5 * 72057594037927936 // 2 to the 56th
	return base + 4294967296*uint64(h.Layout) + 65536*uint64(h.Count) + uint64(h.Slot), api.OK
}

// slowDecode takes the word's bytes off one by one, from the last bits on.
func slowDecode(w uint64) (api.Header, api.Errno) {
	var b [8]int
	for i := range b {
		b[i] = int(w % 256)
		w /= 256
	}
	h := api.Header{Layout: b[4], Count: b[2] + 256*b[3], Slot: b[0] + 256*b[1]}
	if b[7] != 165 || b[6] != 0 || b[5] != 0 || !slowHeaderMayBe(h) {
		return api.Header{}, api.ErrForm
	}
	return h, api.OK
}

func slowWord(l api.Link) (uint64, api.Errno) {
	t := l.Token
	switch {
	case l.Kind == 0 && t.Index == 0 && t.Gen == 0:
		return 0, api.OK
	case l.Kind == 1 && t.Index == 0 && t.Gen == 0:
		return 1, api.OK
	case l.Kind == 2 && t.Index >= 0 && t.Index <= 4095 && t.Gen >= 1 && t.Gen <= 255:
		return 4294967296*uint64(t.Gen) + uint64(t.Index) + 2, api.OK
	}
	return 0, api.ErrRange
}

func slowLink(w uint64) (api.Link, api.Errno) {
	if w <= 1 {
		return api.Link{Kind: int(w)}, api.OK
	}
	low, high := w%4294967296, w/4294967296
	if low < 2 || low > 4097 || high < 1 || high > 255 {
		return api.Link{}, api.ErrForm
	}
	return api.Link{Kind: 2, Token: api.Token{Index: int(low) - 2, Gen: int(high)}}, api.OK
}

// The four calls, each held against the slow one.

func encodes(t *testing.T, h api.Header) {
	t.Helper()
	want, wantErr := slowEncode(h)
	if w, e := Encode(h); w != want || e != wantErr {
		t.Fatalf("Encode(%+v): %X, %v, not %X, %v", h, w, e, want, wantErr)
	}
}

func decodes(t *testing.T, w uint64) {
	t.Helper()
	want, wantErr := slowDecode(w)
	if h, e := Decode(w); h != want || e != wantErr {
		t.Fatalf("Decode(%X): %+v, %v, not %+v, %v", w, h, e, want, wantErr)
	}
}

func words(t *testing.T, l api.Link) {
	t.Helper()
	want, wantErr := slowWord(l)
	if w, e := Word(l); w != want || e != wantErr {
		t.Fatalf("Word(%+v): %X, %v, not %X, %v", l, w, e, want, wantErr)
	}
}

func links(t *testing.T, w uint64) {
	t.Helper()
	want, wantErr := slowLink(w)
	if l, e := Link(w); l != want || e != wantErr {
		t.Fatalf("Link(%X): %+v, %v, not %+v, %v", w, l, e, want, wantErr)
	}
}

// What is handed in.

// edges are numbers at all limits, at the widths of the fields, and such as are a right one if bits are cut off or a sum wraps round.
func edges() []int {
	l := []int{math.MinInt, math.MinInt + 1, math.MinInt + 2, math.MaxInt, math.MaxInt - 1, math.MaxInt - 2, math.MinInt32, math.MaxInt32}
	for _, n := range []int{0, 64, 255, 256, 1024, 4095, 4096, 1 << 15, 1 << 16, 1 << 24, 1 << 31, 1 << 32, 1 << 40, 1 << 48, 1 << 56, 1 << 62} {
		for d := -3; d <= 3; d++ {
			l = append(l, n+d, -n+d)
		}
	}
	return l
}

// rightHeaders are headers at all edges, and along each side.
func rightHeaders() []api.Header {
	var l []api.Header
	for _, layout := range []int{1, 2, 31, 32, 63, 64} {
		for _, count := range []int{0, 1, 2, 255, 256, 257, 1023, 1024} {
			for _, slot := range []int{0, 1, 2, 255, 256, 257, 4094, 4095} {
				l = append(l, api.Header{Layout: layout, Count: count, Slot: slot})
			}
		}
	}
	for n := range 4096 {
		l = append(l, api.Header{Layout: 2, Count: 3, Slot: n})
		if n <= 1024 {
			l = append(l, api.Header{Layout: 7, Count: n, Slot: 9})
		}
		if n >= 1 && n <= 64 {
			l = append(l, api.Header{Layout: n, Count: 1000, Slot: 4000})
		}
	}
	return l
}

// rightLinks are all of them.
func rightLinks() []api.Link {
	l := []api.Link{{Kind: 0}, {Kind: 1}}
	for gen := 1; gen <= 255; gen++ {
		for index := range 4096 {
			l = append(l, tokenLink(index, gen))
		}
	}
	return l
}

func tokenLink(index, gen int) api.Link {
	return api.Link{Kind: 2, Token: api.Token{Index: index, Gen: gen}}
}

// mixed are words of all kinds, the same ones each time.
func mixed(n int) []uint64 {
	l := make([]uint64, n)
	x := uint64(88172645463325252)
	for i := range l {
		x ^= x << 13
		x ^= x >> 7
		x ^= x << 17
		l[i] = x
	}
	return l
}

// P5.1

func TestHeaderByHand(t *testing.T) {
	for _, c := range []struct {
		h api.Header
		w uint64
	}{
		{api.Header{Layout: 2, Count: 3, Slot: 4}, 0xA500000200030004}, // the chapter's example
		{api.Header{Layout: 1}, 0xA500000100000000},
		{api.Header{Layout: 64, Count: 1024, Slot: 4095}, 0xA500004004000FFF},
		{api.Header{Layout: 1, Slot: 4095}, 0xA500000100000FFF},
		{api.Header{Layout: 1, Count: 1024}, 0xA500000104000000},
		{api.Header{Layout: 64}, 0xA500004000000000},
	} {
		if w, e := Encode(c.h); w != c.w || e != api.OK {
			t.Errorf("Encode(%+v): %X, %v", c.h, w, e)
		}
		if h, e := Decode(c.w); h != c.h || e != api.OK {
			t.Errorf("Decode(%X): %+v, %v", c.w, h, e)
		}
	}
}

func TestHeadersThatMayNotBe(t *testing.T) {
	for _, h := range []api.Header{
		{}, {Count: 3, Slot: 4}, {Layout: -1}, {Layout: 65}, {Layout: 256}, {Layout: 257}, {Layout: -255},
		{Layout: 1, Count: -1}, {Layout: 1, Count: 1025}, {Layout: 1, Count: 65536}, {Layout: 1, Count: 65539}, {Layout: 1, Count: -65536},
		{Layout: 1, Slot: -1}, {Layout: 1, Slot: 4096}, {Layout: 1, Slot: 65536}, {Layout: 1, Slot: 65540}, {Layout: 1, Slot: -65536},
		{Layout: math.MinInt, Count: math.MinInt, Slot: math.MinInt}, {Layout: math.MaxInt, Count: math.MaxInt, Slot: math.MaxInt},
	} {
		if w, e := Encode(h); w != 0 || e != api.ErrRange {
			t.Errorf("Encode(%+v): %X, %v", h, w, e)
		}
	}
}

func TestEncodeAtAllEdges(t *testing.T) {
	for _, a := range edges() {
		encodes(t, api.Header{Layout: a, Count: 3, Slot: 4})
		encodes(t, api.Header{Layout: 2, Count: a, Slot: 4})
		encodes(t, api.Header{Layout: 2, Count: 3, Slot: a})
		for _, b := range edges() {
			encodes(t, api.Header{Layout: a, Count: b, Slot: 4})
			encodes(t, api.Header{Layout: a, Count: 3, Slot: b})
			encodes(t, api.Header{Layout: 2, Count: a, Slot: b})
			encodes(t, api.Header{Layout: a, Count: b, Slot: a})
		}
	}
}

// All numbers that a field has room for, and some more, one field at a time.
func TestEncodeAlongEachSide(t *testing.T) {
	for n := -70000; n <= 70000; n++ {
		encodes(t, api.Header{Layout: n, Count: 1024, Slot: 4095})
		encodes(t, api.Header{Layout: 64, Count: n, Slot: 4095})
		encodes(t, api.Header{Layout: 64, Count: 1024, Slot: n})
	}
}

// All words of the mark and one field, whether that field's number may be or not.
func TestDecodeAlongEachField(t *testing.T) {
	for n := range uint64(65536) {
		decodes(t, 0xA500000200030000+n)
		decodes(t, 0xA500000200000004+n<<16)
		decodes(t, 0xA500000000030004+n<<32) // the layout, and the first bits that must be 0
		decodes(t, 0xA500000200030004+n<<40)
		decodes(t, 0x0000000200030004+n<<48)
	}
}

// A word of which one bit, or two, are turned round.
func TestDecodeWithTurnedBits(t *testing.T) {
	for _, w := range []uint64{0, math.MaxUint64, 0xA500000200030004, 0xA500000100000000, 0xA500004004000FFF, 0xA500000000000000} {
		decodes(t, w)
		for a := range 64 {
			decodes(t, w^1<<a)
			for b := range a {
				decodes(t, w^1<<a^1<<b)
			}
		}
	}
}

// A bit of those between the layout and the mark is on; then words with another mark, or none.
func TestDecodeWithABitThatMustBeOff(t *testing.T) {
	for bit := 40; bit <= 55; bit++ {
		if h, e := Decode(0xA500000200030004 + 1<<bit); h != (api.Header{}) || e != api.ErrForm {
			t.Errorf("bit %d: %+v, %v", bit, h, e)
		}
	}
	for _, w := range []uint64{0, 1, 0x0000000200030004, 0xA400000200030004, 0x5A00000200030004, 0xFF00000200030004, 0x100000009, math.MaxUint64, 1 << 63} {
		if h, e := Decode(w); h != (api.Header{}) || e != api.ErrForm {
			t.Errorf("Decode(%X): %+v, %v", w, h, e)
		}
	}
}

func TestDecodeOfMixedWords(t *testing.T) {
	for _, x := range mixed(100000) {
		decodes(t, x)
		decodes(t, 0xA500000000000000+x>>8)
		decodes(t, 0xA500000000000000+x>>24)           // with 0 above the layout
		decodes(t, 0xA500000000000000+x&0x7F07FF1FFF)  // most of these may be
		decodes(t, 0xA500000000000000+x&0x1007F07FFFF) // some of these may be
	}
}

// P5.2

func TestLinkByHand(t *testing.T) {
	for _, c := range []struct {
		l api.Link
		w uint64
	}{
		{tokenLink(7, 1), 0x100000009}, // the chapter's example
		{api.Link{}, 0},
		{api.Link{Kind: 1}, 1},
		{tokenLink(0, 1), 0x100000002},
		{tokenLink(4095, 1), 0x100001001},
		{tokenLink(0, 255), 0xFF00000002},
		{tokenLink(4095, 255), 0xFF00001001},
	} {
		if w, e := Word(c.l); w != c.w || e != api.OK {
			t.Errorf("Word(%+v): %X, %v", c.l, w, e)
		}
		if l, e := Link(c.w); l != c.l || e != api.OK {
			t.Errorf("Link(%X): %+v, %v", c.w, l, e)
		}
	}
	if api.NullRef != 0 || api.TombRef != 1 {
		t.Error("NullRef and TombRef aren't 0 and 1")
	}
}

func TestLinksThatMayNotBe(t *testing.T) {
	for _, l := range []api.Link{
		{Kind: -1}, {Kind: 3}, {Kind: 4}, {Kind: 258}, {Kind: 1 << 32}, {Kind: 1<<32 + 1}, {Kind: math.MinInt}, {Kind: math.MaxInt},
		{Kind: 3, Token: api.Token{Index: 7, Gen: 1}}, {Kind: -1, Token: api.Token{Index: 7, Gen: 1}},
		{Kind: 0, Token: api.Token{Gen: 1}}, {Kind: 0, Token: api.Token{Index: 1}}, {Kind: 0, Token: api.Token{Index: 7, Gen: 1}}, {Kind: 0, Token: api.Token{Index: -2}},
		{Kind: 1, Token: api.Token{Gen: 1}}, {Kind: 1, Token: api.Token{Index: 1}}, {Kind: 1, Token: api.Token{Index: 7, Gen: 1}}, {Kind: 1, Token: api.Token{Index: -1}},
		tokenLink(0, 0), tokenLink(7, 0), tokenLink(7, -1), tokenLink(7, 256), tokenLink(7, 1<<32+1),
		tokenLink(-1, 1), tokenLink(-2, 1), tokenLink(-3, 1), tokenLink(4096, 1), tokenLink(4097, 1), tokenLink(1<<32, 1), tokenLink(1<<32+7, 1),
		tokenLink(-2, 0), tokenLink(-1, 0), // these would have the words of nothing, and of a grave
		tokenLink(math.MaxInt, 1), tokenLink(math.MaxInt-1, 1), tokenLink(math.MinInt, 1), tokenLink(7, math.MaxInt), tokenLink(7, math.MinInt),
	} {
		if w, e := Word(l); w != 0 || e != api.ErrRange {
			t.Errorf("Word(%+v): %X, %v", l, w, e)
		}
	}
}

func TestWordAtAllEdges(t *testing.T) {
	for _, a := range edges() {
		for kind := -1; kind <= 3; kind++ {
			words(t, api.Link{Kind: kind, Token: api.Token{Index: a}})
			words(t, api.Link{Kind: kind, Token: api.Token{Gen: a}})
		}
		words(t, api.Link{Kind: a})
		words(t, api.Link{Kind: a, Token: api.Token{Index: 7, Gen: 1}})
		for _, b := range edges() {
			for kind := range 3 {
				words(t, api.Link{Kind: kind, Token: api.Token{Index: a, Gen: b}})
			}
		}
	}
}

// All words of an Index and a Gen up to behind their limits, also of the two Indexes that are none.
func TestLinkOfAllSmallWords(t *testing.T) {
	for gen := range uint64(260) {
		for low := range uint64(4101) {
			links(t, gen<<32+low)
		}
	}
}

func TestLinkWithTurnedBits(t *testing.T) {
	for _, w := range []uint64{0, 1, 2, math.MaxUint64, 0x100000009, 0x100000002, 0xFF00001001, 0xA500000200030004} {
		links(t, w)
		for a := range 64 {
			links(t, w^1<<a)
			for b := range a {
				links(t, w^1<<a^1<<b)
			}
		}
	}
}

func TestLinkOfWordsThatAreNone(t *testing.T) {
	for _, w := range []uint64{2, 3, 9, 4097, math.MaxUint32, 1 << 32, 1<<32 + 1, 255 << 32, 255<<32 + 1, 1<<32 + 4098, 256<<32 + 2, 1<<63 + 1<<32 + 9, 1<<40 + 1<<32 + 9, 1<<32 + 1<<31 + 9, 1<<32 + 1<<16 + 9, 1<<32 + math.MaxUint32, math.MaxUint64, 1 << 63} {
		if l, e := Link(w); l != (api.Link{}) || e != api.ErrForm {
			t.Errorf("Link(%X): %+v, %v", w, l, e)
		}
	}
}

func TestLinkOfMixedWords(t *testing.T) {
	for _, x := range mixed(100000) {
		links(t, x)
		links(t, x>>24)
		links(t, x&0xFF00001FFF)
		links(t, x&0x1FF00001FFF)
	}
}

// P5.3

func TestHeadersAreToldByTheirWords(t *testing.T) {
	of := map[uint64]api.Header{}
	for _, h := range rightHeaders() {
		w, e := Encode(h)
		if e != api.OK {
			t.Fatalf("Encode(%+v): %v", h, e)
		}
		if other, ok := of[w]; ok && other != h {
			t.Fatalf("%+v and %+v have the word %X", h, other, w)
		}
		of[w] = h
	}
	for w, h := range of {
		if told, e := Decode(w); told != h || e != api.OK {
			t.Fatalf("Decode(%X): %+v, %v, not %+v", w, told, e, h)
		}
		encodes(t, h)
	}
}

// Every seventh pair of a Count and a Slot, with all Layouts in turn.
func TestManyHeadersAreToldByTheirWords(t *testing.T) {
	for count := range 1025 {
		for slot := count % 7; slot < 4096; slot += 7 {
			h := api.Header{Layout: 1 + (count+slot)%64, Count: count, Slot: slot}
			w, e := Encode(h)
			if told, e2 := Decode(w); told != h || e != api.OK || e2 != api.OK {
				t.Fatalf("%+v has the word %X, %v, which tells %+v, %v", h, w, e, told, e2)
			}
		}
	}
}

func TestLinksAreToldByTheirWords(t *testing.T) {
	seen := map[uint64]bool{}
	for _, l := range rightLinks() {
		w, e := Word(l)
		if e != api.OK || seen[w] {
			t.Fatalf("Word(%+v): %X, %v, another one's: %v", l, w, e, seen[w])
		}
		seen[w] = true
		if told, e := Link(w); told != l || e != api.OK {
			t.Fatalf("Link(%X): %+v, %v, not %+v", w, told, e, l)
		}
	}
	if len(seen) != 2+255*4096 {
		t.Error(len(seen), "words")
	}
}

// A word that tells something is the word of just that.
func TestWordsAreThoseOfWhatTheyTell(t *testing.T) {
	headers, tokens := 0, 0
	for _, x := range mixed(200000) {
		w := 0xA500000000000000 + x&0x7F07FF1FFF
		if h, e := Decode(w); e == api.OK {
			headers++
			if back, e := Encode(h); back != w || e != api.OK {
				t.Fatalf("%X tells %+v, which has %X, %v", w, h, back, e)
			}
		}
		w = x & 0xFF00001FFF
		if l, e := Link(w); e == api.OK {
			tokens++
			if back, e := Word(l); back != w || e != api.OK {
				t.Fatalf("%X tells %+v, which has %X, %v", w, l, back, e)
			}
		}
	}
	if headers < 1000 || tokens < 1000 {
		t.Error("too few of them tell anything:", headers, tokens)
	}
}

// No header's word is a link's.
func TestHeadersAreNoLinks(t *testing.T) {
	for _, h := range rightHeaders() {
		w, _ := Encode(h)
		if l, e := Link(w); l != (api.Link{}) || e != api.ErrForm {
			t.Fatalf("Link(%X) of %+v: %+v, %v", w, h, l, e)
		}
	}
}

// Rule 7: an answer hangs on nothing that was asked ahead of it.
func TestAnswersHangOnArgumentsAlone(t *testing.T) {
	for range 3 {
		encodes(t, api.Header{Layout: 2, Count: 3, Slot: 4})
		encodes(t, api.Header{Layout: 65, Count: 3, Slot: 4})
		decodes(t, 0xA500004004000FFF)
		decodes(t, 0)
		words(t, tokenLink(7, 1))
		words(t, tokenLink(7, 0))
		links(t, 0xFF00001001)
		links(t, 2)
		links(t, 1)
	}
}
