package token

import (
	"math"
	"slices"
	"strings"
	"testing"

	"turnrow/api"
)

func tok(index, gen int) api.Token { return api.Token{Index: index, Gen: gen} }

// The slow ones: each goes by the chapter's numbers, written out, and shares nothing with what is tested.

func slowRight(t api.Token) bool {
	return t.Index >= 0 && t.Index <= 4095 && t.Gen >= 1 && t.Gen <= 255
}

func slowAhead(a, b api.Token) bool {
	return a.Index < b.Index || a.Index == b.Index && a.Gen < b.Gen
}

func slowCompare(a, b api.Token) int {
	switch {
	case slowAhead(a, b):
		return -1
	case slowAhead(b, a):
		return 1
	}
	return 0
}

// slowNumber writes a number's digits from the last one on.
func slowNumber(n int) string {
	s := string(rune('0' + n%10))
	for n /= 10; n > 0; n /= 10 {
		s = string(rune('0'+n%10)) + s
	}
	return s
}

func slowText(t api.Token) string { return "#" + slowNumber(t.Index) + "." + slowNumber(t.Gen) }

// slowTokens are all texts of tokens that may be, each with its token.
func slowTokens() map[string]api.Token {
	all := map[string]api.Token{}
	for i := range 4096 {
		for g := 1; g <= 255; g++ {
			all[slowText(tok(i, g))] = tok(i, g)
		}
	}
	return all
}

// slowSort takes the first one of those that are left, again and again.
func slowSort(l []api.Token) ([]api.Token, api.Errno) {
	for _, t := range l {
		if !slowRight(t) {
			return nil, api.ErrRange
		}
	}
	if len(l) > 64 {
		return nil, api.ErrLong
	}
	var sorted []api.Token
	for {
		var next []api.Token
		for _, t := range l {
			behind := len(sorted) == 0 || slowAhead(sorted[len(sorted)-1], t)
			if behind && (len(next) == 0 || slowAhead(t, next[0])) {
				next = []api.Token{t}
			}
		}
		if len(next) == 0 {
			return sorted, api.OK
		}
		sorted = append(sorted, next[0])
	}
}

func sorts(t *testing.T, l []api.Token) {
	t.Helper()
	before := slices.Clone(l)
	want, wantErr := slowSort(l)
	got, e := Sort(l...)
	if e != wantErr || !slices.Equal(got, want) {
		t.Fatalf("Sort of %v: %v, %v, not %v, %v", before, got, e, want, wantErr)
	}
	if !slices.Equal(l, before) {
		t.Fatalf("Sort of %v left %v", before, l)
	}
}

// What is handed in.

// edges are numbers at all limits, and such as are a right one if bits are cut off or a difference wraps round.
func edges() []int {
	l := []int{math.MinInt, math.MinInt + 1, math.MaxInt, math.MaxInt - 1}
	for _, n := range []int{0, 9, 10, 99, 100, 255, 256, 999, 1000, 4095, 4096, 1 << 16, 1 << 31, 1 << 32, 1 << 62} {
		for d := -1; d <= 1; d++ {
			l = append(l, n+d, -n+d)
		}
	}
	return l
}

// some are tokens that may be, by a rule that goes all about: of so many Indexes, from seed on.
func some(n, indexes, seed int) []api.Token {
	var l []api.Token
	x := uint32(seed)*2654435761 + 12345
	for range n {
		x = x*1664525 + 1013904223
		l = append(l, tok(int(x>>8)%indexes, 1+int(x>>20)%255))
	}
	return l
}

// P6.1

func TestRight(t *testing.T) {
	for _, i := range edges() {
		for _, g := range edges() {
			if x := tok(i, g); Right(x) != slowRight(x) {
				t.Fatalf("Right(%+v): %v", x, Right(x))
			}
		}
	}
	for i := -1; i <= 4096; i++ {
		for g := -1; g <= 256; g++ {
			if x := tok(i, g); Right(x) != slowRight(x) {
				t.Fatalf("Right(%+v): %v", x, Right(x))
			}
		}
	}
}

func TestCompare(t *testing.T) {
	for _, c := range []struct {
		a, b api.Token
		want int
	}{
		{tok(1, 9), tok(2, 1), -1},
		{tok(2, 1), tok(1, 9), 1},
		{tok(2, 1), tok(2, 2), -1},
		{tok(2, 2), tok(2, 1), 1},
		{tok(2, 1), tok(2, 1), 0},
		{tok(9, 1), tok(10, 1), -1}, // as numbers, not as texts
		{tok(1, 9), tok(1, 10), -1},
		{tok(-1, 0), tok(0, 0), -1},
		{tok(math.MinInt, 5), tok(math.MaxInt, 5), -1},
		{tok(math.MaxInt, 5), tok(math.MinInt, 5), 1},
		{tok(5, math.MinInt), tok(5, math.MaxInt), -1},
		{tok(5, math.MaxInt), tok(5, math.MinInt), 1},
	} {
		if got := Compare(c.a, c.b); got != c.want {
			t.Errorf("Compare(%+v, %+v): %d, not %d", c.a, c.b, got, c.want)
		}
	}
}

func TestCompareEdges(t *testing.T) {
	var all []api.Token
	for _, i := range edges() {
		for _, g := range []int{math.MinInt, -1, 0, 1, 2, 255, 256, math.MaxInt} {
			all = append(all, tok(i, g))
		}
	}
	for _, a := range all {
		for _, b := range all {
			if got, want := Compare(a, b), slowCompare(a, b); got != want {
				t.Fatalf("Compare(%+v, %+v): %d, not %d", a, b, got, want)
			}
		}
	}
}

// P6.2

func TestTextExamples(t *testing.T) {
	for s, x := range map[string]api.Token{
		"#12.3":     tok(12, 3), // the chapter's
		"#0.1":      tok(0, 1),
		"#0.255":    tok(0, 255),
		"#4095.1":   tok(4095, 1),
		"#4095.255": tok(4095, 255),
		"#10.100":   tok(10, 100),
	} {
		if got, e := Text(x); got != s || e != api.OK {
			t.Errorf("Text(%+v): %q, %v", x, got, e)
		}
		if got, e := Parse(s); got != x || e != api.OK {
			t.Errorf("Parse(%q): %+v, %v", s, got, e)
		}
	}
}

func TestTextOfAll(t *testing.T) {
	for s, x := range slowTokens() {
		if got, e := Text(x); got != s || e != api.OK {
			t.Fatalf("Text(%+v): %q, %v", x, got, e)
		}
		if got, e := Parse(s); got != x || e != api.OK {
			t.Fatalf("Parse(%q): %+v, %v", s, got, e)
		}
	}
}

func TestTextOfNone(t *testing.T) {
	for _, i := range edges() {
		for _, g := range edges() {
			x := tok(i, g)
			want, wantErr := "", api.ErrRange
			if slowRight(x) {
				want, wantErr = slowText(x), api.OK
			}
			if got, e := Text(x); got != want || e != wantErr {
				t.Fatalf("Text(%+v): %q, %v, not %q, %v", x, got, e, want, wantErr)
			}
		}
	}
}

func TestParseWrong(t *testing.T) {
	for _, s := range []string{
		"", "#", ".", "#.", "12", "12.3", "#12", "#12.", "#.3", "#12 3", "#12,3", "#12..3", "#12.3.", "#12.3.4", ".12.3",
		"##12.3", "#12#3", "#12.#3", "12#.3", "12.3#", "12.#3", "3.12#", "#12.3#", "$12.3", "!12.3", "＃12.3", "#12．3",
		" #12.3", "#12.3 ", "# 12.3", "#12 .3", "#12. 3", "#12.3\n", "\n#12.3", "#12.3\x00", "\x00#12.3", "#12\t.3",
		"#+12.3", "#12.+3", "#-12.3", "#12.-3", "#-0.1", "#+0.1", "#--0.1", "#-.1", "#+.1", "#0.+", "#0.-",
		"#012.3", "#12.03", "#00.1", "#000.1", "#0.01", "#0.001", "#00000000012.3", "#12.0000000003",
		"#1_2.3", "#1_000.3", "#12.1_0", "#0x12.3", "#12.0x3", "#0b1.1", "#0o1.1", "#1e1.1", "#12.1e1", "#a.1", "#12.a", "#12.3a", "#12a.3",
		"#0.0", "#12.0", "#12.256", "#12.257", "#12.999", "#12.1000", "#4096.1", "#4097.1", "#9999.1", "#10000.1", "#4096.256", "#4096.0",
		"#18446744073709551616.1", "#18446744073709551628.3", "#12.18446744073709551619", "#4294967308.3", "#12.4294967299", "#12.259", "#65548.3",
		"#9223372036854775807.1", "#9223372036854775808.1", "#-9223372036854775808.1", "#0.9223372036854775808", "#99999999999999999999.1",
		"#١٢.3", "#12.٣", "#１２.3", "#12.\xff", "\xff\xfe", "#1²2.3", "token", "#12.3#12.3", "#12.3 #12.3",
	} {
		if got, e := Parse(s); got != (api.Token{}) || e != api.ErrForm {
			t.Errorf("Parse(%q): %+v, %v", s, got, e)
		}
	}
}

// TestParseNear goes through all texts that are one byte away from a right one.
func TestParseNear(t *testing.T) {
	all := slowTokens()
	parses := func(s string) {
		t.Helper()
		want, ok := all[s]
		wantErr := api.OK
		if !ok {
			wantErr = api.ErrForm
		}
		if got, e := Parse(s); got != want || e != wantErr {
			t.Fatalf("Parse(%q): %+v, %v, not %+v, %v", s, got, e, want, wantErr)
		}
	}
	for _, s := range []string{"#0.1", "#9.9", "#12.3", "#10.20", "#99.25", "#409.5", "#4095.255", "#999.99", "#40.255", "#100.100"} {
		for i := range len(s) + 1 {
			for b := range 256 {
				parses(s[:i] + string([]byte{byte(b)}) + s[i:])
				if i < len(s) {
					parses(s[:i] + string([]byte{byte(b)}) + s[i+1:])
				}
			}
			parses(s[:i])
			parses(s[i:])
			if i < len(s) {
				parses(s[:i] + s[i+1:])
			}
		}
	}
}

// TestParseShort goes through all texts of up to five of the bytes that texts are made of, and of some that come near.
func TestParseShort(t *testing.T) {
	all := slowTokens()
	const bytes = "#.01259-+ _"
	texts := []string{""}
	for range 6 {
		var longer []string
		for _, s := range texts {
			want, ok := all[s]
			if got, e := Parse(s); got != want || (e == api.OK) != ok || (e == api.ErrForm) == ok {
				t.Fatalf("Parse(%q): %+v, %v", s, got, e)
			}
			if len(s) < 5 {
				for i := range len(bytes) {
					longer = append(longer, s+bytes[i:i+1])
				}
			}
		}
		texts = longer
	}
}

func TestParseLong(t *testing.T) {
	const n = 1 << 20
	for _, s := range []string{
		strings.Repeat("#", n), strings.Repeat(".", n), strings.Repeat("1", n), "#" + strings.Repeat("1", n) + ".1",
		"#1." + strings.Repeat("1", n), "#" + strings.Repeat("0", n) + "1.1", "#1." + strings.Repeat("0", n) + "1", strings.Repeat("#1.1", n),
	} {
		if got, e := Parse(s); got != (api.Token{}) || e != api.ErrForm {
			t.Errorf("Parse of %d bytes, %q ahead: %+v, %v", len(s), s[:8], got, e)
		}
	}
}

// P6.3

func TestSortExamples(t *testing.T) {
	for _, c := range []struct{ l, want []api.Token }{
		{[]api.Token{tok(2, 1), tok(1, 9), tok(2, 1)}, []api.Token{tok(1, 9), tok(2, 1)}}, // the chapter's
		{nil, nil},
		{[]api.Token{}, nil},
		{[]api.Token{tok(0, 1)}, []api.Token{tok(0, 1)}},
		{[]api.Token{tok(5, 5), tok(5, 5), tok(5, 5)}, []api.Token{tok(5, 5)}},
		{[]api.Token{tok(10, 1), tok(9, 1)}, []api.Token{tok(9, 1), tok(10, 1)}}, // as numbers, not as texts
		{[]api.Token{tok(1, 10), tok(1, 9)}, []api.Token{tok(1, 9), tok(1, 10)}},
		{[]api.Token{tok(4095, 255), tok(4095, 1), tok(0, 255), tok(0, 1)}, []api.Token{tok(0, 1), tok(0, 255), tok(4095, 1), tok(4095, 255)}},
	} {
		if got, e := Sort(c.l...); !slices.Equal(got, c.want) || e != api.OK {
			t.Errorf("Sort of %v: %v, %v", c.l, got, e)
		}
	}
	if got, e := Sort(); len(got) != 0 || e != api.OK {
		t.Errorf("Sort of none: %v, %v", got, e)
	}
	if got, e := Sort(tok(3, 1), tok(2, 2), tok(2, 1)); !slices.Equal(got, []api.Token{tok(2, 1), tok(2, 2), tok(3, 1)}) || e != api.OK {
		t.Errorf("Sort of three: %v, %v", got, e)
	}
}

func TestSortMany(t *testing.T) {
	for n := range 67 {
		for seed := range 20 {
			sorts(t, some(n, 4096, seed))
			sorts(t, some(n, 3, seed))
			// Those that are the same stand apart, and all about.
			half := some(n/2, 4096, seed)
			sorts(t, append(half, half...))
		}
	}
}

func TestSortInAllOrders(t *testing.T) {
	l := []api.Token{tok(1, 1), tok(1, 2), tok(2, 1), tok(2, 1), tok(0, 255), tok(1, 1)}
	var each func(at int)
	each = func(at int) {
		if at == len(l) {
			sorts(t, l)
			return
		}
		for i := at; i < len(l); i++ {
			l[at], l[i] = l[i], l[at]
			each(at + 1)
			l[at], l[i] = l[i], l[at]
		}
	}
	each(0)
}

func TestSortErrors(t *testing.T) {
	full := some(api.MaxList, 4096, 1)
	if got, e := Sort(full...); len(got) == 0 || e != api.OK {
		t.Errorf("Sort of MaxList: %v, %v", got, e)
	}
	same := slices.Repeat([]api.Token{tok(7, 7)}, api.MaxList)
	if got, e := Sort(same...); !slices.Equal(got, []api.Token{tok(7, 7)}) || e != api.OK {
		t.Errorf("Sort of one, MaxList times: %v, %v", got, e)
	}
	for _, n := range []int{65, 66, 128, 1000, 1 << 16} {
		// More than MaxList are too many, even if they are all the same.
		if got, e := Sort(slices.Repeat([]api.Token{tok(7, 7)}, n)...); len(got) != 0 || e != api.ErrLong {
			t.Errorf("Sort of one, %d times: %v, %v", n, got, e)
		}
	}
	for _, wrong := range []api.Token{{}, tok(-1, 1), tok(4096, 1), tok(0, 0), tok(0, 256), tok(0, -1), tok(math.MinInt, 1), tok(math.MaxInt, 1), tok(0, math.MinInt), tok(0, math.MaxInt)} {
		for _, n := range []int{1, 2, 3, 63, 64, 65, 66, 200} {
			// ErrRange goes ahead of ErrLong, wherever the wrong one stands.
			for _, at := range []int{0, n / 2, n - 1} {
				l := some(n, 4096, n)
				l[at] = wrong
				if got, e := Sort(l...); len(got) != 0 || e != api.ErrRange {
					t.Fatalf("Sort of %d, %+v at %d: %v, %v", n, wrong, at, got, e)
				}
			}
		}
	}
}

// Rule 4: nothing handed in is changed, kept or read behind its length, and answers are new memory.

func TestSortMemory(t *testing.T) {
	whole := []api.Token{tok(3, 1), tok(2, 1), tok(2, 1), tok(1, 1), {}, tok(-1, -1)}
	before := slices.Clone(whole)
	got, e := Sort(whole[:4]...)
	want := []api.Token{tok(1, 1), tok(2, 1), tok(3, 1)}
	if !slices.Equal(got, want) || e != api.OK {
		t.Fatalf("Sort of a piece: %v, %v", got, e)
	}
	if !slices.Equal(whole, before) {
		t.Fatalf("Sort changed what it was handed, or what lies behind: %v", whole)
	}
	again, _ := Sort(whole[:4]...)
	for i := range got[:cap(got)] {
		got[:cap(got)][i] = tok(9, 9)
	}
	if !slices.Equal(whole, before) || !slices.Equal(again, want) {
		t.Fatalf("an answer shares memory: %v, %v", whole, again)
	}
	clear(whole)
	if !slices.Equal(again, want) {
		t.Fatalf("an answer shares memory with what was handed in: %v", again)
	}
	// One that is in order already, and one of a single token, are new memory, too.
	for _, l := range [][]api.Token{{tok(1, 1)}, {tok(1, 1), tok(2, 1)}} {
		got, _ := Sort(l...)
		l[0] = tok(5, 5)
		if got[0] != tok(1, 1) {
			t.Fatalf("an answer shares memory with what was handed in: %v", got)
		}
	}
}

// Rule 7: nothing is kept from call to call.

func TestNothingKept(t *testing.T) {
	for range 3 {
		if got, e := Sort(tok(2, 1)); !slices.Equal(got, []api.Token{tok(2, 1)}) || e != api.OK {
			t.Fatalf("Sort: %v, %v", got, e)
		}
		if _, e := Sort(tok(0, 0)); e != api.ErrRange {
			t.Fatalf("Sort: %v", e)
		}
		if _, e := Parse("#"); e != api.ErrForm {
			t.Fatalf("Parse: %v", e)
		}
		if got, e := Parse("#2.1"); got != tok(2, 1) || e != api.OK {
			t.Fatalf("Parse: %+v, %v", got, e)
		}
	}
}
