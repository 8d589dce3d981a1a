package graph

import (
	"math"
	"math/rand"
	"slices"
	"testing"
)

// slowReached asks of a node by walks alone: it is reached, if it is a root, or if one of so many steps backward gets to one. No list of what was come to is kept.
func slowReached(node int, roots []int, edges []Edge) bool {
	back := []int{node}
	for range len(edges) + 1 {
		for _, e := range edges {
			if slices.Contains(back, e.To) && !slices.Contains(back, e.From) {
				back = append(back, e.From)
			}
		}
	}
	return slices.ContainsFunc(roots, func(r int) bool { return slices.Contains(back, r) })
}

// slowNodes are all nodes that are told anywhere, each once, rising.
func slowNodes(roots []int, edges []Edge) []int {
	l := slices.Clone(roots)
	for _, e := range edges {
		l = append(l, e.From, e.To)
	}
	slices.Sort(l)
	return slices.Compact(l)
}

func slowReach(roots []int, edges []Edge) []int {
	return slices.DeleteFunc(slowNodes(roots, edges), func(n int) bool { return !slowReached(n, roots, edges) })
}

func slowLost(nodes, roots []int, edges []Edge) []int {
	l := slices.DeleteFunc(slices.Clone(nodes), func(n int) bool { return slowReached(n, roots, edges) })
	slices.Sort(l)
	return slices.Compact(l)
}

// slowOrder writes all edges down of each node in turn, be they of use or not, and strikes out what was told already at the very end of each turn.
func slowOrder(roots []int, edges []Edge) []int {
	l := once(roots)
	for at := 0; at < len(l); at++ {
		for _, e := range edges {
			if e.From == l[at] {
				l = append(l, e.To)
			}
		}
		l = once(l)
	}
	return l
}

// once is a list with the first one of equals alone.
func once(l []int) []int {
	var o []int
	for _, x := range l {
		if !slices.Contains(o, x) {
			o = append(o, x)
		}
	}
	return o
}

// hold has the program and the slow one answer the same, and the handed in lists as they were.
func hold(t *testing.T, nodes, roots []int, edges []Edge) {
	t.Helper()
	n, r, l := slices.Clone(nodes), slices.Clone(roots), slices.Clone(edges)
	if got, want := Order(roots, edges), slowOrder(roots, edges); !slices.Equal(got, want) {
		t.Fatalf("Order(%v, %v): %v, not %v", roots, edges, got, want)
	}
	if got, want := Reach(roots, edges), slowReach(roots, edges); !slices.Equal(got, want) {
		t.Fatalf("Reach(%v, %v): %v, not %v", roots, edges, got, want)
	}
	if got, want := Lost(nodes, roots, edges), slowLost(nodes, roots, edges); !slices.Equal(got, want) {
		t.Fatalf("Lost(%v, %v, %v): %v, not %v", nodes, roots, edges, got, want)
	}
	if !slices.Equal(n, nodes) || !slices.Equal(r, roots) || !slices.Equal(l, edges) {
		t.Fatalf("what was handed in was changed: %v, %v, %v; now %v, %v, %v", n, r, l, nodes, roots, edges)
	}
}

// lists are all lists of at most n of some things.
func lists[T any](things []T, n int) [][]T {
	all := [][]T{nil}
	longest := all
	for range n {
		var longer [][]T
		for _, l := range longest {
			for _, x := range things {
				longer = append(longer, append(slices.Clone(l), x))
			}
		}
		all = append(all, longer...)
		longest = longer
	}
	return all
}

// between are all edges between some nodes.
func between(nodes []int) []Edge {
	var l []Edge
	for _, a := range nodes {
		for _, b := range nodes {
			l = append(l, Edge{From: a, To: b})
		}
	}
	return l
}

func equal(t *testing.T, what string, got, want []int) {
	t.Helper()
	if !slices.Equal(got, want) {
		t.Errorf("%s: %v, not %v", what, got, want)
	}
}

// P13.1: the chapter's example, and what its words name.

func TestExample(t *testing.T) {
	roots, edges := []int{5, 2}, []Edge{{2, 7}, {5, 1}, {1, 5}, {9, 3}}
	equal(t, "Order", Order(roots, edges), []int{5, 2, 1, 7})
	equal(t, "Reach", Reach(roots, edges), []int{1, 2, 5, 7})
	equal(t, "Lost", Lost([]int{9, 1, 3, 9, 4}, roots, edges), []int{3, 4, 9})
}

func TestRootsGoFirst(t *testing.T) {
	// 3 is a root, though an edge of the first root goes to it; each root is told once, where it is told first.
	equal(t, "Order", Order([]int{8, 3, 8, 1, 3}, []Edge{{8, 4}, {8, 3}, {3, 4}, {1, 8}}), []int{8, 3, 1, 4})
}

func TestNodesInTurn(t *testing.T) {
	// 2's edges are asked for ahead of 1's and of 6's, wherever they stand among the edges; of one node's edges the order is the edges'.
	edges := []Edge{{6, 10}, {1, 20}, {1, 6}, {2, 9}, {9, 30}, {2, 4}, {2, 9}, {4, 2}}
	equal(t, "Order", Order([]int{2, 1}, edges), []int{2, 1, 9, 4, 20, 6, 30, 10})
}

func TestWideAheadOfDeep(t *testing.T) {
	edges := []Edge{{1, 2}, {2, 3}, {3, 4}, {1, 5}, {5, 6}, {1, 4}}
	equal(t, "Order", Order([]int{1}, edges), []int{1, 2, 5, 4, 3, 6})
}

func TestOwnEdgesAndTwoAlike(t *testing.T) {
	edges := []Edge{{1, 1}, {1, 2}, {1, 2}, {2, 2}, {2, 1}}
	equal(t, "Order", Order([]int{1}, edges), []int{1, 2})
	equal(t, "Order of 2", Order([]int{2}, edges), []int{2, 1})
	equal(t, "Lost", Lost([]int{1, 2, 1}, []int{2}, edges), nil)
}

func TestNoRoots(t *testing.T) {
	edges := []Edge{{0, 1}, {1, 0}, {0, 0}}
	for _, roots := range [][]int{nil, {}} {
		equal(t, "Order", Order(roots, edges), nil)
		equal(t, "Reach", Reach(roots, edges), nil)
		equal(t, "Lost", Lost([]int{1, 0, 1}, roots, edges), []int{0, 1})
	}
}

func TestNoEdges(t *testing.T) {
	for _, edges := range [][]Edge{nil, {}} {
		equal(t, "Order", Order([]int{4, -1, 4}, edges), []int{4, -1})
		equal(t, "Reach", Reach([]int{4, -1, 4}, edges), []int{-1, 4})
		equal(t, "Lost", Lost([]int{5, 4, -1, -2, 5}, []int{4, -1}, edges), []int{-2, 5})
	}
}

func TestNoNodes(t *testing.T) {
	for _, nodes := range [][]int{nil, {}} {
		equal(t, "Lost", Lost(nodes, []int{1}, []Edge{{1, 2}, {3, 4}}), nil)
		equal(t, "Lost", Lost(nodes, nil, nil), nil)
	}
}

func TestLostAreOfNodesAlone(t *testing.T) {
	// 8 and 9 aren't reached either, but aren't asked for; 7 is told nowhere else.
	equal(t, "Lost", Lost([]int{7, 2, 3}, []int{1}, []Edge{{1, 2}, {9, 8}, {8, 3}}), []int{3, 7})
}

func TestAnyWholeNumber(t *testing.T) {
	nodes := []int{math.MinInt, math.MinInt + 1, -1, 0, 1, math.MaxInt - 1, math.MaxInt}
	for k, x := range nodes {
		for _, y := range nodes {
			hold(t, nodes, []int{x}, []Edge{{x, y}})
			hold(t, nodes, []int{y, x}, []Edge{{y, x}, {x, nodes[(k+1)%len(nodes)]}})
		}
	}
	// A chain from the greatest one to the least one.
	edges := []Edge{{math.MaxInt, 0}, {0, math.MinInt}, {math.MinInt, -1}}
	equal(t, "Order", Order([]int{math.MaxInt}, edges), []int{math.MaxInt, 0, math.MinInt, -1})
	equal(t, "Reach", Reach([]int{math.MaxInt}, edges), []int{math.MinInt, -1, 0, math.MaxInt})
	equal(t, "Lost", Lost([]int{math.MaxInt, math.MinInt, 0, math.MaxInt}, []int{0}, edges), []int{math.MaxInt})
}

func TestNearNumbersAreApart(t *testing.T) {
	// Numbers whose low 32 bits are the same, or whose signs are turned.
	edges := []Edge{{1, 2}, {1 + 1<<32, 3}, {-1, 4}, {2 + 1<<32, 5}, {-2, 6}}
	equal(t, "Order", Order([]int{1}, edges), []int{1, 2})
	equal(t, "Lost", Lost([]int{1 + 1<<32, -1, 2 - 1<<32, 2}, []int{1}, edges), []int{2 - 1<<32, -1, 1 + 1<<32})
}

func TestAllSmallGraphs(t *testing.T) {
	for _, n := range [][]int{{3, -2, 8}, {0, 1}} {
		asked := append(slices.Clone(n), n[0], 5)
		edges := lists(between(n), 3)
		for _, roots := range lists(append(slices.Clone(n), 5), 2) {
			for _, l := range edges {
				hold(t, asked, roots, l)
			}
		}
	}
}

func TestRandomGraphs(t *testing.T) {
	r := rand.New(rand.NewSource(13))
	for range 3000 {
		n := 1 + r.Intn(12)
		node := func() int { return r.Intn(n)*7 - n*3 }
		var nodes, roots []int
		var edges []Edge
		for range r.Intn(8) {
			nodes = append(nodes, node())
		}
		for range r.Intn(4) {
			roots = append(roots, node())
		}
		for range r.Intn(2 * n) {
			edges = append(edges, Edge{From: node(), To: node()})
		}
		hold(t, nodes, roots, edges)
	}
}

// P13.2: what is reached from roots and others, and what edges from elsewhere do.

func TestRootsTogether(t *testing.T) {
	r := rand.New(rand.NewSource(132))
	for range 2000 {
		var a, b []int
		var edges []Edge
		for range r.Intn(4) {
			a = append(a, r.Intn(15))
		}
		for range r.Intn(4) {
			b = append(b, r.Intn(15))
		}
		for range r.Intn(20) {
			edges = append(edges, Edge{From: r.Intn(15), To: r.Intn(15)})
		}
		both := append(slices.Clone(a), b...)
		each := append(Reach(a, edges), Reach(b, edges)...)
		slices.Sort(each)
		if got, want := Reach(both, edges), slices.Compact(each); !slices.Equal(got, want) {
			t.Fatalf("Reach(%v, %v): %v, not %v", both, edges, got, want)
		}
	}
}

func TestEdgesFromElsewherePlayNoPart(t *testing.T) {
	r := rand.New(rand.NewSource(133))
	for range 2000 {
		var nodes, roots []int
		var edges []Edge
		for k := range 12 {
			nodes = append(nodes, k)
		}
		for range r.Intn(3) {
			roots = append(roots, r.Intn(12))
		}
		for range r.Intn(14) {
			edges = append(edges, Edge{From: r.Intn(12), To: r.Intn(12)})
		}
		order, reach, lost := Order(roots, edges), Reach(roots, edges), Lost(nodes, roots, edges)
		more := slices.Clone(edges)
		for range 10 {
			if len(lost) > 0 {
				e := Edge{From: lost[r.Intn(len(lost))], To: r.Intn(12)}
				more = slices.Insert(more, r.Intn(len(more)+1), e)
			}
		}
		equal(t, "Order", Order(roots, more), order)
		equal(t, "Reach", Reach(roots, more), reach)
		equal(t, "Lost", Lost(nodes, roots, more), lost)
		less := slices.DeleteFunc(slices.Clone(edges), func(e Edge) bool { return slices.Contains(lost, e.From) })
		equal(t, "Order without", Order(roots, less), order)
	}
}

// The rules: lists that are handed in, and answered; and that each call ends, soon.

func TestBehindTheLists(t *testing.T) {
	// What lies behind each list's length would reach 100 or ask for it.
	nodes := []int{3, 3, 2, 100, 100}[:3:5]
	roots := []int{1, 1, 100, 100}[:2:4]
	edges := []Edge{{1, 2}, {1, 100}, {2, 100}}[:1:3]
	equal(t, "Order", Order(roots, edges), []int{1, 2})
	equal(t, "Reach", Reach(roots, edges), []int{1, 2})
	equal(t, "Lost", Lost(nodes, roots, edges), []int{3})
	equal(t, "nodes", nodes[:5], []int{3, 3, 2, 100, 100})
	equal(t, "roots", roots[:4], []int{1, 1, 100, 100})
	if l := edges[:3]; !slices.Equal(l, []Edge{{1, 2}, {1, 100}, {2, 100}}) {
		t.Error(l)
	}
}

func TestAnswersAreNewMemory(t *testing.T) {
	nodes, roots, edges := []int{7, 8, 9}, []int{4, 5, 6}, []Edge{{4, 1}, {4, 2}, {4, 3}}
	for range 2 {
		o, r, l := Order(roots, edges), Reach(roots, edges), Lost(nodes, roots, edges)
		equal(t, "Order", o, []int{4, 5, 6, 1, 2, 3})
		equal(t, "Reach", r, []int{1, 2, 3, 4, 5, 6})
		equal(t, "Lost", l, []int{7, 8, 9})
		for _, answer := range [][]int{o, r, l} {
			answer = answer[:cap(answer)]
			for k := range answer {
				answer[k] = -5
			}
		}
		equal(t, "nodes", nodes, []int{7, 8, 9})
		equal(t, "roots", roots, []int{4, 5, 6})
	}
}

func TestRootsAloneAreNewMemory(t *testing.T) {
	roots := []int{1, 2, 3}
	o, r, l := Order(roots, nil), Reach(roots, nil), Lost(roots, nil, nil)
	o[0], r[1], l[2] = 9, 9, 9
	equal(t, "roots", roots, []int{1, 2, 3})
	equal(t, "Order", o, []int{9, 2, 3})
	equal(t, "Reach", r, []int{1, 9, 3})
	equal(t, "Lost", l, []int{1, 2, 9})
}

func TestLongChain(t *testing.T) {
	const n = 200000
	var edges []Edge
	var want, nodes []int
	for k := range n {
		// From the last edge on: the edges' order is turned.
		edges = append(edges, Edge{From: n - k - 1, To: n - k})
		want = append(want, k)
		nodes = append(nodes, n-k, n+1+k)
	}
	want = append(want, n)
	equal(t, "Order", Order([]int{0}, edges), want)
	if l := Lost(nodes, []int{0}, edges); len(l) != n || l[0] != n+1 || l[n-1] != 2*n {
		t.Error(len(l))
	}
}

func TestManyEdgesOfOne(t *testing.T) {
	const n = 200000
	var edges []Edge
	want := []int{-1}
	for k := range n {
		edges = append(edges, Edge{From: -1, To: n - k}, Edge{From: n - k, To: n}, Edge{From: n, To: n - k})
		want = append(want, n-k)
	}
	equal(t, "Order", Order([]int{-1, -1}, edges), want)
	if l := Reach([]int{-1}, edges); len(l) != n+1 || !slices.IsSorted(l) {
		t.Error(len(l))
	}
}

func TestManyRoots(t *testing.T) {
	var roots, want []int
	for k := range 300000 {
		roots = append(roots, k%1000)
	}
	for k := range 1000 {
		want = append(want, k)
	}
	equal(t, "Order", Order(roots, []Edge{{999, 0}}), want)
}
