package graph_test

import (
	"math"
	"math/rand"
	"slices"
	"testing"

	"armillary/api"
	"armillary/graph"
)

// edge is two nodes that are joined.
type edge struct{ a, b uint64 }

// model is a graph as the chapter tells it, told as plainly as may be: nodes, rising, and each edge once.
type model struct {
	keys         []uint64
	needed, soft []edge
}

// made is a graph of a model.
func made(t *testing.T, m model) *graph.Graph {
	t.Helper()
	g := graph.New(m.keys...)
	for _, e := range m.needed {
		must(t, "Bind", g.Bind(e.a, e.b), api.OK)
	}
	for _, e := range m.soft {
		must(t, "Link", g.Link(e.a, e.b), api.OK)
	}
	mustHold(t, g, m)
	return g
}

// must stops the test if e isn't want.
func must(t *testing.T, what string, e, want api.Errno) {
	t.Helper()
	if e != want {
		t.Fatalf("%s = %d, want %d", what, e, want)
	}
}

// find is where an edge stands, told from either side, or -1.
func find(l []edge, a, b uint64) int {
	return slices.IndexFunc(l, func(e edge) bool { return e == edge{a, b} || e == edge{b, a} })
}

// without is the list without what stands there.
func without(l []edge, place int) []edge {
	return slices.Delete(slices.Clone(l), place, place+1)
}

// ends is to which nodes these edges lead from one, rising.
func ends(l []edge, key uint64) []uint64 {
	var keys []uint64
	for _, e := range l {
		switch key {
		case e.a:
			keys = append(keys, e.b)
		case e.b:
			keys = append(keys, e.a)
		}
	}
	slices.Sort(keys)
	return keys
}

// reach is all nodes to which these edges lead from one, step by step, rising.
func reach(keys []uint64, l []edge, key uint64) []uint64 {
	if !slices.Contains(keys, key) {
		return nil
	}
	reached := []uint64{key}
	for range keys {
		for _, e := range l {
			a, b := slices.Contains(reached, e.a), slices.Contains(reached, e.b)
			if a && !b {
				reached = append(reached, e.b)
			} else if b && !a {
				reached = append(reached, e.a)
			}
		}
	}
	slices.Sort(reached)
	return reached
}

func (m *model) all() []edge {
	return slices.Concat(m.needed, m.soft)
}

// refuse is what Bind, Link and Cut have in common.
func (m *model) refuse(a, b uint64) api.Errno {
	if a == b {
		return api.ErrArg
	}
	if !slices.Contains(m.keys, a) || !slices.Contains(m.keys, b) {
		return api.ErrNone
	}
	return api.OK
}

func (m *model) add(key uint64) api.Errno {
	if slices.Contains(m.keys, key) {
		return api.ErrExists
	}
	m.keys = append(slices.Clone(m.keys), key)
	slices.Sort(m.keys)
	return api.OK
}

func (m *model) bind(a, b uint64) api.Errno {
	if e := m.refuse(a, b); e != api.OK {
		return e
	}
	if find(m.needed, a, b) >= 0 {
		return api.ErrExists
	}
	if place := find(m.soft, a, b); place >= 0 {
		m.soft = without(m.soft, place)
	}
	m.needed = append(slices.Clone(m.needed), edge{a, b})
	return api.OK
}

func (m *model) link(a, b uint64) api.Errno {
	if e := m.refuse(a, b); e != api.OK {
		return e
	}
	if find(m.all(), a, b) >= 0 {
		return api.ErrExists
	}
	m.soft = append(slices.Clone(m.soft), edge{a, b})
	return api.OK
}

func (m *model) cut(a, b uint64) api.Errno {
	if e := m.refuse(a, b); e != api.OK {
		return e
	}
	if find(m.needed, a, b) >= 0 {
		return api.ErrState
	}
	place := find(m.soft, a, b)
	if place < 0 {
		return api.ErrNone
	}
	m.soft = without(m.soft, place)
	return api.OK
}

// mustHold holds all that a graph tells against what the model tells.
func mustHold(t *testing.T, g *graph.Graph, m model) {
	t.Helper()
	if got := g.Keys(); !slices.Equal(got, m.keys) || g.Len() != len(m.keys) {
		t.Fatalf("Keys() = %d, Len() = %d, want %d", got, g.Len(), m.keys)
	}
	keys := []uint64{0, math.MaxUint64}
	for _, key := range m.keys {
		keys = append(keys, key, key+1)
	}
	for _, key := range keys {
		if got := g.Has(key); got != slices.Contains(m.keys, key) {
			t.Fatalf("Has(%d) = %t, of %d", key, got, m.keys)
		}
		if got, want := g.Near(key), ends(m.all(), key); !slices.Equal(got, want) {
			t.Fatalf("Near(%d) = %d, want %d, of %v", key, got, want, m)
		}
		if got, want := g.Soft(key), ends(m.soft, key); !slices.Equal(got, want) {
			t.Fatalf("Soft(%d) = %d, want %d, of %v", key, got, want, m)
		}
		if got, want := g.Reach(key), reach(m.keys, m.all(), key); !slices.Equal(got, want) {
			t.Fatalf("Reach(%d) = %d, want %d, of %v", key, got, want, m)
		}
	}
}

func TestExample(t *testing.T) {
	g := graph.New(1, 2, 3)
	must(t, "Bind(1, 2)", g.Bind(1, 2), api.OK)
	must(t, "Link(2, 3)", g.Link(2, 3), api.OK)
	mustReach(t, g, 1, 1, 2, 3)
	must(t, "Cut(2, 3)", g.Cut(2, 3), api.OK)
	mustReach(t, g, 1, 1, 2)
	must(t, "Cut(1, 2)", g.Cut(1, 2), api.ErrState)
	mustHold(t, g, model{keys: []uint64{1, 2, 3}, needed: []edge{{1, 2}}})
}

func mustReach(t *testing.T, g *graph.Graph, key uint64, want ...uint64) {
	t.Helper()
	if got := g.Reach(key); !slices.Equal(got, want) {
		t.Fatalf("Reach(%d) = %d, want %d", key, got, want)
	}
}

func TestNew(t *testing.T) {
	for _, c := range []struct{ keys, want []uint64 }{
		{nil, nil},
		{[]uint64{}, nil},
		{[]uint64{0}, []uint64{0}},
		{[]uint64{3, 1, 2}, []uint64{1, 2, 3}},
		{[]uint64{2, 2}, []uint64{2}},
		{[]uint64{5, 1, 5, 3, 1, 5}, []uint64{1, 3, 5}},
		{[]uint64{math.MaxUint64, 0, api.MaxID + 1}, []uint64{0, api.MaxID + 1, math.MaxUint64}},
	} {
		g := graph.New(c.keys...)
		if g == nil {
			t.Fatalf("New(%d) is nil", c.keys)
		}
		mustHold(t, g, model{keys: c.want})
	}
}

func TestAdd(t *testing.T) {
	g := graph.New()
	var m model
	for _, c := range []struct {
		key  uint64
		want api.Errno
	}{
		{7, api.OK}, {7, api.ErrExists}, {0, api.OK}, {0, api.ErrExists}, {3, api.OK},
		{math.MaxUint64, api.OK}, {math.MaxUint64, api.ErrExists}, {7, api.ErrExists},
	} {
		must(t, "Add", g.Add(c.key), c.want)
		must(t, "the model's Add", m.add(c.key), c.want)
		mustHold(t, g, m)
	}
	for _, key := range []uint64{1, 2} {
		must(t, "Add to New's", graph.New(1, 2).Add(key), api.ErrExists)
	}
}

// TestAddKeepsEdges: a node that is there stays as it is.
func TestAddKeepsEdges(t *testing.T) {
	m := model{keys: []uint64{1, 2, 3}, needed: []edge{{1, 2}}, soft: []edge{{2, 3}}}
	g := made(t, m)
	must(t, "Add(2)", g.Add(2), api.ErrExists)
	mustHold(t, g, m)
	must(t, "Add(4)", g.Add(4), api.OK)
	m.add(4)
	mustHold(t, g, m)
}

// joined has needed edges 1 2, 2 3 and 6 7, soft ones 3 4, 4 5 and 5 1, and 8 without edges.
func joined() model {
	return model{
		keys:   []uint64{1, 2, 3, 4, 5, 6, 7, 8},
		needed: []edge{{1, 2}, {2, 3}, {6, 7}},
		soft:   []edge{{3, 4}, {4, 5}, {5, 1}},
	}
}

func TestEdges(t *testing.T) {
	for _, c := range []struct {
		name            string
		a, b            uint64
		bind, link, cut api.Errno
	}{
		{"no edge", 1, 3, api.OK, api.OK, api.ErrNone},
		{"no edge, far apart", 8, 6, api.OK, api.OK, api.ErrNone},
		{"a needed one", 1, 2, api.ErrExists, api.ErrExists, api.ErrState},
		{"a soft one", 3, 4, api.OK, api.ErrExists, api.OK},
		{"a soft one, told from the greater key", 5, 1, api.OK, api.ErrExists, api.OK},
		{"the same", 1, 1, api.ErrArg, api.ErrArg, api.ErrArg},
		{"the same, without edges", 8, 8, api.ErrArg, api.ErrArg, api.ErrArg},
		{"one isn't there", 1, 9, api.ErrNone, api.ErrNone, api.ErrNone},
		{"one isn't there, 0", 0, 8, api.ErrNone, api.ErrNone, api.ErrNone},
		{"both aren't there", 9, 10, api.ErrNone, api.ErrNone, api.ErrNone},
		{"the same ahead of not there", 9, 9, api.ErrArg, api.ErrArg, api.ErrArg},
		{"the same ahead of not there, 0", 0, 0, api.ErrArg, api.ErrArg, api.ErrArg},
	} {
		t.Run(c.name, func(t *testing.T) {
			for _, e := range []edge{{c.a, c.b}, {c.b, c.a}} {
				g, m := made(t, joined()), joined()
				must(t, "Bind", g.Bind(e.a, e.b), c.bind)
				must(t, "the model's Bind", m.bind(e.a, e.b), c.bind)
				mustHold(t, g, m)

				g, m = made(t, joined()), joined()
				must(t, "Link", g.Link(e.a, e.b), c.link)
				must(t, "the model's Link", m.link(e.a, e.b), c.link)
				mustHold(t, g, m)

				g, m = made(t, joined()), joined()
				must(t, "Cut", g.Cut(e.a, e.b), c.cut)
				must(t, "the model's Cut", m.cut(e.a, e.b), c.cut)
				mustHold(t, g, m)
			}
		})
	}
}

// TestSoftBecomesNeeded: then it is soft no more, from both sides, and stays.
func TestSoftBecomesNeeded(t *testing.T) {
	for _, e := range []edge{{1, 2}, {2, 1}} {
		g := graph.New(1, 2, 3)
		must(t, "Link", g.Link(1, 2), api.OK)
		mustHold(t, g, model{keys: []uint64{1, 2, 3}, soft: []edge{{1, 2}}})
		must(t, "Bind", g.Bind(e.a, e.b), api.OK)
		mustHold(t, g, model{keys: []uint64{1, 2, 3}, needed: []edge{{1, 2}}})
		for _, back := range []edge{{1, 2}, {2, 1}} {
			must(t, "Bind, once more", g.Bind(back.a, back.b), api.ErrExists)
			must(t, "Link", g.Link(back.a, back.b), api.ErrExists)
			must(t, "Cut", g.Cut(back.a, back.b), api.ErrState)
		}
		mustHold(t, g, model{keys: []uint64{1, 2, 3}, needed: []edge{{1, 2}}})
	}
}

// TestCutAndAgain: what was cut is no edge any more, and may be put again.
func TestCutAndAgain(t *testing.T) {
	g := graph.New(1, 2)
	must(t, "Cut ahead", g.Cut(1, 2), api.ErrNone)
	for range 2 {
		must(t, "Link", g.Link(1, 2), api.OK)
		must(t, "Link, once more", g.Link(2, 1), api.ErrExists)
		must(t, "Cut", g.Cut(2, 1), api.OK)
		must(t, "Cut, once more", g.Cut(2, 1), api.ErrNone)
		must(t, "Cut, from the other side", g.Cut(1, 2), api.ErrNone)
		mustHold(t, g, model{keys: []uint64{1, 2}})
	}
	must(t, "Bind", g.Bind(2, 1), api.OK)
	mustHold(t, g, model{keys: []uint64{1, 2}, needed: []edge{{1, 2}}})
}

func TestReach(t *testing.T) {
	m := joined()
	g := made(t, m)
	for _, key := range []uint64{1, 2, 3, 4, 5} {
		mustReach(t, g, key, 1, 2, 3, 4, 5)
	}
	mustReach(t, g, 6, 6, 7)
	mustReach(t, g, 7, 6, 7)
	mustReach(t, g, 8, 8)
	mustReach(t, g, 9)
	mustReach(t, g, 0)
	mustReach(t, g, math.MaxUint64)

	must(t, "Cut(4, 3)", g.Cut(4, 3), api.OK)
	mustReach(t, g, 3, 1, 2, 3, 4, 5) // the ring's other way round
	must(t, "Cut(5, 1)", g.Cut(5, 1), api.OK)
	mustReach(t, g, 3, 1, 2, 3)
	mustReach(t, g, 5, 4, 5)
	must(t, "Bind(8, 7)", g.Bind(8, 7), api.OK)
	must(t, "Link(8, 4)", g.Link(8, 4), api.OK)
	mustReach(t, g, 5, 4, 5, 6, 7, 8)
}

// TestRings: two rings with a node in common, one of needed edges, one of soft ones.
func TestRings(t *testing.T) {
	m := model{
		keys:   []uint64{0, 1, 2, 3, 4, math.MaxUint64},
		needed: []edge{{0, 1}, {1, 2}, {2, 0}},
		soft:   []edge{{2, 3}, {3, 4}, {4, math.MaxUint64}, {math.MaxUint64, 2}},
	}
	g := made(t, m)
	for _, key := range m.keys {
		mustReach(t, g, key, m.keys...)
	}
	for _, e := range m.soft {
		must(t, "Cut", g.Cut(e.a, e.b), api.OK)
	}
	mustReach(t, g, 1, 0, 1, 2)
	mustReach(t, g, 3, 3)
}

// TestLongRow: a way over very many edges.
func TestLongRow(t *testing.T) {
	const many = 100000
	g := graph.New()
	var keys []uint64
	for key := range uint64(many) {
		keys = append(keys, key)
		must(t, "Add", g.Add(key), api.OK)
		switch {
		case key > 0 && key%2 == 0:
			must(t, "Bind", g.Bind(key-1, key), api.OK)
		case key > 0:
			must(t, "Link", g.Link(key, key-1), api.OK)
		}
	}
	mustReach(t, g, many/2, keys...)
	must(t, "Cut", g.Cut(500, 501), api.OK)
	mustReach(t, g, 0, keys[:501]...)
	mustReach(t, g, many-1, keys[501:]...)
}

// TestCutsKeepWhatIsNeeded: whatever soft edges are cut, what needed edges reach is reached.
func TestCutsKeepWhatIsNeeded(t *testing.T) {
	g := graph.New(1, 2, 3, 4)
	for _, e := range []edge{{1, 2}, {2, 3}} {
		must(t, "Bind", g.Bind(e.a, e.b), api.OK)
	}
	for _, e := range []edge{{1, 3}, {3, 4}} {
		must(t, "Link", g.Link(e.a, e.b), api.OK)
	}
	must(t, "Cut between nodes that needed edges join", g.Cut(3, 1), api.OK)
	mustReach(t, g, 1, 1, 2, 3, 4)
	must(t, "Cut", g.Cut(3, 4), api.OK)
	mustReach(t, g, 1, 1, 2, 3)
	mustReach(t, g, 3, 1, 2, 3)
	for _, e := range []edge{{1, 2}, {2, 1}, {2, 3}, {3, 2}} {
		must(t, "Cut of a needed edge", g.Cut(e.a, e.b), api.ErrState)
	}
	mustHold(t, g, model{keys: []uint64{1, 2, 3, 4}, needed: []edge{{1, 2}, {2, 3}}})
}

// someGraph is calls at random, each held against the model.
func someGraph(t *testing.T, r *rand.Rand, calls int) (*graph.Graph, model) {
	t.Helper()
	g, m := graph.New(), model{}
	for range calls {
		a, b := uint64(r.Intn(12)), uint64(r.Intn(12))
		switch r.Intn(4) {
		case 0:
			must(t, "Add", g.Add(a), m.add(a))
		case 1:
			must(t, "Bind", g.Bind(a, b), m.bind(a, b))
		case 2:
			must(t, "Link", g.Link(a, b), m.link(a, b))
		default:
			must(t, "Cut", g.Cut(a, b), m.cut(a, b))
		}
		mustHold(t, g, m)
	}
	return g, m
}

func TestAgainstModel(t *testing.T) {
	r := rand.New(rand.NewSource(9))
	for range 100 {
		g, m := someGraph(t, r, 100)
		for _, key := range m.keys {
			for _, end := range g.Soft(key) {
				must(t, "Cut", g.Cut(key, end), api.OK)
			}
			for _, end := range g.Near(key) {
				must(t, "Cut of a needed edge", g.Cut(key, end), api.ErrState)
			}
		}
		for _, key := range m.keys {
			mustReach(t, g, key, reach(m.keys, m.needed, key)...)
		}
		m.soft = nil
		mustHold(t, g, m)
	}
}

// TestArgumentsStay: the keys handed in are neither changed nor kept, their spare room neither.
func TestArgumentsStay(t *testing.T) {
	keys := []uint64{3, 1, 3, 2, 99}
	g := graph.New(keys[:4]...)
	must(t, "Add", g.Add(7), api.OK)
	if !slices.Equal(keys, []uint64{3, 1, 3, 2, 99}) {
		t.Fatal("the keys were changed:", keys)
	}
	clear(keys)
	mustHold(t, g, model{keys: []uint64{1, 2, 3, 7}})
}

// TestAnswersAreNew: an answer that is written over, with its spare room, is seen neither in the graph nor in another answer.
func TestAnswersAreNew(t *testing.T) {
	m := joined()
	g := made(t, m)
	for name, call := range map[string]func() []uint64{
		"Near":  func() []uint64 { return g.Near(1) },
		"Soft":  func() []uint64 { return g.Soft(5) },
		"Keys":  g.Keys,
		"Reach": func() []uint64 { return g.Reach(2) },
	} {
		first, second := call(), call()
		want := slices.Clone(second)
		if len(want) == 0 {
			t.Fatal(name, "tells nothing")
		}
		first = first[:cap(first)]
		for i := range first {
			first[i] = 77
		}
		if !slices.Equal(second, want) {
			t.Errorf("two answers of %s share memory: %d", name, second)
		}
		mustHold(t, g, m)
	}
}

// TestChangesAreSeenInNoAnswer: what a graph is told later, an earlier answer doesn't show.
func TestChangesAreSeenInNoAnswer(t *testing.T) {
	g := made(t, joined())
	near, soft, keys, reached := g.Near(4), g.Soft(4), g.Keys(), g.Reach(4)
	must(t, "Cut", g.Cut(4, 5), api.OK)
	must(t, "Bind", g.Bind(4, 3), api.OK)
	must(t, "Add", g.Add(0), api.OK)
	must(t, "Link", g.Link(4, 0), api.OK)
	if !slices.Equal(near, []uint64{3, 5}) || !slices.Equal(soft, []uint64{3, 5}) ||
		!slices.Equal(keys, joined().keys) || !slices.Equal(reached, []uint64{1, 2, 3, 4, 5}) {
		t.Fatal("an earlier answer has changed:", near, soft, keys, reached)
	}
}

// TestGraphsAreApart: what one graph is told, no other knows.
func TestGraphsAreApart(t *testing.T) {
	keys := []uint64{1, 2, 3}
	a, b := graph.New(keys...), graph.New(keys...)
	must(t, "Bind", a.Bind(1, 2), api.OK)
	must(t, "Link", b.Link(1, 2), api.OK)
	must(t, "Add", b.Add(4), api.OK)
	mustHold(t, a, model{keys: keys, needed: []edge{{1, 2}}})
	mustHold(t, b, model{keys: []uint64{1, 2, 3, 4}, soft: []edge{{1, 2}}})
}

func TestNilGraph(t *testing.T) {
	var g *graph.Graph
	for _, e := range []edge{{0, 0}, {1, 1}, {1, 2}, {math.MaxUint64, 0}} {
		must(t, "Add", g.Add(e.a), api.ErrNone)
		must(t, "Bind", g.Bind(e.a, e.b), api.ErrNone)
		must(t, "Link", g.Link(e.a, e.b), api.ErrNone)
		must(t, "Cut", g.Cut(e.a, e.b), api.ErrNone)
	}
	mustHold(t, g, model{})
}
