package walk_test

import (
	"math"
	"math/rand"
	"slices"
	"testing"

	"armillary/api"
	"armillary/walk"
)

// space is nodes, how far they are, what it tells to be near them, and which were gone to.
type space struct {
	far  map[uint64]uint64
	near map[uint64][]uint64
	gone []uint64
}

func (s *space) Near(key uint64) []uint64 {
	s.gone = append(s.gone, key)
	return s.near[key]
}

func (s *space) Far(key uint64) (uint64, bool) {
	far, there := s.far[key]
	return far, there
}

// spaceOf has nodes 1, 2 .. so far, and these edges, from both sides.
func spaceOf(fars []uint64, edges ...[2]uint64) *space {
	s := &space{far: map[uint64]uint64{}, near: map[uint64][]uint64{}}
	for i, far := range fars {
		s.far[uint64(i+1)] = far
	}
	for _, e := range edges {
		s.near[e[0]] = append(s.near[e[0]], e[1])
		s.near[e[1]] = append(s.near[e[1]], e[0])
	}
	return s
}

// row has nodes 1, 2 .. so far, each joined with the next one.
func row(fars ...uint64) *space {
	var edges [][2]uint64
	for i := 1; i < len(fars); i++ {
		edges = append(edges, [2]uint64{uint64(i), uint64(i + 1)})
	}
	return spaceOf(fars, edges...)
}

// told is hits as a walk tells them.
func told(hits ...[2]uint64) []api.Hit {
	var l []api.Hit
	for _, h := range hits {
		l = append(l, api.Hit{ID: h[0], Dist: h[1]})
	}
	return l
}

// keys is the first node, the next one .. of so many.
func keys(count int) []uint64 {
	var l []uint64
	for i := range count {
		l = append(l, uint64(i+1))
	}
	return l
}

func same(a, b []api.Hit) bool {
	return slices.EqualFunc(a, b, func(x, y api.Hit) bool {
		return x.ID == y.ID && x.Dist == y.Dist && len(x.Vec) == 0 && len(y.Vec) == 0
	})
}

// mustTell holds a walk's best, how many nodes it went to, and which, against what is wanted.
func mustTell(t *testing.T, s *space, ef int, from []uint64, best []api.Hit, gone ...uint64) {
	t.Helper()
	s.gone = nil
	hits, count := walk.Run(s, ef, from...)
	if !same(hits, best) || count != len(gone) || !slices.Equal(s.gone, gone) {
		t.Fatalf("with ef %d from %d: %v, having gone to %d (%d), want %v, %d", ef, from, hits, s.gone, count, best, gone)
	}
}

func TestExample(t *testing.T) {
	mustTell(t, row(9, 4, 1), 1, []uint64{1}, told([2]uint64{3, 1}), 1, 2, 3)
}

func TestEf(t *testing.T) {
	s := row(9, 4, 1)
	from := []uint64{1}
	all := told([2]uint64{3, 1}, [2]uint64{2, 4}, [2]uint64{1, 9})
	for _, ef := range []int{0, -1, api.MaxEf + 1, math.MinInt, math.MaxInt} {
		mustTell(t, s, ef, from, nil)
		mustTell(t, s, ef, nil, nil)
	}
	mustTell(t, s, 1, from, all[:1], 1, 2, 3)
	mustTell(t, s, 2, from, all[:2], 1, 2, 3)
	for _, ef := range []int{3, 4, 16, api.MaxEf - 1, api.MaxEf} {
		mustTell(t, s, ef, from, all, 1, 2, 3)
	}
}

// panics is a space whose methods panic at one node, and behind a nil pointer.
type panics struct {
	*space
	far, near uint64
}

func (p *panics) Near(key uint64) []uint64 {
	if key == p.near {
		panic("near")
	}
	return p.space.Near(key)
}

func (p *panics) Far(key uint64) (uint64, bool) {
	if key == p.far {
		panic("far")
	}
	return p.space.Far(key)
}

func TestNoSpace(t *testing.T) {
	var none *panics
	for _, s := range []walk.Space{nil, none, (*space)(nil), &panics{}} {
		for _, ef := range []int{-1, 0, 1, api.MaxEf, api.MaxEf + 1} {
			if hits, count := walk.Run(s, ef, 1, 2); len(hits) != 0 || count != 0 {
				t.Fatal("of no space:", hits, count)
			}
			if hits, count := walk.Run(s, ef); len(hits) != 0 || count != 0 {
				t.Fatal("of no space, from none:", hits, count)
			}
		}
	}
}

// TestSpaceThatPanics: it ends no program, and nothing is told.
func TestSpaceThatPanics(t *testing.T) {
	for _, p := range []*panics{{far: 1}, {far: 3}, {near: 1}, {near: 3}} {
		p.space = row(9, 4, 1)
		if hits, count := walk.Run(p, 2, 1); len(hits) != 0 || count != 0 {
			t.Fatal(hits, count)
		}
	}
}

func TestFrom(t *testing.T) {
	s := spaceOf([]uint64{9, 4, 1, 7}, [2]uint64{1, 2})
	far, two := told([2]uint64{1, 9})[0], told([2]uint64{2, 4})[0]
	three, four := told([2]uint64{3, 1})[0], told([2]uint64{4, 7})[0]
	for _, c := range []struct {
		name string
		ef   int
		from []uint64
		best []api.Hit
		gone []uint64
	}{
		{"none", 4, nil, nil, nil},
		{"an empty list", 4, []uint64{}, nil, nil},
		{"one that isn't there", 4, []uint64{5}, nil, nil},
		{"many that aren't there", 4, []uint64{0, 5, math.MaxUint64}, nil, nil},
		{"one without edges", 4, []uint64{3}, []api.Hit{three}, []uint64{3}},
		{"one with an edge", 4, []uint64{1}, []api.Hit{two, far}, []uint64{1, 2}},
		{"some that aren't there", 4, []uint64{5, 4, 0, 3, 99}, []api.Hit{three, four}, []uint64{3, 4}},
		{"twice", 4, []uint64{4, 4, 4}, []api.Hit{four}, []uint64{4}},
		{"twice, with others between", 4, []uint64{4, 3, 4, 3}, []api.Hit{three, four}, []uint64{3, 4}},
		{"both ends of an edge", 4, []uint64{1, 2, 1}, []api.Hit{two, far}, []uint64{2, 1}},
		{"all", 4, []uint64{1, 2, 3, 4}, []api.Hit{three, two, four, far}, []uint64{3, 2, 4, 1}},
		{"all, the other way round", 4, []uint64{4, 3, 2, 1}, []api.Hit{three, two, four, far}, []uint64{3, 2, 4, 1}},
		{"more than there is room for", 2, []uint64{1, 2, 3, 4}, []api.Hit{three, two}, []uint64{3, 2}},
		{"more than there is room for, the near ones last", 2, []uint64{1, 4, 2, 3}, []api.Hit{three, two}, []uint64{3, 2}},
		{"a start that is farther than others", 1, []uint64{1, 3}, []api.Hit{three}, []uint64{3}},
		{"a start that is farther than others, last", 1, []uint64{3, 1}, []api.Hit{three}, []uint64{3}},
	} {
		t.Run(c.name, func(t *testing.T) {
			mustTell(t, s, c.ef, c.from, c.best, c.gone...)
		})
	}
}

// TestJustAsFar: of nodes that are as far the one with the least key is nearer.
func TestJustAsFar(t *testing.T) {
	five := []uint64{6, 6, 6, 6, 6}
	all := told([2]uint64{1, 6}, [2]uint64{2, 6}, [2]uint64{3, 6}, [2]uint64{4, 6}, [2]uint64{5, 6})

	alone := spaceOf(five)
	mustTell(t, alone, 5, []uint64{4, 2, 5, 1, 3}, all, 1, 2, 3, 4, 5)
	mustTell(t, alone, 3, []uint64{4, 2, 5, 1, 3}, all[:3], 1, 2, 3)
	mustTell(t, alone, 1, []uint64{2, 1}, all[:1], 1)

	// Both ways from 3, but once the best are full only that of lesser keys.
	both := row(five...)
	mustTell(t, both, 1, []uint64{3}, all[:1], 3, 2, 1)
	mustTell(t, both, 2, []uint64{3}, all[:2], 3, 2, 1)
	mustTell(t, both, 3, []uint64{3}, all[:3], 3, 2, 1)
	mustTell(t, both, 4, []uint64{3}, all[:4], 3, 2, 1, 4)
	mustTell(t, both, 5, []uint64{3}, all, 3, 2, 1, 4, 5)
}

// TestEnd: where the best are full, what is farther than the worst of them is gone to no more.
func TestEnd(t *testing.T) {
	star := [][2]uint64{{1, 2}, {1, 3}, {1, 4}, {2, 5}, {3, 6}, {4, 7}}
	for _, c := range []struct {
		name string
		ef   int
		fars []uint64
		best []api.Hit
		gone []uint64
	}{
		{"the worst is nearer than the next", 1, []uint64{9, 5, 6, 7, 8, 1, 1},
			told([2]uint64{2, 5}), []uint64{1, 2}},
		{"the worst is as near as the next, with a lesser key", 1, []uint64{9, 5, 5, 5, 8, 1, 1},
			told([2]uint64{2, 5}), []uint64{1, 2}},
		{"the worst is the next", 2, []uint64{9, 5, 6, 7, 8, 7, 1},
			told([2]uint64{2, 5}, [2]uint64{3, 6}), []uint64{1, 2, 3}},
		{"the worst is the next, and leads nearer", 2, []uint64{9, 5, 6, 7, 8, 1, 1},
			told([2]uint64{6, 1}, [2]uint64{2, 5}), []uint64{1, 2, 3, 6}},
		{"the best aren't full", 7, []uint64{9, 5, 6, 7, 8, 11, 10},
			told([2]uint64{2, 5}, [2]uint64{3, 6}, [2]uint64{4, 7}, [2]uint64{5, 8}, [2]uint64{1, 9}, [2]uint64{7, 10}, [2]uint64{6, 11}),
			[]uint64{1, 2, 3, 4, 5, 7, 6}},
		{"nothing is nearer than the start", 1, []uint64{2, 3, 4, 5, 1, 1, 1},
			told([2]uint64{1, 2}), []uint64{1}},
		{"nothing is nearer than the start, but there is room", 2, []uint64{2, 3, 4, 5, 1, 1, 1},
			told([2]uint64{5, 1}, [2]uint64{1, 2}), []uint64{1, 2, 5}},
	} {
		t.Run(c.name, func(t *testing.T) {
			mustTell(t, spaceOf(c.fars, star...), c.ef, []uint64{1}, c.best, c.gone...)
		})
	}
}

// TestEndOverNext: what was to be gone to isn't, once nearer ones have filled the best.
func TestEndOverNext(t *testing.T) {
	// 2 and 3 are to be gone to while there is room; what lies behind 2 pushes 3 out.
	s := spaceOf([]uint64{9, 5, 6, 4, 3}, [2]uint64{1, 2}, [2]uint64{1, 3}, [2]uint64{2, 4}, [2]uint64{4, 5})
	mustTell(t, s, 3, []uint64{1}, told([2]uint64{5, 3}, [2]uint64{4, 4}, [2]uint64{2, 5}), 1, 2, 4, 5)
	s.far[3] = 5
	mustTell(t, s, 3, []uint64{1}, told([2]uint64{5, 3}, [2]uint64{4, 4}, [2]uint64{2, 5}), 1, 2, 4, 5)
	mustTell(t, s, 4, []uint64{1}, told([2]uint64{5, 3}, [2]uint64{4, 4}, [2]uint64{2, 5}, [2]uint64{3, 5}), 1, 2, 4, 5, 3)
}

// TestAsFarAsTheWorst: a node that is as far as the worst of the full best is nearer if its key is less.
func TestAsFarAsTheWorst(t *testing.T) {
	for _, c := range []struct {
		start, end uint64
		put        bool
	}{
		{5, 4, true}, {5, 6, false}, {5, 0, true}, {5, math.MaxUint64, false},
		{math.MaxUint64, math.MaxUint64 - 1, true}, {0, 1, false},
	} {
		for _, far := range []uint64{0, 3, math.MaxUint64} {
			s := &space{
				far:  map[uint64]uint64{c.start: far, c.end: far},
				near: map[uint64][]uint64{c.start: {c.end}},
			}
			if c.put {
				mustTell(t, s, 1, []uint64{c.start}, told([2]uint64{c.end, far}), c.start, c.end)
				mustTell(t, s, 2, []uint64{c.start}, told([2]uint64{c.end, far}, [2]uint64{c.start, far}), c.start, c.end)
			} else {
				mustTell(t, s, 1, []uint64{c.start}, told([2]uint64{c.start, far}), c.start)
				mustTell(t, s, 2, []uint64{c.start}, told([2]uint64{c.start, far}, [2]uint64{c.end, far}), c.start, c.end)
			}
		}
	}
}

// TestPushedOutIsSeen: a node that the best had no room for, or that was pushed out, doesn't come again.
func TestPushedOutIsSeen(t *testing.T) {
	s := row(5, 6, 7)
	s.near[1] = []uint64{2, 3}
	mustTell(t, s, 1, []uint64{1}, told([2]uint64{1, 5}), 1)
	mustTell(t, s, 2, []uint64{1}, told([2]uint64{1, 5}, [2]uint64{2, 6}), 1, 2)

	s = row(9, 1, 8)
	s.near[2] = []uint64{1, 3, 1}
	mustTell(t, s, 1, []uint64{1}, told([2]uint64{2, 1}), 1, 2)
	mustTell(t, s, 2, []uint64{1}, told([2]uint64{2, 1}, [2]uint64{3, 8}), 1, 2, 3)
}

// TestOddSpaces: what a space tells to be near may be not there, come twice, be the node itself, or be told from one side.
func TestOddSpaces(t *testing.T) {
	for _, c := range []struct {
		name string
		near map[uint64][]uint64
		ef   int
		best []api.Hit
		gone []uint64
	}{
		{"not there", map[uint64][]uint64{1: {0, 9, 2, math.MaxUint64}, 2: {9}}, 9,
			told([2]uint64{2, 4}, [2]uint64{1, 9}), []uint64{1, 2}},
		{"not there, and leads further", map[uint64][]uint64{1: {9}, 9: {2}}, 9,
			told([2]uint64{1, 9}), []uint64{1}},
		{"twice", map[uint64][]uint64{1: {2, 2, 3, 2, 3}, 2: {3, 3}}, 9,
			told([2]uint64{3, 1}, [2]uint64{2, 4}, [2]uint64{1, 9}), []uint64{1, 3, 2}},
		{"itself", map[uint64][]uint64{1: {1, 2, 1}, 2: {2}}, 9,
			told([2]uint64{2, 4}, [2]uint64{1, 9}), []uint64{1, 2}},
		{"itself alone", map[uint64][]uint64{1: {1}}, 1,
			told([2]uint64{1, 9}), []uint64{1}},
		{"from one side", map[uint64][]uint64{1: {2}, 2: {3}}, 9,
			told([2]uint64{3, 1}, [2]uint64{2, 4}, [2]uint64{1, 9}), []uint64{1, 2, 3}},
		{"from the other side", map[uint64][]uint64{2: {1}, 3: {2, 1}}, 9,
			told([2]uint64{1, 9}), []uint64{1}},
		{"falling", map[uint64][]uint64{1: {4, 3, 2}}, 9,
			told([2]uint64{3, 1}, [2]uint64{2, 4}, [2]uint64{4, 4}, [2]uint64{1, 9}), []uint64{1, 3, 2, 4}},
	} {
		t.Run(c.name, func(t *testing.T) {
			s := spaceOf([]uint64{9, 4, 1, 4})
			s.near = c.near
			mustTell(t, s, c.ef, []uint64{1}, c.best, c.gone...)
		})
	}
}

// TestOrderOfNear: what is near is taken one by one, the last as well as the first.
func TestOrderOfNear(t *testing.T) {
	// With 2 first, 3 isn't to be gone to; with 3 first it is, but 2 ends the walk ahead of it.
	for _, near := range [][]uint64{{2, 3}, {3, 2}} {
		s := spaceOf([]uint64{9, 1, 4, 0}, [2]uint64{3, 4})
		s.near[1] = near
		mustTell(t, s, 1, []uint64{1}, told([2]uint64{2, 1}), 1, 2)
	}
}

// TestRingsAndParts: all to which there is a way are told where there is room, and none else.
func TestRingsAndParts(t *testing.T) {
	s := spaceOf([]uint64{8, 6, 4, 6, 1, 2, 0},
		[2]uint64{1, 2}, [2]uint64{2, 3}, [2]uint64{3, 4}, [2]uint64{4, 1}, // a ring
		[2]uint64{5, 6}) // another part; 7 is alone
	ring := told([2]uint64{3, 4}, [2]uint64{2, 6}, [2]uint64{4, 6}, [2]uint64{1, 8})
	pair := told([2]uint64{5, 1}, [2]uint64{6, 2})
	for _, ef := range []int{4, 7, api.MaxEf} {
		mustTell(t, s, ef, []uint64{1}, ring, 1, 2, 3, 4)
		mustTell(t, s, ef, []uint64{3}, ring, 3, 2, 4, 1)
	}
	mustTell(t, s, 3, []uint64{1}, ring[:3], 1, 2, 3, 4)
	mustTell(t, s, 2, []uint64{1}, ring[:2], 1, 2, 3)
	mustTell(t, s, 7, []uint64{6}, pair, 6, 5)
	mustTell(t, s, 7, []uint64{7}, told([2]uint64{7, 0}), 7)
	mustTell(t, s, 7, []uint64{1, 6}, slices.Concat(pair, ring), 6, 5, 1, 2, 3, 4)
	mustTell(t, s, 7, []uint64{7, 1, 5}, slices.Concat(told([2]uint64{7, 0}), pair, ring), 7, 5, 6, 1, 2, 3, 4)
}

// TestHills: with room for all a walk goes over any hill, with room for one less it needn't.
func TestHills(t *testing.T) {
	s := row(3, 9, 9, 9, 1)
	all := told([2]uint64{5, 1}, [2]uint64{1, 3}, [2]uint64{2, 9}, [2]uint64{3, 9}, [2]uint64{4, 9})
	mustTell(t, s, 5, []uint64{1}, all, 1, 2, 3, 4, 5)
	mustTell(t, s, 4, []uint64{1}, all[:4], 1, 2, 3, 4, 5)
	mustTell(t, s, 3, []uint64{1}, told([2]uint64{1, 3}, [2]uint64{2, 9}, [2]uint64{3, 9}), 1, 2, 3)
	mustTell(t, s, 1, []uint64{1}, told([2]uint64{1, 3}), 1)
}

// plain is the walk, told as plainly as may be.
func plain(s *space, ef int, from []uint64) (best []api.Hit, gone []uint64) {
	order := func(a, b api.Hit) int {
		if a.Dist < b.Dist || a.Dist == b.Dist && a.ID < b.ID {
			return -1
		}
		return 1
	}
	var seen []uint64
	var next []api.Hit
	put := func(hit api.Hit) {
		best = append(best, hit)
		slices.SortFunc(best, order)
		best = best[:min(len(best), ef)]
		next = append(next, hit)
		slices.SortFunc(next, order)
	}
	see := func(key uint64) (api.Hit, bool) {
		far, there := s.far[key]
		if !there || slices.Contains(seen, key) {
			return api.Hit{}, false
		}
		seen = append(seen, key)
		return api.Hit{ID: key, Dist: far}, true
	}
	for _, key := range from {
		if hit, fresh := see(key); fresh {
			put(hit)
		}
	}
	for len(next) > 0 {
		here := next[0]
		next = next[1:]
		if len(best) == ef && order(best[ef-1], here) < 0 && best[ef-1].ID != here.ID {
			break
		}
		gone = append(gone, here.ID)
		for _, key := range s.near[here.ID] {
			if hit, fresh := see(key); fresh && (len(best) < ef || order(hit, best[ef-1]) < 0) {
				put(hit)
			}
		}
	}
	return best, gone
}

// someSpace is a space at random, with edges that are told from one side and to nodes that aren't there.
func someSpace(r *rand.Rand, nodes int) *space {
	s := &space{far: map[uint64]uint64{}, near: map[uint64][]uint64{}}
	for key := range uint64(nodes) {
		s.far[key] = uint64(r.Intn(nodes))
		for range r.Intn(4) {
			s.near[key] = append(s.near[key], uint64(r.Intn(nodes+1)))
		}
	}
	return s
}

func TestAgainstModel(t *testing.T) {
	r := rand.New(rand.NewSource(10))
	for range 3000 {
		nodes := 1 + r.Intn(30)
		s := someSpace(r, nodes)
		var from []uint64
		for range r.Intn(4) {
			from = append(from, uint64(r.Intn(nodes+1)))
		}
		ef := 1 + r.Intn(nodes+2)
		best, gone := plain(s, ef, from)
		mustTell(t, s, ef, from, best, gone...)
	}
}

// reached is all nodes to which there is a way from these.
func reached(s *space, from []uint64) []uint64 {
	var l []uint64
	for _, key := range from {
		if _, there := s.far[key]; there && !slices.Contains(l, key) {
			l = append(l, key)
		}
	}
	for i := 0; i < len(l); i++ {
		for _, key := range s.near[l[i]] {
			if _, there := s.far[key]; there && !slices.Contains(l, key) {
				l = append(l, key)
			}
		}
	}
	slices.Sort(l)
	return l
}

// TestRoomForAll: with ef at the number of nodes, or more, all to which there is a way are told, in order, and gone to.
func TestRoomForAll(t *testing.T) {
	r := rand.New(rand.NewSource(11))
	for range 1000 {
		nodes := 1 + r.Intn(40)
		s := someSpace(r, nodes)
		from := []uint64{uint64(r.Intn(nodes)), uint64(r.Intn(nodes))}
		for _, ef := range []int{nodes, nodes + 1, api.MaxEf} {
			hits, count := walk.Run(s, ef, from...)
			var got []uint64
			for i, hit := range hits {
				got = append(got, hit.ID)
				if hit.Dist != s.far[hit.ID] || i > 0 && hits[i-1].Dist > hit.Dist {
					t.Fatal("not as far, or out of order:", hits)
				}
			}
			slices.Sort(got)
			if want := reached(s, from); !slices.Equal(got, want) || count != len(want) {
				t.Fatalf("from %d: %d, having gone to %d, want %d", from, got, count, want)
			}
		}
	}
}

// TestOneLess: with room for one less than there are nodes, all but the farthest are told where each is a start.
func TestOneLess(t *testing.T) {
	s := row(4, 2, 5, 3, 1)
	all := told([2]uint64{5, 1}, [2]uint64{2, 2}, [2]uint64{4, 3}, [2]uint64{1, 4}, [2]uint64{3, 5})
	mustTell(t, s, 5, keys(5), all, 5, 2, 4, 1, 3)
	mustTell(t, s, 4, keys(5), all[:4], 5, 2, 4, 1)
	mustTell(t, s, 4, []uint64{1}, told([2]uint64{5, 1}, [2]uint64{2, 2}, [2]uint64{4, 3}, [2]uint64{1, 4}), 1, 2, 3, 4, 5)
	mustTell(t, s, 3, []uint64{1}, told([2]uint64{5, 1}, [2]uint64{2, 2}, [2]uint64{4, 3}), 1, 2, 3, 4, 5)
	mustTell(t, s, 2, []uint64{1}, told([2]uint64{2, 2}, [2]uint64{1, 4}), 1, 2)
}

// TestFull: as many best as there may be at all.
func TestFull(t *testing.T) {
	var fars []uint64
	for i := range uint64(api.MaxEf + 1) {
		fars = append(fars, i)
	}
	s := row(fars...)
	var all []api.Hit
	for i, far := range fars {
		all = append(all, api.Hit{ID: uint64(i + 1), Dist: far})
	}
	mustTell(t, s, api.MaxEf, []uint64{1}, all[:api.MaxEf], keys(api.MaxEf)...)
	mustTell(t, s, api.MaxEf-1, []uint64{1}, all[:api.MaxEf-1], keys(api.MaxEf-1)...)
	mustTell(t, s, api.MaxEf, keys(api.MaxEf+1), all[:api.MaxEf], keys(api.MaxEf)...)
}

// TestMany: a long way, and many starts.
func TestMany(t *testing.T) {
	const many = 100000
	var fars []uint64
	for i := range uint64(many) {
		fars = append(fars, math.MaxUint64-i)
	}
	s := row(fars...)
	mustTell(t, s, 1, []uint64{1}, told([2]uint64{many, math.MaxUint64 - many + 1}), keys(many)...)
	mustTell(t, s, 1, keys(many), told([2]uint64{many, math.MaxUint64 - many + 1}), many)

	s.near = nil
	hits, count := walk.Run(s, api.MaxEf, slices.Concat(keys(many), keys(many))...)
	if len(hits) != api.MaxEf || count != api.MaxEf || hits[0].ID != many || hits[api.MaxEf-1].ID != many-api.MaxEf+1 {
		t.Fatal(len(hits), count, hits[0])
	}
}

// TestArgumentsStay: neither the list of starts nor what a space tells is changed, their spare room neither.
func TestArgumentsStay(t *testing.T) {
	s := spaceOf([]uint64{9, 4, 1, 7})
	near := []uint64{3, 2, 3, 4, 77, 78}
	s.near[1] = near[:4]
	from := []uint64{1, 5, 1, 88, 89}
	mustTell(t, s, 2, from[:3], told([2]uint64{3, 1}, [2]uint64{2, 4}), 1, 3, 2)
	if !slices.Equal(near, []uint64{3, 2, 3, 4, 77, 78}) || !slices.Equal(from, []uint64{1, 5, 1, 88, 89}) {
		t.Fatal("an argument was changed:", near, from)
	}
}

// TestAnswersAreNew: an answer that is written over, with its spare room, is seen in no other.
func TestAnswersAreNew(t *testing.T) {
	s := row(9, 4, 1)
	first, _ := walk.Run(s, 2, 1)
	second, _ := walk.Run(s, 2, 1)
	first = first[:cap(first)]
	for i := range first {
		first[i] = api.Hit{ID: 77, Dist: 77, Vec: []int32{77}}
	}
	want := told([2]uint64{3, 1}, [2]uint64{2, 4})
	if !same(second, want) {
		t.Fatal("two answers share memory:", second)
	}
	mustTell(t, s, 2, []uint64{1}, want, 1, 2, 3)
}

// within is a space that walks through another one whenever it is asked.
type within struct {
	*space
	t *testing.T
}

func (w *within) Far(key uint64) (uint64, bool) {
	mustTell(w.t, row(9, 4, 1), 1, []uint64{1}, told([2]uint64{3, 1}), 1, 2, 3)
	return w.space.Far(key)
}

// TestWalksAreApart: a walk in the midst of another one.
func TestWalksAreApart(t *testing.T) {
	s := &within{space: row(9, 4, 1, 8), t: t}
	hits, count := walk.Run(s, 2, 4)
	if want := told([2]uint64{3, 1}, [2]uint64{2, 4}); !same(hits, want) || count != 3 {
		t.Fatal(hits, count)
	}
}
