package maze_test

import (
	"math"
	"math/rand"
	"slices"
	"testing"

	"armillary/api"
	"armillary/maze"
)

// edge is two nodes that are joined.
type edge struct{ a, b uint64 }

// model is a maze as the chapter tells it, told as plainly as may be: nodes as they were put, and each edge once.
type model struct {
	keys         []uint64
	vecs         map[uint64][]int32
	needed, soft []edge
}

// node is a key and its vector, to be put.
type node struct {
	key uint64
	v   []int32
}

// line is nodes 1, 2 .. of one number each.
func line(places ...int32) []node {
	var l []node
	for i, place := range places {
		l = append(l, node{uint64(i + 1), []int32{place}})
	}
	return l
}

// must stops the test if e isn't want.
func must(t *testing.T, what string, e, want api.Errno) {
	t.Helper()
	if e != want {
		t.Fatalf("%s = %d, want %d", what, e, want)
	}
}

// empty is a maze without nodes, for vectors of dim numbers.
func empty(t *testing.T, dim int) *maze.Maze {
	t.Helper()
	m, e := maze.New(dim)
	must(t, "New", e, api.OK)
	return m
}

// made is a maze, and a model, of these nodes, one by one.
func made(t *testing.T, dim int, nodes ...node) (*maze.Maze, *model) {
	t.Helper()
	m, want := empty(t, dim), &model{}
	for _, n := range nodes {
		must(t, "Put", m.Put(n.key, n.v), api.OK)
		want.put(n.key, n.v)
	}
	mustHold(t, m, want)
	return m, want
}

// apart is the sum of the squares of the differences.
func apart(a, b []int32) uint64 {
	var sum uint64
	for i := range a {
		sum += uint64((int64(a[i]) - int64(b[i])) * (int64(a[i]) - int64(b[i])))
	}
	return sum
}

// order is which of two hits is nearer.
func order(a, b api.Hit) int {
	if a.Dist < b.Dist || a.Dist == b.Dist && a.ID < b.ID {
		return -1
	}
	return 1
}

// ends is to which nodes these edges lead from one, rising.
func ends(l []edge, key uint64) []uint64 {
	var keys []uint64
	for _, e := range l {
		switch key {
		case e.a:
			keys = append(keys, e.b)
		case e.b:
			keys = append(keys, e.a)
		}
	}
	slices.Sort(keys)
	return keys
}

// seen is nodes as hits from a vector, the nearest first.
func (m *model) seen(from []int32, keys []uint64) []api.Hit {
	var l []api.Hit
	for _, key := range keys {
		l = append(l, api.Hit{ID: key, Dist: apart(m.vecs[key], from), Vec: m.vecs[key]})
	}
	slices.SortFunc(l, order)
	return l
}

func (m *model) near(key uint64) []uint64 {
	return ends(slices.Concat(m.needed, m.soft), key)
}

// find is the walk from the entry to v.
func (m *model) find(v []int32, ef int) (best []api.Hit, gone int) {
	if len(m.keys) == 0 {
		return nil, 0
	}
	known := m.keys[:1:1]
	best = m.seen(v, known)
	next := slices.Clone(best)
	for len(next) > 0 {
		here := next[0]
		if len(best) == ef && best[ef-1].ID != here.ID && order(best[ef-1], here) < 0 {
			break
		}
		gone++
		next = next[1:]
		for _, key := range m.near(here.ID) {
			if slices.Contains(known, key) {
				continue
			}
			known = append(known, key)
			hit := m.seen(v, []uint64{key})[0]
			if len(best) < ef || order(hit, best[ef-1]) < 0 {
				best = append(best, hit)
				slices.SortFunc(best, order)
				best = best[:min(len(best), ef)]
				next = append(next, hit)
				slices.SortFunc(next, order)
			}
		}
	}
	return best, gone
}

func (m *model) put(key uint64, v []int32) {
	nearest, _ := m.find(v, 16)
	m.keys = append(slices.Clone(m.keys), key)
	if m.vecs == nil {
		m.vecs = map[uint64][]int32{}
	}
	m.vecs[key] = slices.Clone(v)
	nearest = nearest[:min(len(nearest), 4)]
	for i, hit := range nearest {
		if i == 0 {
			m.needed = append(m.needed, edge{key, hit.ID})
		} else {
			m.soft = append(m.soft, edge{key, hit.ID})
		}
	}
	for _, hit := range nearest {
		for len(ends(m.soft, hit.ID)) > 4 {
			others := m.seen(hit.Vec, ends(m.soft, hit.ID))
			m.cut(hit.ID, others[len(others)-1].ID)
		}
	}
}

func (m *model) cut(a, b uint64) {
	m.soft = slices.DeleteFunc(m.soft, func(e edge) bool { return e == edge{a, b} || e == edge{b, a} })
}

// dim is of how many numbers the vectors are.
func (m *model) dim() int {
	return len(m.vecs[m.keys[0]])
}

func sameHits(a, b []api.Hit) bool {
	return slices.EqualFunc(a, b, func(x, y api.Hit) bool {
		return x.ID == y.ID && x.Dist == y.Dist && slices.Equal(x.Vec, y.Vec)
	})
}

// mustFind holds a Find against the model's.
func mustFind(t *testing.T, m *maze.Maze, want *model, v []int32, ef int) {
	t.Helper()
	hits, gone, e := m.Find(v, ef)
	best, count := want.find(v, ef)
	if !sameHits(hits, best) || gone != count || e != api.OK {
		t.Fatalf("Find(%d, %d) = %v, %d, %d, want %v, %d", v, ef, hits, gone, e, best, count)
	}
}

// mustHold holds all that a maze tells against what the model tells.
func mustHold(t *testing.T, m *maze.Maze, want *model) {
	t.Helper()
	keys := slices.Sorted(slices.Values(want.keys))
	if got := m.Keys(); !slices.Equal(got, keys) || m.Len() != len(keys) {
		t.Fatalf("Keys() = %d, Len() = %d, want %d", got, m.Len(), keys)
	}
	entry, there := m.Entry()
	if there != (len(keys) > 0) || there && entry != want.keys[0] || !there && entry != 0 {
		t.Fatalf("Entry() = %d, %t, of %d", entry, there, want.keys)
	}
	asked := []uint64{0, math.MaxUint64}
	for _, key := range keys {
		asked = append(asked, key, key+1)
	}
	for _, key := range asked {
		mustHoldNode(t, m, want, key, keys)
	}
	if len(keys) > 0 {
		for _, ef := range []int{1, 3, 16, api.MaxEf} {
			mustFind(t, m, want, make([]int32, want.dim()), ef)
		}
	}
}

// mustHoldNode holds what a maze tells of one key against what the model tells.
func mustHoldNode(t *testing.T, m *maze.Maze, want *model, key uint64, keys []uint64) {
	t.Helper()
	v, there := m.Vec(key)
	known := slices.Contains(keys, key)
	if there != known || m.Has(key) != known || !slices.Equal(v, want.vecs[key]) {
		t.Fatalf("Vec(%d) = %d, %t, Has: %t, want %d", key, v, there, m.Has(key), want.vecs[key])
	}
	if got := m.Near(key); !slices.Equal(got, want.near(key)) {
		t.Fatalf("Near(%d) = %d, want %d", key, got, want.near(key))
	}
	if got := m.Soft(key); !slices.Equal(got, ends(want.soft, key)) || len(got) > api.MaxLinks {
		t.Fatalf("Soft(%d) = %d, want %d", key, got, ends(want.soft, key))
	}
	if !known {
		keys = nil
	}
	if got := m.Reach(key); !slices.Equal(got, keys) {
		t.Fatalf("Reach(%d) = %d, want %d", key, got, keys)
	}
}

// mustJoin holds the edges of nodes 1, 2 .. of a maze against what is wanted.
func mustJoin(t *testing.T, m *maze.Maze, near, soft [][]uint64) {
	t.Helper()
	for i := range near {
		key := uint64(i + 1)
		if got := m.Near(key); !slices.Equal(got, near[i]) {
			t.Errorf("Near(%d) = %d, want %d", key, got, near[i])
		}
		if got := m.Soft(key); !slices.Equal(got, soft[i]) {
			t.Errorf("Soft(%d) = %d, want %d", key, got, soft[i])
		}
	}
	if m.Len() != len(near) {
		t.Errorf("Len() = %d, want %d", m.Len(), len(near))
	}
}

func TestExample(t *testing.T) {
	m, _ := made(t, 1, line(0, 5, 9)...)
	hits, gone, e := m.Find([]int32{8}, 1)
	if !sameHits(hits, []api.Hit{{ID: 3, Dist: 1, Vec: []int32{9}}}) || gone != 2 || e != api.OK {
		t.Fatal(hits, gone, e)
	}
}

func TestNew(t *testing.T) {
	for _, dim := range []int{math.MinInt, -1, 0, api.MaxDim + 1, math.MaxInt} {
		if m, e := maze.New(dim); m != nil || e != api.ErrArg {
			t.Fatalf("New(%d) = %v, %d", dim, m, e)
		}
	}
	for dim := 1; dim <= api.MaxDim; dim++ {
		m, want := made(t, dim)
		for _, wrong := range []int{0, dim - 1, dim + 1} {
			must(t, "Put", m.Put(1, make([]int32, wrong)), api.ErrForm)
		}
		mustHold(t, m, want)
		must(t, "Put", m.Put(1, make([]int32, dim)), api.OK)
		want.put(1, make([]int32, dim))
		mustHold(t, m, want)
	}
}

// wrong is vectors that a maze of dim 2 refuses.
func wrong() [][]int32 {
	return [][]int32{
		nil, {}, {1}, {1, 2, 3}, make([]int32, api.MaxDim), make([]int32, api.MaxDim+1),
		{api.MaxCoord + 1, 0}, {0, -api.MaxCoord - 1}, {math.MaxInt32, math.MinInt32},
	}
}

func TestPutErrors(t *testing.T) {
	for _, nodes := range [][]node{nil, {{5, []int32{1, 1}}}, {{5, []int32{1, 1}}, {0, []int32{2, 2}}}} {
		m, want := made(t, 2, nodes...)
		for _, v := range wrong() {
			must(t, "Put of a wrong vector", m.Put(7, v), api.ErrForm)
			for _, n := range nodes {
				must(t, "Put of a wrong vector with a key that is there", m.Put(n.key, v), api.ErrForm)
			}
		}
		for _, n := range nodes {
			must(t, "Put of a key that is there", m.Put(n.key, []int32{3, 4}), api.ErrExists)
			must(t, "Put of what is there", m.Put(n.key, n.v), api.ErrExists)
		}
		mustHold(t, m, want)
	}
}

func TestPutEdgeVectors(t *testing.T) {
	const most = api.MaxCoord
	nodes := []node{
		{0, []int32{most, most}}, {math.MaxUint64, []int32{-most, -most}}, {api.MaxID + 1, []int32{most, -most}},
		{3, []int32{0, 0}}, {4, []int32{0, 0}}, {5, []int32{-most, most}}, {6, []int32{most - 1, most}},
	}
	m, want := made(t, 2, nodes...)
	for _, n := range nodes {
		mustFind(t, m, want, n.v, 1)
		mustFind(t, m, want, n.v, len(nodes))
	}

	top, bottom := make([]int32, api.MaxDim), make([]int32, api.MaxDim)
	for i := range top {
		top[i], bottom[i] = most, -most
	}
	m, want = made(t, api.MaxDim, node{1, top}, node{2, bottom})
	mustFind(t, m, want, top, 2)
	hits, _, _ := m.Find(bottom, 2)
	if hits[1].Dist != 8<<58 {
		t.Fatal(hits)
	}
}

// TestFirstNodes: the first has no edges, the second one, and up to the fifth each is joined with all others.
func TestFirstNodes(t *testing.T) {
	nodes := line(10, 20, 14, 30, 12, 11)
	m, _ := made(t, 1, nodes[:1]...)
	mustJoin(t, m, [][]uint64{nil}, [][]uint64{nil})
	m, _ = made(t, 1, nodes[:2]...)
	mustJoin(t, m, [][]uint64{{2}, {1}}, [][]uint64{nil, nil})
	m, _ = made(t, 1, nodes[:3]...) // 3 needs 1
	mustJoin(t, m, [][]uint64{{2, 3}, {1, 3}, {1, 2}}, [][]uint64{nil, {3}, {2}})
	m, _ = made(t, 1, nodes[:4]...) // 4 needs 2
	mustJoin(t, m,
		[][]uint64{{2, 3, 4}, {1, 3, 4}, {1, 2, 4}, {1, 2, 3}},
		[][]uint64{{4}, {3}, {2, 4}, {1, 3}})
	m, _ = made(t, 1, nodes[:5]...) // 1 and 3 are as far from 5: it needs 1
	mustJoin(t, m,
		[][]uint64{{2, 3, 4, 5}, {1, 3, 4, 5}, {1, 2, 4, 5}, {1, 2, 3, 5}, {1, 2, 3, 4}},
		[][]uint64{{4}, {3, 5}, {2, 4, 5}, {1, 3, 5}, {2, 3, 4}})
	m, _ = made(t, 1, nodes...) // 6 needs 1, and has soft edges with 5, 3 and 2, but none with 4
	mustJoin(t, m,
		[][]uint64{{2, 3, 4, 5, 6}, {1, 3, 4, 5, 6}, {1, 2, 4, 5, 6}, {1, 2, 3, 5}, {1, 2, 3, 4, 6}, {1, 2, 3, 5}},
		[][]uint64{{4}, {3, 5, 6}, {2, 4, 5, 6}, {1, 3, 5}, {2, 3, 4, 6}, {2, 3, 5}})
}

// seven is nodes of which 1, 2 and 3 have as many soft edges as they may.
func seven() []node {
	return line(50, 100, 101, 102, 103, 0, -1)
}

func TestSeven(t *testing.T) {
	m, _ := made(t, 1, seven()...)
	mustJoin(t, m,
		[][]uint64{{2, 3, 4, 5, 6, 7}, {1, 3, 4, 5, 6, 7}, {1, 2, 4, 5, 6, 7}, {1, 2, 3, 5, 6}, {1, 2, 3, 4}, {1, 2, 3, 4, 7}, {1, 2, 3, 6}},
		[][]uint64{{3, 4, 5, 7}, {4, 5, 6, 7}, {1, 5, 6, 7}, {1, 2, 6}, {1, 2, 3}, {2, 3, 4}, {1, 2, 3}})
}

// TestCut: the farthest soft edge goes, an earlier one or the new one.
func TestCut(t *testing.T) {
	m, want := made(t, 1, seven()...)
	must(t, "Put", m.Put(8, []int32{-2}), api.OK)
	want.put(8, []int32{-2})
	mustHold(t, m, want)
	// 8 needs 7, and finds 6, 1 and 2. 1 is farthest from 5, and cuts that edge; 2 is farthest from 8 itself.
	mustJoin(t, m,
		[][]uint64{{2, 3, 4, 6, 7, 8}, {1, 3, 4, 5, 6, 7}, {1, 2, 4, 5, 6, 7}, {1, 2, 3, 5, 6}, {2, 3, 4}, {1, 2, 3, 4, 7, 8}, {1, 2, 3, 6, 8}, {1, 6, 7}},
		[][]uint64{{3, 4, 7, 8}, {4, 5, 6, 7}, {1, 5, 6, 7}, {1, 2, 6}, {2, 3}, {2, 3, 4, 8}, {1, 2, 3}, {1, 6}})
}

// TestCutJustAsFar: of two that are as far that of the greater key goes.
func TestCutJustAsFar(t *testing.T) {
	for _, c := range []struct {
		key  uint64
		soft []uint64 // of node 1, from which 5 and the new one are as far
	}{
		{8, []uint64{3, 4, 5, 7}},
		{math.MaxUint64, []uint64{3, 4, 5, 7}},
		{0, []uint64{0, 3, 4, 7}},
	} {
		m, want := made(t, 1, seven()...)
		must(t, "Put", m.Put(c.key, []int32{-3}), api.OK)
		want.put(c.key, []int32{-3})
		mustHold(t, m, want)
		if got := m.Soft(1); !slices.Equal(got, c.soft) {
			t.Fatalf("with %d: Soft(1) = %d, want %d", c.key, got, c.soft)
		}
	}
}

// TestNeededStays: an edge that is needed isn't cut, however long it is, and counts for none of the soft ones.
func TestNeededStays(t *testing.T) {
	m, want := made(t, 1, line(0, 1000, 1, 2, 3, 4, 2)...)
	if near, soft := m.Near(1), m.Soft(1); !slices.Equal(near, []uint64{2, 3, 4, 5, 6, 7}) || !slices.Equal(soft, []uint64{4, 5, 6, 7}) {
		t.Fatal(near, soft)
	}
	must(t, "Put", m.Put(8, []int32{1}), api.OK)
	want.put(8, []int32{1})
	mustHold(t, m, want)
	if near, soft := m.Near(1), m.Soft(1); !slices.Equal(near, []uint64{2, 3, 4, 5, 7, 8}) || !slices.Equal(soft, []uint64{4, 5, 7, 8}) {
		t.Fatal(near, soft)
	}
}

// TestStar: one node that all others need.
func TestStar(t *testing.T) {
	nodes := []node{{100, []int32{0, 0}}}
	for i := range uint64(60) {
		v := []int32{1000, int32(i) - 30} // far from the first, and from the earlier ones still farther
		switch i % 4 {
		case 1:
			v = []int32{-1000, int32(i) - 30}
		case 2:
			v = []int32{int32(i) - 30, 1000}
		case 3:
			v = []int32{int32(i) - 30, -1000}
		}
		nodes = append(nodes, node{i, v})
	}
	made(t, 2, nodes...)

	same := []node{{7, []int32{5}}}
	for i := range uint64(60) {
		same = append(same, node{100 + i, []int32{5}})
	}
	m, _ := made(t, 1, same...)
	if len(m.Near(7)) != 60 || len(m.Soft(7)) != 0 {
		t.Fatal(m.Near(7), m.Soft(7))
	}
}

func TestEmpty(t *testing.T) {
	m, want := made(t, 3)
	mustHold(t, m, want)
	for _, ef := range []int{1, 16, api.MaxEf} {
		hits, gone, e := m.Find([]int32{1, 2, 3}, ef)
		if len(hits) != 0 || gone != 0 || e != api.OK {
			t.Fatal("Find in an empty maze:", hits, gone, e)
		}
	}
}

func TestVec(t *testing.T) {
	m, _ := made(t, 2, node{5, []int32{1, 2}}, node{0, []int32{-3, 4}})
	for _, c := range []struct {
		key  uint64
		want []int32
	}{{5, []int32{1, 2}}, {0, []int32{-3, 4}}, {1, nil}, {4, nil}, {math.MaxUint64, nil}} {
		if v, there := m.Vec(c.key); !slices.Equal(v, c.want) || there != (c.want != nil) {
			t.Fatalf("Vec(%d) = %d, %t", c.key, v, there)
		}
	}
}

// TestEntry: the first one that was put, whatever its key.
func TestEntry(t *testing.T) {
	for _, keys := range [][]uint64{{7}, {0}, {7, 3, 9}, {3, 7, 9}, {0, 1}, {1, 0}, {math.MaxUint64, 0, 5}} {
		m := empty(t, 1)
		must(t, "Put of a wrong vector", m.Put(4, nil), api.ErrForm)
		for i, key := range keys {
			must(t, "Put", m.Put(key, []int32{int32(i)}), api.OK)
			if got, there := m.Entry(); got != keys[0] || !there {
				t.Fatalf("of %d: Entry() = %d, %t", keys[:i+1], got, there)
			}
		}
	}
}

func TestFindErrors(t *testing.T) {
	efs := []int{math.MinInt, -1, 0, api.MaxEf + 1, math.MaxInt}
	for _, nodes := range [][]node{nil, {{5, []int32{1, 1}}, {6, []int32{2, 2}}}} {
		m, want := made(t, 2, nodes...)
		mustRefuse := func(v []int32, ef int, e api.Errno) {
			t.Helper()
			if hits, gone, got := m.Find(v, ef); len(hits) != 0 || gone != 0 || got != e {
				t.Fatalf("Find(%d, %d) = %v, %d, %d, want %d", v, ef, hits, gone, got, e)
			}
		}
		for _, ef := range efs {
			mustRefuse([]int32{1, 1}, ef, api.ErrArg)
		}
		for _, v := range wrong() {
			mustRefuse(v, 1, api.ErrForm)
			mustRefuse(v, api.MaxEf, api.ErrForm)
			for _, ef := range efs {
				mustRefuse(v, ef, api.ErrArg)
			}
		}
		mustHold(t, m, want)
	}
}

func TestFind(t *testing.T) {
	m, _ := made(t, 1, line(0, 5, 9, 5, -4)...)
	hit := func(id uint64, far uint64, place int32) api.Hit {
		return api.Hit{ID: id, Dist: far, Vec: []int32{place}}
	}
	all := []api.Hit{hit(2, 1, 5), hit(4, 1, 5), hit(3, 9, 9), hit(1, 36, 0), hit(5, 100, -4)}
	for _, c := range []struct{ ef, gone int }{
		// From 1, at which all are near, to 2, than which none is nearer; with room for more to 4, 3, and with room for all to 5.
		{1, 2}, {2, 3}, {3, 4}, {4, 4}, {5, 5}, {6, 5}, {16, 5}, {api.MaxEf, 5},
	} {
		hits, gone, e := m.Find([]int32{6}, c.ef)
		if !sameHits(hits, all[:min(c.ef, 5)]) || gone != c.gone || e != api.OK {
			t.Fatalf("with ef %d: %v, %d, %d, want %d", c.ef, hits, gone, e, c.gone)
		}
	}
}

// someNodes is nodes at random, whose numbers are less than spread, so that some are as far as one another.
func someNodes(r *rand.Rand, dim, count, spread int) []node {
	var l []node
	for _, key := range r.Perm(2 * count)[:count] {
		v := make([]int32, dim)
		for i := range v {
			v[i] = int32(r.Intn(spread) - spread/2)
		}
		l = append(l, node{uint64(key), v})
	}
	return l
}

func TestAgainstModel(t *testing.T) {
	r := rand.New(rand.NewSource(11))
	for range 150 {
		dim := 1 + r.Intn(3)
		m, want := empty(t, dim), &model{}
		for i, n := range someNodes(r, dim, 40, []int{2, 8, 1000}[r.Intn(3)]) {
			must(t, "Put", m.Put(n.key, n.v), api.OK)
			want.put(n.key, n.v)
			if i%8 == 7 {
				mustHold(t, m, want)
			}
			must(t, "Put, once more", m.Put(want.keys[r.Intn(i+1)], n.v), api.ErrExists)
			mustFind(t, m, want, someNodes(r, dim, 1, 8)[0].v, 1+r.Intn(i+2))
		}
		mustHold(t, m, want)
	}
}

// TestAllReached: behind every Put there is a way from the entry to each node, and a Find with room for all tells all, in order.
func TestAllReached(t *testing.T) {
	r := rand.New(rand.NewSource(12))
	for range 40 {
		dim := 1 + r.Intn(4)
		m, known := empty(t, dim), &model{vecs: map[uint64][]int32{}}
		for _, n := range someNodes(r, dim, 60, []int{1, 6, 100000}[r.Intn(3)]) {
			must(t, "Put", m.Put(n.key, n.v), api.OK)
			known.keys = append(known.keys, n.key)
			known.vecs[n.key] = n.v
			entry, _ := m.Entry()
			if got := m.Reach(entry); !slices.Equal(got, m.Keys()) || len(got) != len(known.keys) {
				t.Fatalf("from the entry %d are reached, of %d", got, m.Keys())
			}
			v := someNodes(r, dim, 1, 8)[0].v
			hits, gone, e := m.Find(v, m.Len())
			if !sameHits(hits, known.seen(v, known.keys)) || gone != m.Len() || e != api.OK {
				t.Fatal("not all, or out of order:", hits, gone, e)
			}
		}
	}
}

// TestAsManyAsFound: as many nodes as Find may tell at all, and one more.
func TestAsManyAsFound(t *testing.T) {
	r := rand.New(rand.NewSource(13))
	nodes := someNodes(r, 3, api.MaxEf+1, 100)
	m, want := made(t, 3, nodes[:api.MaxEf]...)
	v := []int32{1, 2, 3}
	hits, gone, e := m.Find(v, api.MaxEf)
	if !sameHits(hits, want.seen(v, want.keys)) || gone != api.MaxEf || e != api.OK {
		t.Fatal(len(hits), gone, e)
	}
	last := nodes[api.MaxEf]
	must(t, "Put", m.Put(last.key, last.v), api.OK)
	want.put(last.key, last.v)
	mustHold(t, m, want)
	hits, _, _ = m.Find(v, api.MaxEf)
	if len(hits) != api.MaxEf {
		t.Fatal(len(hits))
	}
}

// TestMany: very many nodes, each of which is found.
func TestMany(t *testing.T) {
	const many = 3000
	r := rand.New(rand.NewSource(14))
	nodes := someNodes(r, 2, many, 1000000)
	m := empty(t, 2)
	for _, n := range nodes {
		must(t, "Put", m.Put(n.key, n.v), api.OK)
	}
	entry, _ := m.Entry()
	if m.Len() != many || len(m.Reach(entry)) != many || entry != nodes[0].key {
		t.Fatal(m.Len(), len(m.Reach(entry)), entry)
	}
	for _, n := range nodes {
		if len(m.Soft(n.key)) > api.MaxLinks {
			t.Fatal(n.key, m.Soft(n.key))
		}
	}
	hits, gone, e := m.Find(nodes[1].v, api.MaxEf)
	if len(hits) != api.MaxEf || gone < api.MaxEf || gone > many || e != api.OK || hits[0].ID != nodes[1].key {
		t.Fatal(len(hits), gone, e)
	}
}

// rebuilt is what Rebuild is to be: those of keep that there are, by rising keys, each once.
func (m *model) rebuilt(keep []uint64) *model {
	fresh := &model{}
	for _, key := range slices.Compact(slices.Sorted(slices.Values(keep))) {
		if v := m.vecs[key]; v != nil {
			fresh.put(key, v)
		}
	}
	return fresh
}

func TestRebuild(t *testing.T) {
	m, want := made(t, 1, node{30, []int32{0}}, node{10, []int32{5}}, node{20, []int32{9}}, node{0, []int32{7}},
		node{40, []int32{5}}, node{25, []int32{8}}, node{35, []int32{6}}, node{math.MaxUint64, []int32{-4}})
	for _, keep := range [][]uint64{
		nil, {}, {30}, {0}, {math.MaxUint64},
		{1}, {1, 2, 3}, // none of them there
		{10, 20}, {20, 10}, {20, 10, 20, 10, 10}, {10, 11, 20, 21}, {41, 30, 1, 25},
		{30, 10, 20, 0, 40, 25, 35, math.MaxUint64}, // all, as they were put
		{0, 10, 20, 25, 30, 35, 40, math.MaxUint64},
		{math.MaxUint64, 40, 35, 30, 25, 20, 10, 0, 0, 5, 40},
	} {
		fresh, e := m.Rebuild(keep...)
		must(t, "Rebuild", e, api.OK)
		if fresh == m {
			t.Fatal("Rebuild tells the maze itself")
		}
		mustHold(t, fresh, want.rebuilt(keep))
		mustHold(t, m, want)
	}
	mustRebuildEmpty(t)
}

// mustRebuildEmpty: of an empty maze one is made that is as empty, for the same vectors.
func mustRebuildEmpty(t *testing.T) {
	t.Helper()
	m, want := made(t, 2)
	fresh, e := m.Rebuild(1, 2)
	must(t, "Rebuild", e, api.OK)
	mustHold(t, fresh, want)
	must(t, "Put of another dim", fresh.Put(1, []int32{1}), api.ErrForm)
	must(t, "Put", fresh.Put(1, []int32{1, 1}), api.OK)
	mustHold(t, m, want)
}

// TestRebuildAtRandom: also of mazes that were rebuilt themselves.
func TestRebuildAtRandom(t *testing.T) {
	r := rand.New(rand.NewSource(15))
	for range 60 {
		dim := 1 + r.Intn(3)
		m, want := made(t, dim, someNodes(r, dim, 40, []int{3, 1000}[r.Intn(2)])...)
		for range 3 {
			var keep []uint64
			for range 40 {
				keep = append(keep, uint64(r.Intn(80)))
			}
			fresh, e := m.Rebuild(keep...)
			must(t, "Rebuild", e, api.OK)
			mustHold(t, m, want)
			m, want = fresh, want.rebuilt(keep)
			mustHold(t, m, want)
			n := node{uint64(100 + r.Intn(10)), someNodes(r, dim, 1, 10)[0].v}
			must(t, "Put", m.Put(n.key, n.v), api.OK)
			want.put(n.key, n.v)
			mustHold(t, m, want)
		}
	}
}

// TestMazesAreApart: what one maze is told, no other knows, a rebuilt one neither.
func TestMazesAreApart(t *testing.T) {
	nodes := line(0, 5, 9, 4)
	a, wantA := made(t, 1, nodes...)
	b, wantB := made(t, 1, nodes...)
	c, e := a.Rebuild(1, 2, 3, 4)
	must(t, "Rebuild", e, api.OK)
	wantC := wantA.rebuilt([]uint64{1, 2, 3, 4})
	for i, m := range []*maze.Maze{a, b, c} {
		want := []*model{wantA, wantB, wantC}[i]
		n := node{uint64(5 + i), []int32{int32(i)}}
		must(t, "Put", m.Put(n.key, n.v), api.OK)
		want.put(n.key, n.v)
		mustHold(t, a, wantA)
		mustHold(t, b, wantB)
		mustHold(t, c, wantC)
	}
}

// TestArgumentsStay: what is handed in is neither changed nor kept, its spare room neither.
func TestArgumentsStay(t *testing.T) {
	m, want := made(t, 2, node{1, []int32{0, 0}}, node{2, []int32{5, 5}})
	v := []int32{3, 4, 77, 78}
	must(t, "Put", m.Put(3, v[:2]), api.OK)
	want.put(3, v[:2])
	mustFind(t, m, want, v[:2], 3)
	keep := []uint64{3, 1, 3, 2, 99, 98}
	fresh, e := m.Rebuild(keep[:4]...)
	must(t, "Rebuild", e, api.OK)
	again := want.rebuilt(keep[:4])
	if !slices.Equal(v, []int32{3, 4, 77, 78}) || !slices.Equal(keep, []uint64{3, 1, 3, 2, 99, 98}) {
		t.Fatal("an argument was changed:", v, keep)
	}
	clear(v)
	clear(keep)
	mustHold(t, m, want)
	mustHold(t, fresh, again)
}

// scribble writes over a list of numbers, and its spare room.
func scribble[N int32 | uint64](l []N) {
	l = l[:cap(l)]
	for i := range l {
		l[i] = 77
	}
}

// scribbleHits writes over hits and their vectors, with their spare room.
func scribbleHits(hits []api.Hit) {
	hits = hits[:cap(hits)]
	for i := range hits {
		scribble(hits[i].Vec)
		hits[i] = api.Hit{ID: 77, Dist: 77}
	}
}

// TestAnswersAreNew: an answer that is written over is seen neither in the maze, nor in a rebuilt one, nor in another answer.
func TestAnswersAreNew(t *testing.T) {
	m, want := made(t, 1, seven()...)
	fresh, e := m.Rebuild(m.Keys()...)
	must(t, "Rebuild", e, api.OK)
	again := want.rebuilt(want.keys)
	for range 2 {
		for _, o := range []*maze.Maze{m, fresh} {
			v, _ := o.Vec(2)
			other, _ := o.Vec(2)
			scribble(v)
			if !slices.Equal(other, []int32{100}) {
				t.Fatal("two answers of Vec share memory:", other)
			}
			hits, _, _ := o.Find([]int32{8}, 5)
			others, _, _ := o.Find([]int32{8}, 5)
			kept := slices.Clone(others)
			scribbleHits(hits)
			if !sameHits(others, kept) || slices.ContainsFunc(others, func(h api.Hit) bool { return h.Vec[0] == 77 }) {
				t.Fatal("two answers of Find share memory:", others)
			}
			scribble(o.Near(2))
			scribble(o.Soft(2))
			scribble(o.Keys())
			scribble(o.Reach(2))
		}
		mustHold(t, m, want)
		mustHold(t, fresh, again)
	}
}

// TestListsOfOneAnswer: the vectors of one Find share no memory, their spare room neither.
func TestListsOfOneAnswer(t *testing.T) {
	m, want := made(t, 1, line(0, 5, 9, 5)...)
	hits, _, _ := m.Find([]int32{6}, 4)
	best, _ := want.find([]int32{6}, 4)
	for i := range hits {
		_ = append(hits[i].Vec, 55)
		hits[i].Vec[0] = 77
		best[i].Vec = []int32{77}
		if !sameHits(hits, best) {
			t.Fatal("vectors share memory:", hits)
		}
	}
	mustHold(t, m, want)
}

func TestNilMaze(t *testing.T) {
	var m *maze.Maze
	for _, v := range [][]int32{nil, {1}, {api.MaxCoord + 1}, make([]int32, 9)} {
		must(t, "Put", m.Put(1, v), api.ErrNone)
		for _, ef := range []int{-1, 0, 1, api.MaxEf + 1} {
			if hits, gone, e := m.Find(v, ef); len(hits) != 0 || gone != 0 || e != api.ErrNone {
				t.Fatal("Find:", hits, gone, e)
			}
		}
	}
	for _, keep := range [][]uint64{nil, {1}, {1, 1, 2}} {
		if fresh, e := m.Rebuild(keep...); fresh != nil || e != api.ErrNone {
			t.Fatal("Rebuild:", fresh, e)
		}
	}
	mustHold(t, m, &model{})
}
