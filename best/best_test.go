package best_test

import (
	"math"
	"math/rand"
	"reflect"
	"slices"
	"testing"

	"armillary/api"
	"armillary/best"
	"armillary/vec"
)

// made is a List with room for most.
func made(t *testing.T, most int) *best.List {
	t.Helper()
	l, e := best.New(most)
	if l == nil || e != api.OK {
		t.Fatalf("New(%d) = %v, %d", most, l, e)
	}
	return l
}

// at is a hit whose vector tells its ID and how far it is.
func at(id, dist uint64) api.Hit {
	return api.Hit{ID: id, Dist: dist, Vec: []int32{int32(id), int32(dist)}}
}

// mustHold holds all that a List tells against the hits that it should have.
func mustHold(t *testing.T, l *best.List, most int, want ...api.Hit) {
	t.Helper()
	got := l.Hits()
	if len(got) != len(want) || len(want) > 0 && !reflect.DeepEqual(got, want) {
		t.Fatalf("Hits() = %v, want %v", got, want)
	}
	if l.Len() != len(want) || l.Full() != (len(want) == most) {
		t.Fatalf("Len() = %d, Full() = %t, of %d in %d", l.Len(), l.Full(), len(want), most)
	}
	worst, ok := l.Worst()
	if len(want) == 0 {
		if ok || !reflect.DeepEqual(worst, api.Hit{}) {
			t.Fatalf("Worst() = %v, %t, of none", worst, ok)
		}
		return
	}
	if !ok || !reflect.DeepEqual(worst, want[len(want)-1]) {
		t.Fatalf("Worst() = %v, %t, of %v", worst, ok, want)
	}
}

func TestNew(t *testing.T) {
	for _, most := range []int{1, 2, 255, api.MaxEf} {
		mustHold(t, made(t, most), most)
	}
	for _, most := range []int{0, -1, math.MinInt, api.MaxEf + 1, math.MaxInt} {
		if l, e := best.New(most); l != nil || e != api.ErrArg {
			t.Errorf("New(%d) = %v, %d, want ErrArg", most, l, e)
		}
	}
}

func TestAdd(t *testing.T) {
	for _, c := range []struct {
		name  string
		most  int
		hits  []api.Hit
		count int
		want  []api.Hit
	}{
		{"none", 2, nil, 0, nil},
		{"the chapter's", 2, []api.Hit{at(1, 5), at(2, 3), at(3, 4)}, 3, []api.Hit{at(2, 3), at(3, 4)}},
		{"room", 4, []api.Hit{at(1, 5), at(2, 3), at(3, 4)}, 3, []api.Hit{at(2, 3), at(3, 4), at(1, 5)}},
		{"no room, and farther", 2, []api.Hit{at(1, 5), at(2, 3), at(3, 6)}, 2, []api.Hit{at(2, 3), at(1, 5)}},
		{"no room, as far, a greater ID", 2, []api.Hit{at(2, 5), at(1, 3), at(3, 5)}, 2, []api.Hit{at(1, 3), at(2, 5)}},
		{"no room, as far, a lesser ID", 2, []api.Hit{at(3, 5), at(1, 3), at(2, 5)}, 3, []api.Hit{at(1, 3), at(2, 5)}},
		{"as far, by their IDs", 4, []api.Hit{at(3, 5), at(1, 5), at(2, 5)}, 3, []api.Hit{at(1, 5), at(2, 5), at(3, 5)}},
		{"there, and nearer now", 3, []api.Hit{at(1, 5), at(2, 3), at(1, 2)}, 3, []api.Hit{at(1, 2), at(2, 3)}},
		{"there, and a little nearer", 3, []api.Hit{at(1, 5), at(2, 3), at(1, 4)}, 3, []api.Hit{at(2, 3), at(1, 4)}},
		{"there, and farther now", 3, []api.Hit{at(1, 5), at(2, 3), at(2, 4)}, 2, []api.Hit{at(2, 3), at(1, 5)}},
		{"there, and the same", 3, []api.Hit{at(1, 5), at(1, 5)}, 1, []api.Hit{at(1, 5)}},
		{"there, the same, another vector", 3, []api.Hit{at(1, 5), {ID: 1, Dist: 5, Vec: []int32{9}}}, 1, []api.Hit{at(1, 5)}},
		{"there, nearer now, no room", 2, []api.Hit{at(1, 5), at(2, 3), at(2, 1)}, 3, []api.Hit{at(2, 1), at(1, 5)}},
		{"the worst, nearer now, no room", 2, []api.Hit{at(1, 5), at(2, 3), at(1, 4)}, 3, []api.Hit{at(2, 3), at(1, 4)}},
		{"the worst, farther now, no room", 2, []api.Hit{at(1, 5), at(2, 3), at(1, 6)}, 2, []api.Hit{at(2, 3), at(1, 5)}},
		{"one that went comes again", 2, []api.Hit{at(1, 5), at(2, 3), at(3, 4), at(1, 2)}, 4, []api.Hit{at(1, 2), at(2, 3)}},
		{"one that went, farther than then", 2, []api.Hit{at(1, 5), at(2, 8), at(3, 4), at(4, 3), at(1, 6)}, 4, []api.Hit{at(4, 3), at(3, 4)}},
		{"one that went comes again, room for one", 1, []api.Hit{at(1, 5), at(2, 3), at(1, 2)}, 3, []api.Hit{at(1, 2)}},
		{"room for one", 1, []api.Hit{at(1, 5), at(2, 6), at(0, 5)}, 2, []api.Hit{at(0, 5)}},
		{"the greatest numbers", 2, []api.Hit{{ID: math.MaxUint64, Dist: math.MaxUint64}, {ID: 0, Dist: math.MaxUint64}, {ID: math.MaxUint64, Dist: 0}}, 3,
			[]api.Hit{{ID: math.MaxUint64, Dist: 0}, {ID: 0, Dist: math.MaxUint64}}},
	} {
		t.Run(c.name, func(t *testing.T) {
			l := made(t, c.most)
			if count := l.Add(c.hits...); count != c.count {
				t.Errorf("Add = %d, want %d", count, c.count)
			}
			mustHold(t, l, c.most, c.want...)
			one := made(t, c.most)
			count := 0
			for _, hit := range c.hits {
				count += one.Add(hit)
			}
			if count != c.count {
				t.Errorf("Add, one by one = %d, want %d", count, c.count)
			}
			mustHold(t, one, c.most, c.want...)
		})
	}
}

func TestAddAsManyAsMayBe(t *testing.T) {
	l := made(t, api.MaxEf)
	for i := range uint64(api.MaxEf) {
		if l.Full() {
			t.Fatal("full with", i)
		}
		if l.Add(at(i, 1000-i)) != 1 {
			t.Fatal("not put:", i)
		}
	}
	if !l.Full() || l.Len() != api.MaxEf {
		t.Fatal("not full:", l.Len())
	}
	if l.Add(at(1000, 1001)) != 0 || l.Add(at(1000, 999)) != 1 || l.Len() != api.MaxEf {
		t.Fatal("the worst stayed, or a worse one came")
	}
}

// model is a List as the chapter tells it, told as plainly as may be.
type model struct {
	most int
	hits []api.Hit
}

func (m *model) add(hit api.Hit) int {
	i := slices.IndexFunc(m.hits, func(h api.Hit) bool { return h.ID == hit.ID })
	switch {
	case i >= 0 && !vec.Nearer(hit, m.hits[i]):
		return 0
	case i >= 0:
		m.hits[i] = hit
	case len(m.hits) < m.most:
		m.hits = append(m.hits, hit)
	case vec.Nearer(hit, m.hits[len(m.hits)-1]):
		m.hits[len(m.hits)-1] = hit
	default:
		return 0
	}
	slices.SortFunc(m.hits, func(a, b api.Hit) int {
		if vec.Nearer(a, b) {
			return -1
		}
		return 1
	})
	return 1
}

func TestAddAgainstModel(t *testing.T) {
	r := rand.New(rand.NewSource(3))
	for range 300 {
		most := 1 + r.Intn(12)
		l, m := made(t, most), &model{most: most}
		var all [][]api.Hit
		for range 30 {
			var hits []api.Hit
			want := 0
			for range r.Intn(4) {
				hit := at(uint64(r.Intn(20)), uint64(r.Intn(15)))
				hits = append(hits, hit)
				want += m.add(hit)
			}
			all = append(all, hits)
			if count := l.Add(hits...); count != want {
				t.Fatalf("Add(%v) = %d, want %d", hits, count, want)
			}
			mustHold(t, l, most, m.hits...)
		}
		if got := best.Merge(most, all...); !reflect.DeepEqual(got, m.hits) {
			t.Fatalf("Merge(%d, %v) = %v, want %v", most, all, got, m.hits)
		}
	}
}

func TestMerge(t *testing.T) {
	many := make([]api.Hit, 300)
	for i := range many {
		many[i] = at(uint64(i), uint64(i))
	}
	for _, c := range []struct {
		name  string
		most  int
		lists [][]api.Hit
		want  []api.Hit
	}{
		{"no lists", 2, nil, nil},
		{"empty lists", 2, [][]api.Hit{nil, {}, nil}, nil},
		{"one list", 2, [][]api.Hit{{at(2, 4), at(1, 3)}}, []api.Hit{at(1, 3), at(2, 4)}},
		{"two lists", 2, [][]api.Hit{{at(1, 3), at(2, 2)}, {at(3, 1)}}, []api.Hit{at(3, 1), at(2, 2)}},
		{"an ID in two lists", 3, [][]api.Hit{{at(1, 3), at(2, 2)}, {at(1, 1), at(2, 9)}}, []api.Hit{at(1, 1), at(2, 2)}},
		{"the same in two lists: the first one's vector", 3, [][]api.Hit{{at(1, 3)}, {{ID: 1, Dist: 3}}}, []api.Hit{at(1, 3)}},
		{"an ID that went is put again", 1, [][]api.Hit{{at(1, 3)}, {at(2, 2)}, {at(1, 1)}}, []api.Hit{at(1, 1)}},
		{"as many as may be", api.MaxEf, [][]api.Hit{many[100:], many[:100]}, many[:api.MaxEf]},
		{"no room", 0, [][]api.Hit{{at(1, 3)}}, nil},
		{"less than no room", -1, [][]api.Hit{{at(1, 3)}}, nil},
		{"too much room", api.MaxEf + 1, [][]api.Hit{{at(1, 3)}}, nil},
		{"no room, no lists", 0, nil, nil},
	} {
		got := best.Merge(c.most, c.lists...)
		if len(got) != len(c.want) || len(got) > 0 && !reflect.DeepEqual(got, c.want) {
			t.Errorf("%s: %v, want %v", c.name, got, c.want)
		}
	}
}

func TestNilList(t *testing.T) {
	var l *best.List
	if l.Add(at(1, 1)) != 0 || l.Add() != 0 || l.Full() || l.Len() != 0 || len(l.Hits()) != 0 {
		t.Error("a nil List holds something")
	}
	if worst, ok := l.Worst(); ok || !reflect.DeepEqual(worst, api.Hit{}) {
		t.Error("a nil List has a worst:", worst)
	}
}

// TestArgumentsStay: what is handed in is neither changed nor kept, its spare room neither.
func TestArgumentsStay(t *testing.T) {
	room := []int32{7, 8, 99}
	hits := []api.Hit{{ID: 2, Dist: 9, Vec: room[:2]}, {ID: 1, Dist: 3, Vec: []int32{5}}, {ID: 77}}
	l := made(t, 2)
	l.Add(hits[:2]...)
	merged := best.Merge(2, hits[:2])
	if hits[0].ID != 2 || &hits[0].Vec[0] != &room[0] || hits[1].ID != 1 || hits[2].ID != 77 || !slices.Equal(room, []int32{7, 8, 99}) {
		t.Fatal("the arguments were changed:", hits, room)
	}
	want := []api.Hit{{ID: 1, Dist: 3, Vec: []int32{5}}, {ID: 2, Dist: 9, Vec: []int32{7, 8}}}
	hits[0], hits[1].Vec[0], room[0], room[1] = api.Hit{}, 0, 0, 0
	mustHold(t, l, 2, want...)
	if !reflect.DeepEqual(merged, want) {
		t.Fatal("Merge kept its arguments:", merged)
	}
}

// scribble writes over all of the hits' memory, its spare room too.
func scribble(hits []api.Hit) {
	for _, hit := range hits {
		v := hit.Vec[:cap(hit.Vec)]
		for i := range v {
			v[i] = -1
		}
	}
	hits = hits[:cap(hits)]
	for i := range hits {
		hits[i] = api.Hit{ID: 1 << 50, Dist: 1, Vec: []int32{-2}}
	}
}

// TestAnswersAreNew: an answer that is written over is seen neither in the List nor in another answer.
func TestAnswersAreNew(t *testing.T) {
	l := made(t, 5)
	want := []api.Hit{at(2, 3), at(3, 4), at(1, 5)}
	l.Add(at(1, 5), at(2, 3), at(3, 4))
	first, second := l.Hits(), l.Hits()
	scribble(first)
	if !reflect.DeepEqual(second, want) {
		t.Fatal("two answers share memory:", second)
	}
	worst, _ := l.Worst()
	scribble([]api.Hit{worst})
	mustHold(t, l, 5, want...)
	if l.Add(at(4, 9)) != 1 {
		t.Fatal("not put")
	}
	if !reflect.DeepEqual(second, want) {
		t.Fatal("a later Add is seen in an earlier answer:", second)
	}
	one := l.Hits()
	v := one[0].Vec[:cap(one[0].Vec)]
	for i := range v {
		v[i] = -1
	}
	if !reflect.DeepEqual(one[1:], append(want[1:], at(4, 9))) {
		t.Fatal("two vectors of one answer share memory:", one)
	}
}

// TestVectorsAreNotAsked: a hit's vector is carried, whatever it is.
func TestVectorsAreNotAsked(t *testing.T) {
	l := made(t, 3)
	none, long := api.Hit{ID: 1, Dist: 1}, api.Hit{ID: 2, Dist: 2, Vec: slices.Repeat([]int32{math.MinInt32}, 20)}
	if l.Add(none, long) != 2 {
		t.Fatal("not put")
	}
	got := l.Hits()
	if len(got) != 2 || len(got[0].Vec) != 0 || !slices.Equal(got[1].Vec, long.Vec) {
		t.Fatal(got)
	}
}

// TestListsAreApart: what one List is told, no other knows.
func TestListsAreApart(t *testing.T) {
	a, b := made(t, 2), made(t, 2)
	a.Add(at(1, 1))
	mustHold(t, b, 2)
	b.Add(at(1, 7))
	mustHold(t, a, 2, at(1, 1))
	mustHold(t, b, 2, at(1, 7))
}
