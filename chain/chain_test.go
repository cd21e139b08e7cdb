package chain_test

import (
	"math"
	"math/rand"
	"slices"
	"testing"

	"armillary/api"
	"armillary/chain"
)

// at is a version: without numbers, the ID has no vector from then on.
func at(stamp uint64, vec ...int32) chain.Version {
	return chain.Version{Stamp: stamp, Vec: vec}
}

// made is a chain of these versions.
func made(t *testing.T, l ...chain.Version) *chain.Chain {
	t.Helper()
	c, e := chain.New(l...)
	if c == nil || e != api.OK {
		t.Fatalf("New(%v) = %v, %d", l, c, e)
	}
	return c
}

// same: are these the same versions (nil and empty are one)?
func same(a, b []chain.Version) bool {
	return slices.EqualFunc(a, b, func(v, w chain.Version) bool {
		return v.Stamp == w.Stamp && slices.Equal(v.Vec, w.Vec)
	})
}

// asOf is what the chapter's words say that an ID with these versions has as of a stamp.
func asOf(l []chain.Version, stamp uint64) []int32 {
	var vec []int32
	for _, v := range l {
		if v.Stamp <= stamp {
			vec = v.Vec
		}
	}
	return vec
}

// mustHold holds all that a chain tells against the versions that it should have.
func mustHold(t *testing.T, c *chain.Chain, want ...chain.Version) {
	t.Helper()
	if got := c.List(); !same(got, want) {
		t.Fatalf("List() = %v, want %v", got, want)
	}
	last := uint64(0)
	if len(want) > 0 {
		last = want[len(want)-1].Stamp
	}
	if c.Len() != len(want) || c.Last() != last {
		t.Fatalf("Len() = %d, Last() = %d, of %v", c.Len(), c.Last(), want)
	}
	stamps := []uint64{0, 1, api.MaxStamp - 1, api.MaxStamp, api.MaxStamp + 1, math.MaxUint64}
	for _, v := range want {
		stamps = append(stamps, v.Stamp-1, v.Stamp, v.Stamp+1)
	}
	for _, stamp := range stamps {
		mustHave(t, c, stamp, asOf(want, stamp)...)
	}
}

// mustHave holds At against the vector that it should answer.
func mustHave(t *testing.T, c *chain.Chain, stamp uint64, want ...int32) {
	t.Helper()
	got, ok := c.At(stamp)
	if ok != (len(want) > 0) || !slices.Equal(got, want) || !ok && got != nil {
		t.Fatalf("At(%d) = %v, %t, want %v, of %v", stamp, got, ok, want, c.List())
	}
}

func TestExample(t *testing.T) {
	c := made(t, at(5, 1, 2), at(7), at(9, 3, 4))
	mustHave(t, c, 6, 1, 2)
	mustHave(t, c, 7)
	if got := c.Sweep(8); !slices.Equal(got, []uint64{5, 7}) {
		t.Fatal("Sweep(8) =", got)
	}
	mustHold(t, c, at(9, 3, 4))
}

func TestNew(t *testing.T) {
	nine := make([]int32, api.MaxDim+1)
	for _, c := range []struct {
		name string
		l    []chain.Version
		want api.Errno
	}{
		{"no versions", nil, api.OK},
		{"an empty list", []chain.Version{}, api.OK},
		{"one", []chain.Version{at(5, 1)}, api.OK},
		{"one without a vector", []chain.Version{at(5)}, api.OK},
		{"only some without a vector", []chain.Version{at(5), at(6), at(7)}, api.OK},
		{"the least and the greatest stamp", []chain.Version{at(1, 1), at(api.MaxStamp, 2)}, api.OK},
		{"side by side", []chain.Version{at(1, 1), at(2, 1), at(3, 1)}, api.OK},
		{"vectors of unlike lengths", []chain.Version{at(1, 1), at(2, 1, 2), at(3, 1, 2, 3)}, api.OK},
		{"the first refused", []chain.Version{at(0, 1), at(5, 1)}, api.ErrArg},
		{"the last refused", []chain.Version{at(5, 1), at(6, 1), at(api.MaxStamp+1, 1)}, api.ErrArg},
		{"one in between refused", []chain.Version{at(5, 1), {Stamp: 6, Vec: nine}, at(7, 1)}, api.ErrForm},
		{"one stamp twice", []chain.Version{at(5, 1), at(5, 2)}, api.ErrExists},
		{"one stamp twice, without vectors", []chain.Version{at(5), at(5)}, api.ErrExists},
		{"falling", []chain.Version{at(6, 1), at(5, 1)}, api.ErrExists},
		{"falling behind a rise", []chain.Version{at(3, 1), at(6, 1), at(5, 1)}, api.ErrExists},
		{"two refused: the one in front", []chain.Version{at(6, 1), at(5, 1), at(0, 1)}, api.ErrExists},
		{"two refused: the one in front, of the form", []chain.Version{{Stamp: 6, Vec: nine}, at(0, 1)}, api.ErrForm},
	} {
		t.Run(c.name, func(t *testing.T) {
			got, e := chain.New(c.l...)
			if e != c.want || (got == nil) != (e != api.OK) {
				t.Fatalf("New = %v, %d, want %d", got, e, c.want)
			}
			if e == api.OK {
				mustHold(t, got, c.l...)
			}
		})
	}
}

func TestPut(t *testing.T) {
	wrong := int32(api.MaxCoord + 1)
	for _, c := range []struct {
		name string
		v    chain.Version
		want api.Errno
	}{
		{"behind the last", at(10, 1, 2), api.OK},
		{"far behind the last", at(api.MaxStamp, 1, 2), api.OK},
		{"without a vector", at(10), api.OK},
		{"its Vec empty", chain.Version{Stamp: 10, Vec: []int32{}}, api.OK},
		{"its Vec empty, with room", chain.Version{Stamp: 10, Vec: make([]int32, 0, 20)}, api.OK},
		{"of another length", at(10, 1, 2, 3, 4, 5, 6, 7, 8), api.OK},
		{"the greatest numbers", at(10, api.MaxCoord, -api.MaxCoord), api.OK},

		{"stamp 0", at(0, 1, 2), api.ErrArg},
		{"stamp 0 without a vector", at(0), api.ErrArg},
		{"a stamp above", at(api.MaxStamp+1, 1, 2), api.ErrArg},
		{"a stamp above without a vector", at(api.MaxStamp + 1), api.ErrArg},
		{"the greatest number as a stamp", at(math.MaxUint64, 1, 2), api.ErrArg},
		{"a number above", at(10, 0, wrong), api.ErrForm},
		{"a number below", at(10, -wrong, 0), api.ErrForm},
		{"the greatest number of all", at(10, math.MaxInt32), api.ErrForm},
		{"the least number of all", at(10, math.MinInt32), api.ErrForm},
		{"too many numbers", at(10, make([]int32, api.MaxDim+1)...), api.ErrForm},
		{"far too many numbers", at(10, make([]int32, 1000)...), api.ErrForm},
		{"the last one's stamp", at(9, 1, 2), api.ErrExists},
		{"the last one's stamp, the same", at(9, 3, 4), api.ErrExists},
		{"the last one's stamp, without a vector", at(9), api.ErrExists},
		{"a stamp that is there", at(5, 1, 2), api.ErrExists},
		{"a stamp of one without a vector", at(7, 1, 2), api.ErrExists},
		{"between two", at(8, 1, 2), api.ErrExists},
		{"below the first", at(1, 1, 2), api.ErrExists},

		{"the stamp ahead of the form, at 0", at(0, wrong), api.ErrArg},
		{"the stamp ahead of the form, above", at(api.MaxStamp+1, wrong), api.ErrArg},
		{"the form ahead of the stamp that is there", at(9, wrong), api.ErrForm},
		{"the form ahead of a greater stamp", at(1, wrong), api.ErrForm},
	} {
		t.Run(c.name, func(t *testing.T) {
			l := []chain.Version{at(5, 1, 2), at(7), at(9, 3, 4)}
			g := made(t, l...)
			if e := g.Put(c.v); e != c.want {
				t.Fatalf("Put(%v) = %d, want %d", c.v, e, c.want)
			}
			if c.want == api.OK {
				l = append(l, c.v)
			}
			mustHold(t, g, l...)
		})
	}
}

func TestPutIntoAnEmptyChain(t *testing.T) {
	for _, v := range []chain.Version{at(1, 1), at(1), at(api.MaxStamp, 1), at(api.MaxStamp)} {
		c := made(t)
		mustHold(t, c)
		if e := c.Put(v); e != api.OK {
			t.Fatalf("Put(%v) = %d", v, e)
		}
		mustHold(t, c, v)
	}
}

func TestPutBehindTheGreatestStamp(t *testing.T) {
	c := made(t, at(api.MaxStamp, 1))
	for stamp, want := range map[uint64]api.Errno{
		api.MaxStamp + 1: api.ErrArg,
		api.MaxStamp:     api.ErrExists,
		api.MaxStamp - 1: api.ErrExists,
	} {
		if e := c.Put(at(stamp, 2)); e != want {
			t.Errorf("Put at %d = %d, want %d", stamp, e, want)
		}
	}
	mustHold(t, c, at(api.MaxStamp, 1))
}

func TestAt(t *testing.T) {
	c := made(t, at(5, 1, 2), at(7), at(9, 3), at(10, 4), at(20), at(21), at(api.MaxStamp, 5))
	for _, a := range []struct {
		stamp uint64
		want  []int32
	}{
		{0, nil}, {1, nil}, {4, nil},
		{5, []int32{1, 2}}, {6, []int32{1, 2}},
		{7, nil}, {8, nil},
		{9, []int32{3}},
		{10, []int32{4}}, {11, []int32{4}}, {19, []int32{4}},
		{20, nil}, {21, nil}, {22, nil}, {api.MaxStamp - 1, nil},
		{api.MaxStamp, []int32{5}}, {api.MaxStamp + 1, []int32{5}}, {math.MaxUint64, []int32{5}},
	} {
		mustHave(t, c, a.stamp, a.want...)
	}
}

func TestSweep(t *testing.T) {
	a, none, b := at(5, 1, 2), at(7), at(9, 3, 4)
	for _, c := range []struct {
		name string
		l    []chain.Version
		mark uint64
		gone []uint64
		left []chain.Version
	}{
		{"no versions", nil, 9, nil, nil},
		{"no versions, at the end", nil, math.MaxUint64, nil, nil},
		{"at 0", []chain.Version{a, none, b}, 0, nil, []chain.Version{a, none, b}},
		{"below the first", []chain.Version{a, none, b}, 4, nil, []chain.Version{a, none, b}},
		{"at the first", []chain.Version{a, none, b}, 5, nil, []chain.Version{a, none, b}},
		{"behind the first", []chain.Version{a, none, b}, 6, nil, []chain.Version{a, none, b}},
		{"at one without a vector", []chain.Version{a, none, b}, 7, []uint64{5, 7}, []chain.Version{b}},
		{"behind one without a vector", []chain.Version{a, none, b}, 8, []uint64{5, 7}, []chain.Version{b}},
		{"at the last", []chain.Version{a, none, b}, 9, []uint64{5, 7}, []chain.Version{b}},
		{"behind the last", []chain.Version{a, none, b}, 10, []uint64{5, 7}, []chain.Version{b}},
		{"at MaxStamp", []chain.Version{a, none, b}, api.MaxStamp, []uint64{5, 7}, []chain.Version{b}},
		{"above MaxStamp", []chain.Version{a, none, b}, api.MaxStamp + 1, []uint64{5, 7}, []chain.Version{b}},
		{"at the end", []chain.Version{a, none, b}, math.MaxUint64, []uint64{5, 7}, []chain.Version{b}},

		{"vectors, at the second", []chain.Version{a, at(7, 9), b}, 7, []uint64{5}, []chain.Version{at(7, 9), b}},
		{"vectors, behind the second", []chain.Version{a, at(7, 9), b}, 8, []uint64{5}, []chain.Version{at(7, 9), b}},
		{"vectors, the same one again", []chain.Version{a, at(7, 1, 2), b}, 8, []uint64{5}, []chain.Version{at(7, 1, 2), b}},

		{"the first without a vector, below", []chain.Version{none, b}, 6, nil, []chain.Version{none, b}},
		{"the first without a vector, at it", []chain.Version{none, b}, 7, []uint64{7}, []chain.Version{b}},
		{"the first without a vector, behind it", []chain.Version{none, b}, 8, []uint64{7}, []chain.Version{b}},
		{"the last without a vector", []chain.Version{a, none}, 7, []uint64{5, 7}, nil},
		{"the last without a vector, behind it", []chain.Version{a, none}, math.MaxUint64, []uint64{5, 7}, nil},
		{"the last without a vector, below it", []chain.Version{a, none}, 6, nil, []chain.Version{a, none}},
		{"only one, without a vector", []chain.Version{none}, 7, []uint64{7}, nil},
		{"only one, without a vector, below", []chain.Version{none}, 6, nil, []chain.Version{none}},
		{"only one", []chain.Version{a}, math.MaxUint64, nil, []chain.Version{a}},
		{"two without vectors, at the first", []chain.Version{a, at(6), at(7), b}, 6, []uint64{5, 6}, []chain.Version{at(7), b}},
		{"two without vectors, at the second", []chain.Version{a, at(6), at(7), b}, 7, []uint64{5, 6, 7}, []chain.Version{b}},
		{"none between two vectors, at the last", []chain.Version{a, at(6), at(8), b}, 9, []uint64{5, 6, 8}, []chain.Version{b}},
		{"the least and the greatest stamp", []chain.Version{at(1, 1), at(api.MaxStamp)}, api.MaxStamp, []uint64{1, api.MaxStamp}, nil},
	} {
		t.Run(c.name, func(t *testing.T) {
			g := made(t, c.l...)
			if got := g.Sweep(c.mark); !slices.Equal(got, c.gone) {
				t.Fatalf("Sweep(%d) = %d, want %d", c.mark, got, c.gone)
			}
			mustHold(t, g, c.left...)
			for _, stamp := range []uint64{c.mark, c.mark + 1, math.MaxUint64} {
				if stamp >= c.mark {
					mustHave(t, g, stamp, asOf(c.l, stamp)...)
				}
			}
			if got := g.Sweep(c.mark); len(got) != 0 {
				t.Fatalf("Sweep(%d), once more = %d", c.mark, got)
			}
			mustHold(t, g, c.left...)
		})
	}
}

// TestSweepOnAndBack: a later mark takes what an earlier one left, a lesser one nothing.
func TestSweepOnAndBack(t *testing.T) {
	c := made(t, at(2, 1), at(4, 2), at(6), at(8, 3), at(10, 4))
	for _, s := range []struct {
		mark uint64
		gone []uint64
		left []chain.Version
	}{
		{5, []uint64{2}, []chain.Version{at(4, 2), at(6), at(8, 3), at(10, 4)}},
		{3, nil, []chain.Version{at(4, 2), at(6), at(8, 3), at(10, 4)}},
		{6, []uint64{4, 6}, []chain.Version{at(8, 3), at(10, 4)}},
		{2, nil, []chain.Version{at(8, 3), at(10, 4)}},
		{9, nil, []chain.Version{at(8, 3), at(10, 4)}},
		{10, []uint64{8}, []chain.Version{at(10, 4)}},
	} {
		if got := c.Sweep(s.mark); !slices.Equal(got, s.gone) {
			t.Fatalf("Sweep(%d) = %d, want %d", s.mark, got, s.gone)
		}
		mustHold(t, c, s.left...)
	}
}

// TestPutBehindSweep: what went is no version any more, so that it is in nobody's way.
func TestPutBehindSweep(t *testing.T) {
	c := made(t, at(5, 1), at(7), at(9, 2))
	c.Sweep(9)
	for _, stamp := range []uint64{5, 7, 8, 9} {
		if e := c.Put(at(stamp, 3)); e != api.ErrExists {
			t.Fatalf("Put at %d = %d, want ErrExists: 9 is there", stamp, e)
		}
	}
	if e := c.Put(at(10)); e != api.OK {
		t.Fatal("Put at 10 =", e)
	}
	mustHold(t, c, at(9, 2), at(10))
	if got := c.Sweep(10); !slices.Equal(got, []uint64{9, 10}) {
		t.Fatal("Sweep(10) =", got)
	}
	mustHold(t, c)
	if e := c.Put(at(3, 4)); e != api.OK {
		t.Fatal("Put at 3 into a chain without versions =", e)
	}
	mustHold(t, c, at(3, 4))
}

// model is a chain as the chapter tells it, told as plainly as may be.
type model []chain.Version

func (m *model) put(v chain.Version) api.Errno {
	if v.Stamp < 1 || v.Stamp > api.MaxStamp {
		return api.ErrArg
	}
	if len(v.Vec) > api.MaxDim {
		return api.ErrForm
	}
	for _, n := range v.Vec {
		if n < -api.MaxCoord || n > api.MaxCoord {
			return api.ErrForm
		}
	}
	for _, w := range *m {
		if w.Stamp >= v.Stamp {
			return api.ErrExists
		}
	}
	*m = append(*m, v)
	return api.OK
}

func (m *model) sweep(mark uint64) []uint64 {
	var old, left model
	for _, v := range *m {
		if v.Stamp <= mark {
			old = append(old, v)
		} else {
			left = append(left, v)
		}
	}
	if len(old) > 0 && len(old[len(old)-1].Vec) > 0 {
		left = append(model{old[len(old)-1]}, left...)
		old = old[:len(old)-1]
	}
	var gone []uint64
	for _, v := range old {
		gone = append(gone, v.Stamp)
	}
	*m = left
	return gone
}

// someVersion is a version near the last stamp, now and then one that isn't right.
func someVersion(r *rand.Rand, last uint64) chain.Version {
	v := at(last + uint64(r.Intn(5)) - uint64(r.Intn(2)))
	if r.Intn(3) > 0 {
		for range 1 + r.Intn(api.MaxDim) {
			v.Vec = append(v.Vec, int32(r.Intn(2*api.MaxCoord+1)-api.MaxCoord))
		}
	}
	switch r.Intn(12) {
	case 0:
		v.Vec = append(v.Vec, api.MaxCoord+1)
	case 1:
		v.Vec = make([]int32, api.MaxDim+1)
	case 2:
		v.Stamp = api.MaxStamp + 1
	}
	return v
}

func TestAgainstModel(t *testing.T) {
	r := rand.New(rand.NewSource(7))
	for range 300 {
		c, m := made(t), &model{}
		for range 60 {
			if r.Intn(6) > 0 {
				v := someVersion(r, c.Last())
				want := m.put(v)
				if e := c.Put(v); e != want {
					t.Fatalf("Put(%v) = %d, want %d, of %v", v, e, want, c.List())
				}
			} else {
				mark := c.Last() + 2 - min(c.Last()+2, uint64(r.Intn(25)))
				want := m.sweep(mark)
				if got := c.Sweep(mark); !slices.Equal(got, want) {
					t.Fatalf("Sweep(%d) = %d, want %d", mark, got, want)
				}
			}
			mustHold(t, c, *m...)
		}
		mustHold(t, made(t, c.List()...), *m...)
	}
}

// TestManyVersions: a long chain is put, asked and swept piece by piece.
func TestManyVersions(t *testing.T) {
	const many = 20000
	var l []chain.Version
	for i := range uint64(many) {
		l = append(l, at(2*i+1, int32(i)))
	}
	c := made(t, l...)
	for i := range uint64(many) {
		mustHave(t, c, 2*i+1, int32(i))
		mustHave(t, c, 2*i+2, int32(i))
	}
	for mark := uint64(1000); mark <= 2*many; mark += 1000 {
		gone := c.Sweep(mark)
		want := 500
		if mark == 1000 {
			want = 499
		}
		if len(gone) != want || !slices.IsSorted(gone) || gone[len(gone)-1] != mark-3 {
			t.Fatalf("Sweep(%d): %d went, the last %d", mark, len(gone), gone[len(gone)-1])
		}
		mustHave(t, c, mark, int32(mark/2-1))
	}
	mustHold(t, c, l[many-1])
}

// TestArgumentsStay: what is handed in is neither changed nor kept, its spare room neither.
func TestArgumentsStay(t *testing.T) {
	room, more := []int32{1, 2, 99}, []int32{3, 4, 98}
	l := []chain.Version{{Stamp: 5, Vec: room[:2]}, {Stamp: 7}, {Stamp: 77, Vec: []int32{6}}}
	c := made(t, l[:2]...)
	if e := c.Put(chain.Version{Stamp: 9, Vec: more[:2]}); e != api.OK {
		t.Fatal(e)
	}
	c.Sweep(5)
	if !slices.Equal(room, []int32{1, 2, 99}) || !slices.Equal(more, []int32{3, 4, 98}) ||
		!same(l, []chain.Version{at(5, 1, 2), at(7), at(77, 6)}) || &l[0].Vec[0] != &room[0] {
		t.Fatal("the arguments were changed:", l, room, more)
	}
	for i := range room {
		room[i], more[i] = -1, -1
	}
	clear(l)
	mustHold(t, c, at(5, 1, 2), at(7), at(9, 3, 4))
	c.Sweep(8)
	mustHold(t, c, at(9, 3, 4))
}

// TestOneVectorTwice: a vector that two versions are put with is each one's own.
func TestOneVectorTwice(t *testing.T) {
	v := []int32{1, 2}
	c := made(t, chain.Version{Stamp: 5, Vec: v})
	v[0] = 8
	if e := c.Put(chain.Version{Stamp: 6, Vec: v}); e != api.OK {
		t.Fatal(e)
	}
	v[1] = 9
	mustHold(t, c, at(5, 1, 2), at(6, 8, 2))
}

// overwrite writes over a vector and its spare room.
func overwrite(v []int32) {
	v = v[:cap(v)]
	for i := range v {
		v[i] = -1
	}
}

// TestAnswersAreNew: an answer that is written over is seen neither in the chain nor in another answer.
func TestAnswersAreNew(t *testing.T) {
	want := []chain.Version{at(5, 1, 2), at(7), at(8, 6), at(9, 3, 4)}
	c := made(t, want...)

	first, _ := c.At(6)
	second, _ := c.At(6)
	overwrite(first)
	if !slices.Equal(second, []int32{1, 2}) {
		t.Fatal("two answers of At share memory:", second)
	}
	mustHold(t, c, want...)

	list, other := c.List(), c.List()
	overwrite(list[0].Vec)
	overwrite(list[1].Vec)
	if !same(list[1:], want[1:]) {
		t.Fatal("two vectors of one answer share memory:", list)
	}
	overwrite(list[2].Vec)
	overwrite(list[3].Vec)
	for i, all := 0, list[:cap(list)]; i < len(all); i++ {
		all[i] = at(1, 77)
	}
	if !same(other, want) {
		t.Fatal("two answers of List share memory:", other)
	}
	mustHold(t, c, want...)
}

// TestSweepIsSeenInNoAnswer: what a chain is told later, an earlier answer doesn't show.
func TestSweepIsSeenInNoAnswer(t *testing.T) {
	want := []chain.Version{at(5, 1, 2), at(7), at(8, 6), at(9, 3, 4)}
	c := made(t, want...)
	list := c.List()
	old, _ := c.At(5)
	gone := c.Sweep(8)
	if e := c.Put(at(10, 5, 5)); e != api.OK {
		t.Fatal(e)
	}
	more := c.Sweep(10)
	if !same(list, want) || !slices.Equal(old, []int32{1, 2}) || !slices.Equal(gone, []uint64{5, 7}) {
		t.Fatal("an earlier answer has changed:", list, old, gone)
	}
	for _, stamps := range [][]uint64{gone[:cap(gone)], more[:cap(more)]} {
		for i := range stamps {
			stamps[i] = 1
		}
	}
	mustHold(t, c, at(10, 5, 5))
}

// TestChainsAreApart: what one chain is told, no other knows.
func TestChainsAreApart(t *testing.T) {
	l := []chain.Version{at(5, 1), at(7)}
	a, b := made(t, l...), made(t, l...)
	if a.Put(at(9, 2)) != api.OK || b.Put(at(8, 3)) != api.OK {
		t.Fatal("not put")
	}
	a.Sweep(9)
	mustHold(t, a, at(9, 2))
	mustHold(t, b, at(5, 1), at(7), at(8, 3))
}

func TestNilChain(t *testing.T) {
	var c *chain.Chain
	for _, v := range []chain.Version{{}, at(1, 1), at(5), at(0, 1), at(api.MaxStamp + 1), at(5, math.MaxInt32)} {
		if e := c.Put(v); e != api.ErrNone {
			t.Errorf("Put(%v) of a nil chain = %d, want ErrNone", v, e)
		}
	}
	for _, stamp := range []uint64{0, 1, api.MaxStamp, math.MaxUint64} {
		mustHave(t, c, stamp)
		if got := c.Sweep(stamp); len(got) != 0 {
			t.Errorf("Sweep(%d) of a nil chain = %d", stamp, got)
		}
	}
	mustHold(t, c)
}
