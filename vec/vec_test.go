package vec_test

import (
	"math"
	"math/big"
	"math/rand"
	"slices"
	"testing"

	"armillary/api"
	"armillary/vec"
)

func TestRight(t *testing.T) {
	for _, c := range []struct {
		v    []int32
		want bool
	}{
		{nil, false},
		{[]int32{}, false},
		{make([]int32, 0, 4), false},
		{[]int32{0}, true},
		{[]int32{1, 2}, true},
		{make([]int32, api.MaxDim), true},
		{make([]int32, api.MaxDim+1), false},
		{make([]int32, 1000), false},
		{[]int32{api.MaxCoord}, true},
		{[]int32{-api.MaxCoord}, true},
		{[]int32{api.MaxCoord + 1}, false},
		{[]int32{-api.MaxCoord - 1}, false},
		{[]int32{math.MaxInt32}, false},
		{[]int32{math.MinInt32}, false},
		{[]int32{api.MaxCoord + 1, 0, 0}, false},
		{[]int32{0, 0, -api.MaxCoord - 1}, false},
		{[]int32{0, api.MaxCoord + 1, 0}, false},
		{[]int32{1, 2, api.MaxCoord + 1}[:2], true},
	} {
		if got := vec.Right(c.v); got != c.want {
			t.Errorf("Right(%d) = %t, want %t", c.v, got, c.want)
		}
	}
}

// eight is a vector of MaxDim times a number.
func eight(n int32) []int32 {
	return slices.Repeat([]int32{n}, api.MaxDim)
}

func TestDist(t *testing.T) {
	for _, c := range []struct {
		a, b []int32
		want uint64
	}{
		{[]int32{1, 2}, []int32{4, 6}, 25},
		{[]int32{4, 6}, []int32{1, 2}, 25},
		{[]int32{0}, []int32{0}, 0},
		{[]int32{-3}, []int32{4}, 49},
		{[]int32{-3, 5, 0}, []int32{-3, 5, 0}, 0},
		{[]int32{70000}, []int32{0}, 4900000000},
		{[]int32{api.MaxCoord}, []int32{-api.MaxCoord}, 1 << 58},
		{[]int32{-api.MaxCoord}, []int32{api.MaxCoord}, 1 << 58},
		{eight(api.MaxCoord), eight(-api.MaxCoord), 1 << 61},
		{eight(1), eight(2), 8},
	} {
		if got, e := vec.Dist(c.a, c.b); got != c.want || e != api.OK {
			t.Errorf("Dist(%d, %d) = %d, %d, want %d", c.a, c.b, got, e, c.want)
		}
	}
}

func TestDistOfWrongVectors(t *testing.T) {
	for _, c := range [][2][]int32{
		{nil, nil},
		{{}, {}},
		{{1}, nil},
		{nil, {1}},
		{{1}, {1, 2}},
		{{1, 2}, {1}},
		{make([]int32, 9), make([]int32, 9)},
		{make([]int32, 8), make([]int32, 9)},
		{{api.MaxCoord + 1}, {0}},
		{{0}, {api.MaxCoord + 1}},
		{{-api.MaxCoord - 1}, {0}},
		{{0}, {-api.MaxCoord - 1}},
		{{api.MaxCoord + 1}, {api.MaxCoord + 1}},
		{{math.MinInt32}, {math.MaxInt32}},
		{{1, 2, math.MaxInt32}, {1, 2, 3}},
	} {
		if got, e := vec.Dist(c[0], c[1]); got != 0 || e != api.ErrForm {
			t.Errorf("Dist(%d, %d) = %d, %d, want ErrForm", c[0], c[1], got, e)
		}
	}
}

func TestDistOfManyVectors(t *testing.T) {
	r := rand.New(rand.NewSource(1))
	for range 2000 {
		a := make([]int32, 1+r.Intn(api.MaxDim))
		b := make([]int32, len(a))
		want := new(big.Int)
		for i := range a {
			a[i] = int32(r.Intn(2*api.MaxCoord+1) - api.MaxCoord)
			b[i] = int32(r.Intn(2*api.MaxCoord+1) - api.MaxCoord)
			apart := big.NewInt(int64(a[i]) - int64(b[i]))
			want.Add(want, apart.Mul(apart, apart))
		}
		if got, e := vec.Dist(a, b); got != want.Uint64() || e != api.OK {
			t.Fatalf("Dist(%d, %d) = %d, %d, want %s", a, b, got, e, want)
		}
	}
}

func TestNearer(t *testing.T) {
	for _, c := range []struct {
		a, b api.Hit
		want bool
	}{
		{api.Hit{}, api.Hit{}, false},
		{api.Hit{ID: 1, Dist: 5}, api.Hit{ID: 1, Dist: 5}, false},
		{api.Hit{ID: 1, Dist: 5}, api.Hit{ID: 2, Dist: 5}, true},
		{api.Hit{ID: 2, Dist: 5}, api.Hit{ID: 1, Dist: 5}, false},
		{api.Hit{ID: 2, Dist: 4}, api.Hit{ID: 1, Dist: 5}, true},
		{api.Hit{ID: 1, Dist: 4}, api.Hit{ID: 2, Dist: 5}, true},
		{api.Hit{ID: 1, Dist: 5}, api.Hit{ID: 2, Dist: 4}, false},
		{api.Hit{ID: 1, Dist: 5, Vec: []int32{1}}, api.Hit{ID: 1, Dist: 5, Vec: []int32{2}}, false},
		{api.Hit{Dist: math.MaxUint64 - 1}, api.Hit{Dist: math.MaxUint64}, true},
		{api.Hit{Dist: math.MaxUint64}, api.Hit{Dist: 0}, false},
		{api.Hit{ID: 0}, api.Hit{ID: math.MaxUint64}, true},
		{api.Hit{ID: math.MaxUint64}, api.Hit{ID: 0}, false},
	} {
		if got := vec.Nearer(c.a, c.b); got != c.want {
			t.Errorf("Nearer(%v, %v) = %t", c.a, c.b, got)
		}
	}
}

func TestHome(t *testing.T) {
	for _, c := range []struct {
		id     uint64
		shards int
		want   int
	}{
		{1, 4, 1},
		{1, 1 << 33, 0x9e3779b9},
		{2, 1 << 33, 0x3c6ef372},
		{1, math.MaxInt, 0x9e3779b9},
		{1, 0x9e3779b9, 0},
		{1, 0x9e3779ba, 0x9e3779b9},
		{0, 4, 0},
		{77, 1, 0},
		{5, 0, 0},
		{5, -1, 0},
		{1, -4, 0},
		{1, math.MinInt, 0},
	} {
		if got := vec.Home(c.id, c.shards); got != c.want {
			t.Errorf("Home(%d, %d) = %d, want %d", c.id, c.shards, got, c.want)
		}
	}
}

func TestHomeOfManyIDs(t *testing.T) {
	spread, _ := new(big.Int).SetString("9e3779b97f4a7c15", 16)
	whole := new(big.Int).Lsh(big.NewInt(1), 64)
	r := rand.New(rand.NewSource(2))
	for range 2000 {
		id, shards := r.Uint64()>>r.Intn(64), 1+r.Intn(9)
		product := new(big.Int).SetUint64(id)
		product.Mul(product, spread).Mod(product, whole).Rsh(product, 32)
		want := int(product.Mod(product, big.NewInt(int64(shards))).Int64())
		if got := vec.Home(id, shards); got != want {
			t.Fatalf("Home(%d, %d) = %d, want %d", id, shards, got, want)
		}
	}
}

// batch is that many ops with IDs from 1 on, each with a vector of dim numbers.
func batch(count, dim int) []api.Op {
	var ops []api.Op
	for i := range count {
		ops = append(ops, api.Op{ID: uint64(i + 1), Vec: make([]int32, dim)})
	}
	return ops
}

func TestCheck(t *testing.T) {
	two := []int32{1, 2}
	for _, c := range []struct {
		name string
		dim  int
		ops  []api.Op
		want api.Errno
	}{
		{"one", 2, []api.Op{{ID: 1, Vec: two}}, api.OK},
		{"one that goes", 2, []api.Op{{ID: 1}}, api.OK},
		{"one that goes, its Vec empty", 2, []api.Op{{ID: 1, Vec: []int32{}}}, api.OK},
		{"one that comes, one that goes", 2, []api.Op{{ID: 1, Vec: two}, {ID: 2}}, api.OK},
		{"not rising", 2, []api.Op{{ID: 9}, {ID: 3, Vec: two}, {ID: 5}}, api.OK},
		{"the least ID", 2, []api.Op{{ID: 0, Vec: two}}, api.OK},
		{"the greatest ID", 2, []api.Op{{ID: api.MaxID, Vec: two}}, api.OK},
		{"the least dim", 1, batch(3, 1), api.OK},
		{"the greatest dim", api.MaxDim, batch(3, api.MaxDim), api.OK},
		{"as many as may be", 2, batch(api.MaxOps, 2), api.OK},
		{"the greatest numbers", 2, []api.Op{{ID: 1, Vec: []int32{api.MaxCoord, -api.MaxCoord}}}, api.OK},

		{"dim 0", 0, []api.Op{{ID: 1}}, api.ErrArg},
		{"dim below 0", -1, []api.Op{{ID: 1}}, api.ErrArg},
		{"dim far below 0", math.MinInt, []api.Op{{ID: 1}}, api.ErrArg},
		{"dim above", api.MaxDim + 1, []api.Op{{ID: 1}}, api.ErrArg},
		{"dim above, of such vectors", api.MaxDim + 1, batch(2, api.MaxDim+1), api.ErrArg},
		{"dim far above", math.MaxInt, []api.Op{{ID: 1}}, api.ErrArg},
		{"none", 2, nil, api.ErrShort},
		{"an empty list", 2, []api.Op{}, api.ErrShort},
		{"too many", 2, batch(api.MaxOps+1, 2), api.ErrLong},
		{"far too many", 2, batch(1000, 2), api.ErrLong},
		{"an ID above", 2, []api.Op{{ID: api.MaxID + 1, Vec: two}}, api.ErrForm},
		{"an ID above that goes", 2, []api.Op{{ID: 1, Vec: two}, {ID: math.MaxUint64}}, api.ErrForm},
		{"a number above", 2, []api.Op{{ID: 1, Vec: []int32{0, api.MaxCoord + 1}}}, api.ErrForm},
		{"a number below", 2, []api.Op{{ID: 1, Vec: []int32{-api.MaxCoord - 1, 0}}}, api.ErrForm},
		{"too few numbers", 2, []api.Op{{ID: 1, Vec: []int32{1}}}, api.ErrForm},
		{"too many numbers", 2, []api.Op{{ID: 1, Vec: []int32{1, 2, 3}}}, api.ErrForm},
		{"the last one too short", 2, []api.Op{{ID: 1, Vec: two}, {ID: 2}, {ID: 3, Vec: []int32{1}}}, api.ErrForm},
		{"two of one ID", 2, []api.Op{{ID: 1, Vec: two}, {ID: 1, Vec: two}}, api.ErrExists},
		{"two of one ID, one goes", 2, []api.Op{{ID: 1, Vec: two}, {ID: 1}}, api.ErrExists},
		{"two of one ID, not side by side", 2, []api.Op{{ID: 3}, {ID: 1}, {ID: 2}, {ID: 3}}, api.ErrExists},
		{"two of ID 0", 2, []api.Op{{}, {}}, api.ErrExists},
	} {
		if got := vec.Check(c.dim, c.ops...); got != c.want {
			t.Errorf("%s: %d, want %d", c.name, got, c.want)
		}
	}
}

func TestCheckOrder(t *testing.T) {
	for _, c := range []struct {
		name string
		dim  int
		ops  []api.Op
		want api.Errno
	}{
		{"dim ahead of none", 0, nil, api.ErrArg},
		{"dim ahead of too many", 9, make([]api.Op, 17), api.ErrArg},
		{"dim ahead of the form", 9, []api.Op{{ID: api.MaxID + 1}}, api.ErrArg},
		{"dim ahead of one ID", 0, make([]api.Op, 2), api.ErrArg},
		{"too many ahead of the form", 2, slices.Repeat([]api.Op{{ID: api.MaxID + 1}}, 17), api.ErrLong},
		{"too many ahead of one ID", 2, make([]api.Op, 17), api.ErrLong},
		{"the form ahead of one ID", 2, []api.Op{{ID: 1}, {ID: 1}, {ID: 2, Vec: []int32{1}}}, api.ErrForm},
		{"the form ahead of one ID, in one", 2, []api.Op{{ID: 1}, {ID: 1, Vec: []int32{1}}}, api.ErrForm},
		{"two of an ID above", 2, []api.Op{{ID: api.MaxID + 1}, {ID: api.MaxID + 1}}, api.ErrForm},
	} {
		if got := vec.Check(c.dim, c.ops...); got != c.want {
			t.Errorf("%s: %d, want %d", c.name, got, c.want)
		}
	}
}

// TestNothingIsChanged: what is handed in stays as it is, its spare room too.
func TestNothingIsChanged(t *testing.T) {
	a, b := []int32{1, 2, 77}, []int32{4, 6, 88}
	ops := []api.Op{{ID: 2, Vec: a[:2]}, {ID: 1, Vec: b[:2]}, {ID: 99}}
	vec.Right(a[:2])
	vec.Dist(a[:2], b[:2])
	vec.Check(2, ops[:2]...)
	if !slices.Equal(a, []int32{1, 2, 77}) || !slices.Equal(b, []int32{4, 6, 88}) {
		t.Error("a vector was changed:", a, b)
	}
	if ops[0].ID != 2 || &ops[0].Vec[0] != &a[0] || ops[1].ID != 1 || &ops[1].Vec[0] != &b[0] || ops[2].ID != 99 {
		t.Error("the ops were changed:", ops)
	}
}
