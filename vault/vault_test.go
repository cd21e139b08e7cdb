package vault_test

import (
	"fmt"
	"math"
	"slices"
	"testing"

	"armillary/api"
	"armillary/chain"
	"armillary/vault"
)

// made is an empty vault of vectors of dim numbers.
func made(t *testing.T, dim int) *vault.Vault {
	t.Helper()
	v, e := vault.New(dim)
	if v == nil || e != api.OK {
		t.Fatalf("New(%d) = %v, %d", dim, v, e)
	}
	return v
}

// must stops the test if e isn't want.
func must(t *testing.T, what string, e, want api.Errno) {
	t.Helper()
	if e != want {
		t.Fatalf("%s = %d, want %d", what, e, want)
	}
}

// op is what a batch does with an ID: without numbers, it has none any more.
func op(id uint64, vec ...int32) api.Op {
	return api.Op{ID: id, Vec: vec}
}

func intent(txn, after uint64, ops ...api.Op) vault.Intent {
	return vault.Intent{Txn: txn, After: after, Ops: ops}
}

// at is a version: without numbers, the ID has no vector from then on.
func at(stamp uint64, vec ...int32) chain.Version {
	return chain.Version{Stamp: stamp, Vec: vec}
}

func entry(id uint64, l ...chain.Version) vault.Entry {
	return vault.Entry{ID: id, Versions: l}
}

// filled is a vault of a model.
func filled(t *testing.T, m model) *vault.Vault {
	t.Helper()
	v := made(t, m.dim)
	must(t, "Load", v.Load(m.mark, m.entries...), api.OK)
	for _, i := range m.intents {
		must(t, "Lock", v.Lock(i), api.OK)
	}
	mustHold(t, v, m)
	return v
}

func TestExample(t *testing.T) {
	v := made(t, 1)
	must(t, "Lock 7", v.Lock(intent(7, 3, op(1, 5))), api.OK)
	if v.Blocked(3, 1) || !v.Blocked(4, 1) {
		t.Fatal("blocked from above After on:", v.Blocked(3, 1), v.Blocked(4, 1))
	}
	must(t, "Lock 8", v.Lock(intent(8, 3, op(1, 5))), api.ErrLocked)
	must(t, "Apply(7, 3)", v.Apply(7, 3), api.ErrArg)
	must(t, "Apply(7, 4)", v.Apply(7, 4), api.OK)
	mustHold(t, v, model{dim: 1, entries: []vault.Entry{entry(1, at(4, 5))}})
}

func TestNew(t *testing.T) {
	for dim, want := range map[int]api.Errno{
		math.MinInt:    api.ErrArg,
		-1:             api.ErrArg,
		0:              api.ErrArg,
		1:              api.OK,
		2:              api.OK,
		api.MaxDim:     api.OK,
		api.MaxDim + 1: api.ErrArg,
		math.MaxInt:    api.ErrArg,
	} {
		v, e := vault.New(dim)
		if e != want || (v == nil) != (e != api.OK) {
			t.Errorf("New(%d) = %v, %d, want %d", dim, v, e, want)
		}
		if e != api.OK {
			continue
		}
		mustHold(t, v, model{dim: dim})
		must(t, "Lock of a vector too long", v.Lock(intent(1, 0, op(1, make([]int32, dim+1)...))), api.ErrForm)
		must(t, "Lock", v.Lock(intent(1, 0, op(1, make([]int32, dim)...))), api.OK)
	}
}

// sixteen is as many ops as may be, from an ID on.
func sixteen(first uint64) []api.Op {
	var ops []api.Op
	for id := range uint64(api.MaxOps) {
		ops = append(ops, op(first+id, 1, 2))
	}
	return ops
}

func TestLock(t *testing.T) {
	full := sixteen(100)
	for _, c := range []struct {
		name string
		i    vault.Intent
		want api.Errno
	}{
		{"After 0", intent(1, 0, op(1, 1, 2)), api.OK},
		{"After MaxStamp", intent(1, api.MaxStamp, op(1, 1, 2)), api.OK},
		{"Txn 0", intent(0, 4, op(1, 1, 2)), api.OK},
		{"the greatest Txn", intent(math.MaxUint64, 4, op(1, 1, 2)), api.OK},
		{"the least and the greatest ID", intent(1, 4, op(0, 1, 2), op(api.MaxID, 1, 2)), api.OK},
		{"a delete", intent(1, 4, op(1)), api.OK},
		{"a delete, its Vec empty", intent(1, 4, api.Op{ID: 1, Vec: []int32{}}), api.OK},
		{"a delete among others, not rising", intent(1, 4, op(9, 1, 2), op(3), op(5, 3, 4)), api.OK},
		{"of an ID that has versions", intent(1, 0, op(40, 1, 2)), api.OK},
		{"as many ops as may be", intent(1, 4, full...), api.OK},

		{"After above", intent(1, api.MaxStamp+1, op(1, 1, 2)), api.ErrArg},
		{"After far above", intent(1, math.MaxUint64, op(1, 1, 2)), api.ErrArg},
		{"no ops", intent(1, 4), api.ErrShort},
		{"too many ops", intent(1, 4, append(sixteen(100), op(99))...), api.ErrLong},
		{"an ID above", intent(1, 4, op(1, 1, 2), op(api.MaxID+1, 1, 2)), api.ErrForm},
		{"another dim", intent(1, 4, op(1, 1)), api.ErrForm},
		{"another dim, longer", intent(1, 4, op(1, 1, 2, 3)), api.ErrForm},
		{"a number above", intent(1, 4, op(1, 1, api.MaxCoord+1)), api.ErrForm},
		{"two of one ID", intent(1, 4, op(1, 1, 2), op(1)), api.ErrExists},
		{"a Txn that is there", intent(7, 4, op(1, 1, 2)), api.ErrExists},
		{"a Txn that is there, the same", intent(7, 3, op(20, 1, 2), op(21)), api.ErrExists},
		{"an ID that is held", intent(1, 4, op(20, 1, 2)), api.ErrLocked},
		{"an ID that is held by a delete", intent(1, 4, op(21, 1, 2)), api.ErrLocked},
		{"the last one held", intent(1, 4, op(1), op(2), op(30)), api.ErrLocked},
		{"an ID that is held for later", intent(1, 0, op(30)), api.ErrLocked},

		{"After ahead of no ops", intent(1, api.MaxStamp+1), api.ErrArg},
		{"After ahead of too many", intent(1, api.MaxStamp+1, append(sixteen(100), op(99))...), api.ErrArg},
		{"After ahead of the form", intent(1, api.MaxStamp+1, op(1, 1)), api.ErrArg},
		{"After ahead of the Txn", intent(7, api.MaxStamp+1, op(1)), api.ErrArg},
		{"After ahead of the held ID", intent(1, api.MaxStamp+1, op(20)), api.ErrArg},
		{"no ops ahead of the Txn", intent(7, 4), api.ErrShort},
		{"too many ahead of the Txn and the held ID", intent(7, 4, append(sixteen(20), op(99))...), api.ErrLong},
		{"the form ahead of the Txn", intent(7, 4, op(1, 1)), api.ErrForm},
		{"the form ahead of the held ID", intent(1, 4, op(20), op(1, 1)), api.ErrForm},
		{"two of one ID ahead of the held ID", intent(1, 4, op(20), op(20)), api.ErrExists},
		{"the Txn ahead of the held ID", intent(7, 4, op(30)), api.ErrExists},
	} {
		t.Run(c.name, func(t *testing.T) {
			m := model{dim: 2, mark: 2, entries: []vault.Entry{entry(40, at(5, 1, 2))},
				intents: []vault.Intent{intent(7, 3, op(20, 1, 2), op(21)), intent(8, 9, op(30, 3, 4))}}
			v := filled(t, m)
			must(t, "Lock", v.Lock(c.i), c.want)
			if e := m.lock(c.i); e != c.want {
				t.Fatalf("the model's Lock = %d, want %d", e, c.want)
			}
			mustHold(t, v, m)
		})
	}
}

// TestLockIsOver: an ID is held till its intent was freed or applied, and no other one's is let go.
func TestLockIsOver(t *testing.T) {
	for _, applied := range []bool{false, true} {
		v := made(t, 1)
		first, second := intent(7, 3, op(1, 5), op(2)), intent(8, 3, op(3, 6))
		must(t, "Lock 7", v.Lock(first), api.OK)
		must(t, "Lock 8", v.Lock(second), api.OK)
		for _, id := range []uint64{1, 2, 3} {
			must(t, "Lock 9", v.Lock(intent(9, 0, op(id))), api.ErrLocked)
		}
		m := model{dim: 1, intents: []vault.Intent{second}}
		if applied {
			must(t, "Apply(7, 4)", v.Apply(7, 4), api.OK)
			m.entries = []vault.Entry{entry(1, at(4, 5)), entry(2, at(4))}
		} else {
			must(t, "Free(7)", v.Free(7), api.OK)
		}
		mustHold(t, v, m)
		must(t, "Lock 9 of 3", v.Lock(intent(9, 0, op(1), op(3))), api.ErrLocked)
		must(t, "Lock 9 of 1 and 2", v.Lock(intent(9, 0, op(1), op(2))), api.OK)
		must(t, "Lock 7 again, of 1", v.Lock(first), api.ErrLocked)
		must(t, "Free(9)", v.Free(9), api.OK)
		must(t, "Lock 7 again", v.Lock(first), api.OK)
		m.intents = []vault.Intent{first, second}
		mustHold(t, v, m)
	}
}

func TestFreeOfNone(t *testing.T) {
	v := made(t, 1)
	must(t, "Free(0)", v.Free(0), api.ErrNone)
	must(t, "Lock", v.Lock(intent(7, 3, op(1, 5))), api.OK)
	for _, txn := range []uint64{0, 1, 6, 8, math.MaxUint64} {
		must(t, "Free", v.Free(txn), api.ErrNone)
	}
	mustHold(t, v, model{dim: 1, intents: []vault.Intent{intent(7, 3, op(1, 5))}})
	must(t, "Free(7)", v.Free(7), api.OK)
	must(t, "Free(7), once more", v.Free(7), api.ErrNone)
	mustHold(t, v, model{dim: 1})
}

func TestApply(t *testing.T) {
	for _, c := range []struct {
		name       string
		txn, stamp uint64
		want       api.Errno
	}{
		{"at 0", 5, 0, api.ErrArg},
		{"at MaxStamp", 5, api.MaxStamp, api.OK},
		{"above MaxStamp", 5, api.MaxStamp + 1, api.ErrArg},
		{"far above MaxStamp", 5, math.MaxUint64, api.ErrArg},
		{"at its After", 6, 30, api.ErrArg},
		{"below its After", 6, 29, api.ErrArg},
		{"above its After", 6, 31, api.OK},
		{"After MaxStamp", 9, api.MaxStamp, api.ErrArg},
		{"none, at 0", 1, 0, api.ErrArg},
		{"none, at 1", 1, 1, api.ErrNone},
		{"none", 1, 25, api.ErrNone},
		{"none, at MaxStamp", 1, api.MaxStamp, api.ErrNone},
		{"none, above MaxStamp", 1, api.MaxStamp + 1, api.ErrArg},
		{"an ID has a version there", 7, 20, api.ErrExists},
		{"an ID has a version above", 7, 19, api.ErrExists},
		{"above an ID's last version", 7, 21, api.OK},
		{"an ID has a delete there", 8, 22, api.ErrExists},
		{"above an ID's delete", 8, 23, api.OK},
		{"at the mark", 5, 10, api.ErrLate},
		{"below the mark", 5, 9, api.ErrLate},
		{"at 1, below the mark", 5, 1, api.ErrLate},
		{"above the mark", 5, 11, api.OK},

		{"the stamp ahead of none", 1, api.MaxStamp + 1, api.ErrArg},
		{"its After ahead of a version and the mark", 4, 5, api.ErrArg},
		{"a version ahead of the mark", 4, 9, api.ErrExists},
		{"a version ahead of the mark, at it", 4, 10, api.ErrExists},
	} {
		t.Run(c.name, func(t *testing.T) {
			m := model{dim: 1, mark: 10,
				entries: []vault.Entry{entry(1, at(12, 1), at(20, 2)), entry(2, at(15, 3), at(22)), entry(3, at(4, 7), at(10, 8))},
				intents: []vault.Intent{
					intent(4, 8, op(3, 9)),
					intent(5, 0, op(50, 1), op(51)),
					intent(6, 30, op(60, 1)),
					intent(7, 3, op(70, 1), op(1, 9)),
					intent(8, 3, op(2, 1), op(80)),
					intent(9, api.MaxStamp, op(90, 1)),
				}}
			v := filled(t, m)
			must(t, "Apply", v.Apply(c.txn, c.stamp), c.want)
			if e := m.apply(c.txn, c.stamp); e != c.want {
				t.Fatalf("the model's Apply = %d, want %d", e, c.want)
			}
			mustHold(t, v, m)
			if c.want == api.OK {
				must(t, "Apply, once more", v.Apply(c.txn, c.stamp), api.ErrNone)
				mustHold(t, v, m)
			}
		})
	}
}

func TestApplyAtOne(t *testing.T) {
	v := made(t, 1)
	must(t, "Lock", v.Lock(intent(7, 0, op(1, 5))), api.OK)
	must(t, "Apply(7, 0)", v.Apply(7, 0), api.ErrArg)
	must(t, "Apply(7, 1)", v.Apply(7, 1), api.OK)
	mustHold(t, v, model{dim: 1, entries: []vault.Entry{entry(1, at(1, 5))}})
}

// TestDeletes: a delete is a version too, also of an ID that was never there.
func TestDeletes(t *testing.T) {
	v := made(t, 2)
	must(t, "Lock 1", v.Lock(intent(1, 0, op(9, 1, 2), op(4, 3, 4))), api.OK)
	must(t, "Apply(1, 3)", v.Apply(1, 3), api.OK)
	must(t, "Lock 2", v.Lock(intent(2, 3, op(9), op(4, 5, 6), op(7))), api.OK)
	must(t, "Apply(2, 5)", v.Apply(2, 5), api.OK)
	mustHold(t, v, model{dim: 2, entries: []vault.Entry{
		entry(4, at(3, 3, 4), at(5, 5, 6)),
		entry(7, at(5)),
		entry(9, at(3, 1, 2), at(5)),
	}})
	for _, c := range []struct {
		stamp uint64
		want  []api.Hit
	}{
		{2, nil},
		{3, []api.Hit{{ID: 4, Vec: []int32{3, 4}}, {ID: 9, Vec: []int32{1, 2}}}},
		{4, []api.Hit{{ID: 4, Vec: []int32{3, 4}}, {ID: 9, Vec: []int32{1, 2}}}},
		{5, []api.Hit{{ID: 4, Vec: []int32{5, 6}}}},
		{math.MaxUint64, []api.Hit{{ID: 4, Vec: []int32{5, 6}}}},
	} {
		if got, e := v.Scan(c.stamp); e != api.OK || !sameHits(got, c.want) {
			t.Errorf("Scan(%d) = %v, %d, want %v", c.stamp, got, e, c.want)
		}
	}
	if p, ok, e := v.Get(9, 5); p != nil || ok || e != api.OK {
		t.Error("Get(9, 5) =", p, ok, e)
	}
}

// asked is a vault with a mark, versions, a deleted ID, and an intent, After which it is blocked.
func asked(t *testing.T) *vault.Vault {
	t.Helper()
	return filled(t, model{dim: 1, mark: 10,
		entries: []vault.Entry{entry(1, at(8, 1), at(12, 2)), entry(2, at(9, 3)), entry(3, at(10, 4), at(11)), entry(4, at(30, 5))},
		intents: []vault.Intent{intent(7, 20, op(2, 6), op(50)), intent(8, 25, op(4))},
	})
}

func TestGet(t *testing.T) {
	v := asked(t)
	for _, c := range []struct {
		name      string
		id, stamp uint64
		want      []int32
		e         api.Errno
	}{
		{"below the mark", 1, 9, nil, api.ErrLate},
		{"at 0, below the mark", 1, 0, nil, api.ErrLate},
		{"at the mark", 1, 10, []int32{1}, api.OK},
		{"above the mark", 1, 11, []int32{1}, api.OK},
		{"at its stamp", 1, 12, []int32{2}, api.OK},
		{"another one is held", 1, 21, []int32{2}, api.OK},
		{"above MaxStamp", 1, math.MaxUint64, []int32{2}, api.OK},
		{"held, below the mark", 2, 9, nil, api.ErrLate},
		{"held, at the mark", 2, 10, []int32{3}, api.OK},
		{"held, at After", 2, 20, []int32{3}, api.OK},
		{"held, above After", 2, 21, nil, api.ErrLocked},
		{"held, above MaxStamp", 2, math.MaxUint64, nil, api.ErrLocked},
		{"held by the other one", 4, 25, nil, api.OK},
		{"held by the other one, above After", 4, 26, nil, api.ErrLocked},
		{"held, its versions later", 4, 30, nil, api.ErrLocked},
		{"ahead of a delete", 3, 10, []int32{4}, api.OK},
		{"deleted", 3, 11, nil, api.OK},
		{"deleted, later", 3, 50, nil, api.OK},
		{"never there", 5, 30, nil, api.OK},
		{"never there, below the mark", 5, 9, nil, api.ErrLate},
		{"never there, held", 50, 20, nil, api.OK},
		{"never there, held, above After", 50, 21, nil, api.ErrLocked},
		{"no ID", math.MaxUint64, 30, nil, api.OK},
	} {
		got, ok, e := v.Get(c.id, c.stamp)
		if e != c.e || ok != (len(c.want) > 0) || !slices.Equal(got, c.want) || !ok && got != nil {
			t.Errorf("%s: Get(%d, %d) = %v, %t, %d, want %v, %d", c.name, c.id, c.stamp, got, ok, e, c.want, c.e)
		}
	}
}

func TestScan(t *testing.T) {
	v := asked(t)
	hit := func(id uint64, n int32) api.Hit { return api.Hit{ID: id, Vec: []int32{n}} }
	for _, c := range []struct {
		stamp uint64
		want  []api.Hit
		e     api.Errno
	}{
		{0, nil, api.ErrLate},
		{9, nil, api.ErrLate},
		{10, []api.Hit{hit(1, 1), hit(2, 3), hit(3, 4)}, api.OK},
		{11, []api.Hit{hit(1, 1), hit(2, 3)}, api.OK},
		{12, []api.Hit{hit(1, 2), hit(2, 3)}, api.OK},
		{20, []api.Hit{hit(1, 2), hit(2, 3)}, api.OK},
		{21, nil, api.ErrLocked},
		{math.MaxUint64, nil, api.ErrLocked},
	} {
		if got, e := v.Scan(c.stamp); e != c.e || !sameHits(got, c.want) {
			t.Errorf("Scan(%d) = %v, %d, want %v, %d", c.stamp, got, e, c.want, c.e)
		}
	}
}

// TestLockedAheadOfLate: an intent below the mark blocks below the mark, too.
func TestLockedAheadOfLate(t *testing.T) {
	v := filled(t, model{dim: 1, mark: 10, entries: []vault.Entry{entry(1, at(8, 1))}, intents: []vault.Intent{intent(7, 4, op(1, 6))}})
	for stamp, want := range map[uint64]api.Errno{3: api.ErrLate, 4: api.ErrLate, 5: api.ErrLocked, 9: api.ErrLocked, 10: api.ErrLocked} {
		if _, _, e := v.Get(1, stamp); e != want {
			t.Errorf("Get(1, %d) = %d, want %d", stamp, e, want)
		}
		if _, e := v.Scan(stamp); e != want {
			t.Errorf("Scan(%d) = %d, want %d", stamp, e, want)
		}
	}
}

func TestBlocked(t *testing.T) {
	v := asked(t)
	for _, c := range []struct {
		stamp uint64
		ids   []uint64
		want  bool
	}{
		{0, nil, false},
		{20, nil, false},
		{20, []uint64{}, false},
		{21, nil, true},
		{21, []uint64{}, true},
		{math.MaxUint64, nil, true},
		{20, []uint64{2}, false},
		{21, []uint64{2}, true},
		{21, []uint64{50}, true},
		{25, []uint64{4}, false},
		{26, []uint64{4}, true},
		{26, []uint64{1}, false},
		{math.MaxUint64, []uint64{1, 3, 5, 0, math.MaxUint64}, false},
		{21, []uint64{1, 3, 4}, false},
		{21, []uint64{1, 3, 4, 2}, true},
		{21, []uint64{2, 1, 1}, true},
		{26, []uint64{1, 1, 4}, true},
		{20, []uint64{2, 50, 4}, false},
	} {
		if got := v.Blocked(c.stamp, c.ids...); got != c.want {
			t.Errorf("Blocked(%d, %d) = %t", c.stamp, c.ids, got)
		}
	}
	must(t, "Free(7)", v.Free(7), api.OK)
	if v.Blocked(25) || !v.Blocked(26) || v.Blocked(26, 2, 50) {
		t.Error("behind Free(7):", v.Blocked(25), v.Blocked(26), v.Blocked(26, 2, 50))
	}
	must(t, "Apply(8, 31)", v.Apply(8, 31), api.OK)
	if v.Blocked(math.MaxUint64) || v.Blocked(math.MaxUint64, 2, 4, 50) {
		t.Error("behind Apply(8, 31)")
	}
}

func TestSweep(t *testing.T) {
	for _, c := range []struct {
		name string
		mark uint64
		gone []vault.Gone
		left []vault.Entry
	}{
		{"at 0", 0, nil, nil},
		{"below the mark", 9, nil, nil},
		{"at the mark", 10, nil, nil},
		{"above the mark", 11, []vault.Gone{{ID: 2, Stamp: 5}, {ID: 3, Stamp: 10}, {ID: 3, Stamp: 11}}, []vault.Entry{
			entry(1, at(8, 1), at(12, 2)), entry(2, at(9, 3)), entry(4, at(30, 5), at(31))}},
		{"at a version", 12, []vault.Gone{{ID: 1, Stamp: 8}, {ID: 2, Stamp: 5}, {ID: 3, Stamp: 10}, {ID: 3, Stamp: 11}}, []vault.Entry{
			entry(1, at(12, 2)), entry(2, at(9, 3)), entry(4, at(30, 5), at(31))}},
		{"at a vector, ahead of a delete", 30, []vault.Gone{{ID: 1, Stamp: 8}, {ID: 2, Stamp: 5}, {ID: 3, Stamp: 10}, {ID: 3, Stamp: 11}}, []vault.Entry{
			entry(1, at(12, 2)), entry(2, at(9, 3)), entry(4, at(30, 5), at(31))}},
		{"at the last delete", 31, []vault.Gone{{ID: 1, Stamp: 8}, {ID: 2, Stamp: 5}, {ID: 3, Stamp: 10}, {ID: 3, Stamp: 11}, {ID: 4, Stamp: 30}, {ID: 4, Stamp: 31}}, []vault.Entry{
			entry(1, at(12, 2)), entry(2, at(9, 3))}},
		{"at MaxStamp", api.MaxStamp, []vault.Gone{{ID: 1, Stamp: 8}, {ID: 2, Stamp: 5}, {ID: 3, Stamp: 10}, {ID: 3, Stamp: 11}, {ID: 4, Stamp: 30}, {ID: 4, Stamp: 31}}, []vault.Entry{
			entry(1, at(12, 2)), entry(2, at(9, 3))}},
		{"above MaxStamp", api.MaxStamp + 1, []vault.Gone{{ID: 1, Stamp: 8}, {ID: 2, Stamp: 5}, {ID: 3, Stamp: 10}, {ID: 3, Stamp: 11}, {ID: 4, Stamp: 30}, {ID: 4, Stamp: 31}}, []vault.Entry{
			entry(1, at(12, 2)), entry(2, at(9, 3))}},
	} {
		t.Run(c.name, func(t *testing.T) {
			m := model{dim: 1, mark: 10,
				entries: []vault.Entry{entry(1, at(8, 1), at(12, 2)), entry(2, at(5, 9), at(9, 3)), entry(3, at(10, 4), at(11)), entry(4, at(30, 5), at(31))},
				intents: []vault.Intent{intent(7, 20, op(2, 6), op(50)), intent(8, 2, op(4))}}
			v := filled(t, m)
			if got := v.Sweep(c.mark); !slices.Equal(got, c.gone) {
				t.Fatalf("Sweep(%d) = %v, want %v", c.mark, got, c.gone)
			}
			if c.mark > 10 {
				m.mark, m.entries = min(c.mark, api.MaxStamp), c.left
			}
			mustHold(t, v, m)
			if got := v.Sweep(c.mark); len(got) != 0 {
				t.Fatalf("Sweep(%d), once more = %v", c.mark, got)
			}
			mustHold(t, v, m)
		})
	}
}

func TestSweepOfAnEmptyVault(t *testing.T) {
	v := made(t, 1)
	for _, c := range [][2]uint64{{0, 0}, {1, 1}, {0, 1}, {9, 9}, {8, 9}, {api.MaxStamp, api.MaxStamp}} {
		if got := v.Sweep(c[0]); len(got) != 0 {
			t.Fatalf("Sweep(%d) = %v", c[0], got)
		}
		mustHold(t, v, model{dim: 1, mark: c[1]})
	}
	w := made(t, 1)
	if got := w.Sweep(math.MaxUint64); len(got) != 0 || w.Mark() != api.MaxStamp {
		t.Fatal("Sweep above MaxStamp:", got, w.Mark())
	}
	if got := w.Sweep(math.MaxUint64); len(got) != 0 || w.Mark() != api.MaxStamp {
		t.Fatal("Sweep above MaxStamp, once more:", got, w.Mark())
	}
}

// TestBehindSweep: an ID whose chain is no more may be put again, above the mark.
func TestBehindSweep(t *testing.T) {
	v := filled(t, model{dim: 1, entries: []vault.Entry{entry(1, at(5, 1), at(7))}})
	if got := v.Sweep(9); !slices.Equal(got, []vault.Gone{{ID: 1, Stamp: 5}, {ID: 1, Stamp: 7}}) {
		t.Fatal("Sweep(9) =", got)
	}
	if v.Last() != 0 || len(v.Dump()) != 0 {
		t.Fatal("the chain is there:", v.Last(), v.Dump())
	}
	must(t, "Lock", v.Lock(intent(3, 0, op(1, 2))), api.OK)
	for _, stamp := range []uint64{1, 6, 8, 9} {
		must(t, "Apply", v.Apply(3, stamp), api.ErrLate)
	}
	must(t, "Apply(3, 10)", v.Apply(3, 10), api.OK)
	mustHold(t, v, model{dim: 1, mark: 9, entries: []vault.Entry{entry(1, at(10, 2))}})
}

func TestLast(t *testing.T) {
	v := made(t, 1)
	if v.Last() != 0 {
		t.Fatal("Last() of an empty vault =", v.Last())
	}
	for i, c := range []struct{ id, stamp, want uint64 }{{1, 5, 5}, {2, 3, 5}, {3, 9, 9}, {1, 7, 9}, {2, 12, 12}} {
		must(t, "Lock", v.Lock(intent(uint64(i), 0, op(c.id, 1))), api.OK)
		must(t, "Apply", v.Apply(uint64(i), c.stamp), api.OK)
		if got := v.Last(); got != c.want {
			t.Fatalf("Last() = %d, want %d", got, c.want)
		}
	}
	must(t, "Lock", v.Lock(intent(9, 0, op(3))), api.OK)
	must(t, "Apply", v.Apply(9, 20), api.OK)
	if v.Last() != 20 {
		t.Fatal("Last(), a delete =", v.Last())
	}
	v.Sweep(20)
	if v.Last() != 12 {
		t.Fatal("Last(), the delete swept =", v.Last())
	}
}

func TestLoad(t *testing.T) {
	nine := make([]int32, api.MaxDim+1)
	right := entry(5, at(3, 1, 2))
	for _, c := range []struct {
		name string
		mark uint64
		l    []vault.Entry
		want api.Errno
	}{
		{"no entries", 4, nil, api.OK},
		{"no entries, mark 0", 0, nil, api.OK},
		{"mark MaxStamp", api.MaxStamp, []vault.Entry{right}, api.OK},
		{"the least and the greatest ID", 4, []vault.Entry{entry(0, at(1, 1, 2)), entry(api.MaxID, at(api.MaxStamp, 1, 2))}, api.OK},
		{"rising", 4, []vault.Entry{entry(1, at(3, 1, 2)), right, entry(9, at(3), at(5, 1, 2))}, api.OK},
		{"not rising", 4, []vault.Entry{entry(9, at(3, 1, 2)), right, entry(1, at(3, 1, 2))}, api.OK},
		{"only a delete", 4, []vault.Entry{entry(9, at(3))}, api.OK},
		{"a delete, its Vec empty", 4, []vault.Entry{entry(9, chain.Version{Stamp: 3, Vec: []int32{}})}, api.OK},
		{"versions that a sweep would take", 9, []vault.Entry{entry(9, at(3, 1, 2), at(5), at(7))}, api.OK},

		{"mark above", api.MaxStamp + 1, nil, api.ErrArg},
		{"mark far above", math.MaxUint64, []vault.Entry{right}, api.ErrArg},
		{"an ID above", 4, []vault.Entry{right, entry(api.MaxID+1, at(3, 1, 2))}, api.ErrForm},
		{"the greatest number as an ID", 4, []vault.Entry{entry(math.MaxUint64, at(3, 1, 2))}, api.ErrForm},
		{"twice the same ID", 4, []vault.Entry{right, right}, api.ErrForm},
		{"twice the same ID, not side by side", 4, []vault.Entry{right, entry(1, at(3, 1, 2)), entry(5, at(4, 1, 2))}, api.ErrForm},
		{"no versions", 4, []vault.Entry{right, entry(1)}, api.ErrForm},
		{"no versions, an empty list", 4, []vault.Entry{{ID: 1, Versions: []chain.Version{}}, right}, api.ErrForm},
		{"stamp 0", 4, []vault.Entry{entry(1, at(0, 1, 2))}, api.ErrForm},
		{"a stamp above", 4, []vault.Entry{entry(1, at(3, 1, 2), at(api.MaxStamp+1))}, api.ErrForm},
		{"stamps that don't rise", 4, []vault.Entry{entry(1, at(3, 1, 2), at(3, 1, 2))}, api.ErrForm},
		{"stamps that fall", 4, []vault.Entry{right, entry(1, at(3, 1, 2), at(2, 1, 2))}, api.ErrForm},
		{"a number above", 4, []vault.Entry{entry(1, at(3, 1, api.MaxCoord+1))}, api.ErrForm},
		{"too many numbers", 4, []vault.Entry{{ID: 1, Versions: []chain.Version{{Stamp: 3, Vec: nine}}}}, api.ErrForm},
		{"another dim", 4, []vault.Entry{entry(1, at(3, 1))}, api.ErrForm},
		{"another dim, longer", 4, []vault.Entry{entry(1, at(3, 1, 2, 3))}, api.ErrForm},
		{"another dim, the last version", 4, []vault.Entry{right, entry(1, at(3, 1, 2), at(4), at(5, 1))}, api.ErrForm},
		{"the mark ahead of the form", api.MaxStamp + 1, []vault.Entry{entry(1)}, api.ErrArg},
	} {
		t.Run(c.name, func(t *testing.T) {
			v := made(t, 2)
			must(t, "Load", v.Load(c.mark, c.l...), c.want)
			m := model{dim: 2}
			if c.want == api.OK {
				m.mark = c.mark
				for _, e := range c.l {
					for _, version := range e.Versions {
						m.put(e.ID, version)
					}
				}
			}
			mustHold(t, v, m)
		})
	}
}

func TestLoadOfAVaultThatIsntEmpty(t *testing.T) {
	for _, m := range []model{
		{dim: 1, mark: 1},
		{dim: 1, entries: []vault.Entry{entry(1, at(3, 1))}},
		{dim: 1, entries: []vault.Entry{entry(1, at(3))}},
		{dim: 1, intents: []vault.Intent{intent(0, 0, op(0))}},
		{dim: 1, mark: 2, entries: []vault.Entry{entry(1, at(3, 1))}, intents: []vault.Intent{intent(7, 3, op(1))}},
	} {
		v := filled(t, m)
		must(t, "Load(0)", v.Load(0), api.ErrState)
		must(t, "Load", v.Load(9, entry(5, at(3, 1))), api.ErrState)
		must(t, "Load above MaxStamp", v.Load(api.MaxStamp+1, entry(5)), api.ErrArg)
		must(t, "Load of another form", v.Load(9, entry(5)), api.ErrForm)
		mustHold(t, v, m)
	}
}

// TestLoadOfOneThatIsEmptyAgain: what was let go is in no load's way; what was swept leaves a mark.
func TestLoadOfOneThatIsEmptyAgain(t *testing.T) {
	v := made(t, 1)
	must(t, "Lock", v.Lock(intent(7, 3, op(1, 5))), api.OK)
	must(t, "Free", v.Free(7), api.OK)
	must(t, "Load of nothing", v.Load(0), api.OK)
	must(t, "Load", v.Load(0, entry(1, at(3))), api.OK)
	v.Sweep(3)
	must(t, "Load behind a sweep", v.Load(0, entry(1, at(3))), api.ErrState)
	mustHold(t, v, model{dim: 1, mark: 3})
}

func TestDumpAndLoad(t *testing.T) {
	m := model{dim: 2, mark: 4, entries: []vault.Entry{
		entry(0, at(5, 1, 2), at(7)),
		entry(3, at(1)),
		entry(9, at(2, 1, -1), at(4), at(8, api.MaxCoord, -api.MaxCoord)),
		entry(api.MaxID, at(api.MaxStamp, 0, 0)),
	}, intents: []vault.Intent{intent(7, 3, op(9))}}
	v, w := filled(t, m), made(t, 2)
	must(t, "Load", w.Load(v.Mark(), v.Dump()...), api.OK)
	m.intents = nil
	mustHold(t, w, m)
	must(t, "Lock", w.Lock(intent(7, 3, op(3, 1, 1))), api.OK)
	must(t, "Apply", w.Apply(7, 6), api.OK)
	if got := v.Dump(); !sameEntries(got, m.entries) {
		t.Fatal("the one that was dumped has changed:", got)
	}
}

func TestIntentsRise(t *testing.T) {
	v := made(t, 1)
	m := model{dim: 1}
	for i, txn := range []uint64{5, 0, math.MaxUint64, 7, 1 << 40, 6, 1} {
		in := intent(txn, uint64(i), op(uint64(20-i), 1), op(uint64(30+i)))
		must(t, "Lock", v.Lock(in), api.OK)
		m.lock(in)
		mustHold(t, v, m)
	}
	want := []uint64{0, 1, 5, 6, 7, 1 << 40, math.MaxUint64}
	for i, in := range v.Intents() {
		if in.Txn != want[i] {
			t.Fatal("Intents() =", v.Intents())
		}
	}
}

// TestMany: many intents and IDs.
func TestMany(t *testing.T) {
	const many = 20000
	v := made(t, 1)
	for i := range uint64(many) {
		must(t, "Lock", v.Lock(intent(many-i, i, op(i, int32(i)), op(many+i))), api.OK)
	}
	for i := range uint64(many) {
		if v.Blocked(i, i, many+i) || !v.Blocked(i+1, many+i) {
			t.Fatal("blocked:", i)
		}
		must(t, "Apply", v.Apply(many-i, i+1), api.OK)
	}
	hits, e := v.Scan(many)
	if len(hits) != many || e != api.OK || len(v.Dump()) != 2*many || v.Last() != many {
		t.Fatal(len(hits), e, len(v.Dump()), v.Last())
	}
	if gone := v.Sweep(many / 2); len(gone) != many/2 || gone[0] != (vault.Gone{ID: many, Stamp: 1}) {
		t.Fatal(len(gone), gone[0])
	}
}

// TestArgumentsStay: what is handed in is neither changed nor kept, its spare room neither.
func TestArgumentsStay(t *testing.T) {
	vec, more := []int32{1, 2, 99}, []int32{3, 4, 98}
	ops := []api.Op{{ID: 5, Vec: vec[:2]}, {ID: 3, Vec: more[:2]}, {ID: 77}}
	versions := []chain.Version{{Stamp: 2, Vec: vec[:2]}, {Stamp: 3, Vec: more[:2]}, {Stamp: 88}}
	entries := []vault.Entry{{ID: 9, Versions: versions[:2]}, {ID: 8, Versions: versions[:1]}, {ID: 66}}
	ids := []uint64{9, 5, 3}

	v := made(t, 2)
	must(t, "Load", v.Load(1, entries[:2]...), api.OK)
	must(t, "Lock", v.Lock(vault.Intent{Txn: 7, After: 2, Ops: ops[:2]}), api.OK)
	v.Blocked(3, ids[:2]...)
	told := fmt.Sprint(vec, more, ops, versions, entries, ids)
	if want := "[1 2 99] [3 4 98] [{5 [1 2]} {3 [3 4]} {77 []}] [{2 [1 2]} {3 [3 4]} {88 []}] " +
		"[{9 [{2 [1 2]} {3 [3 4]}]} {8 [{2 [1 2]}]} {66 []}] [9 5 3]"; told != want {
		t.Fatal("the arguments were changed:", told)
	}
	for i := range vec {
		vec[i], more[i], ids[i] = -1, -1, 0
	}
	clear(ops)
	clear(versions)
	clear(entries)
	m := model{dim: 2, mark: 1,
		entries: []vault.Entry{entry(8, at(2, 1, 2)), entry(9, at(2, 1, 2), at(3, 3, 4))},
		intents: []vault.Intent{intent(7, 2, op(5, 1, 2), op(3, 3, 4))}}
	mustHold(t, v, m)
	must(t, "Apply", v.Apply(7, 4), api.OK)
	m.apply(7, 4)
	mustHold(t, v, m)
}

// overwrite writes over all of a list, its spare room too.
func overwrite[E any](l []E, with E) {
	l = l[:cap(l)]
	for i := range l {
		l[i] = with
	}
}

// stored is a vault of two IDs that have vectors, of which one is gone later, with two intents.
func stored(t *testing.T) (*vault.Vault, model) {
	t.Helper()
	m := model{dim: 2,
		entries: []vault.Entry{entry(1, at(2, 1, 2), at(3, 3, 4)), entry(4, at(2, 5, 6), at(9))},
		intents: []vault.Intent{intent(7, 3, op(2, 1, 2), op(1, 3, 4)), intent(8, 5, op(4, 5, 6))}}
	return filled(t, m), m
}

// TestAnswersAreNew: an answer that is written over is seen neither in the vault nor in another answer, or list of it.
func TestAnswersAreNew(t *testing.T) {
	v, m := stored(t)

	first, _, _ := v.Get(1, 2)
	second, _, _ := v.Get(1, 2)
	overwrite(first, -1)
	if !slices.Equal(second, []int32{1, 2}) {
		t.Fatal("two answers of Get share memory:", second)
	}

	hits, _ := v.Scan(2)
	more, _ := v.Scan(2)
	overwrite(hits[0].Vec, -1)
	if !slices.Equal(hits[1].Vec, []int32{5, 6}) {
		t.Fatal("two vectors of one Scan share memory:", hits)
	}
	overwrite(hits[1].Vec, -1)
	overwrite(hits, api.Hit{ID: 77})
	if !sameHits(more, []api.Hit{{ID: 1, Vec: []int32{1, 2}}, {ID: 4, Vec: []int32{5, 6}}}) {
		t.Fatal("two answers of Scan share memory:", more)
	}
	mustHold(t, v, m)

	gone, later := v.Sweep(5), v.Sweep(9)
	overwrite(gone, vault.Gone{})
	if !slices.Equal(later, []vault.Gone{{ID: 4, Stamp: 2}, {ID: 4, Stamp: 9}}) {
		t.Fatal("two answers of Sweep share memory:", later)
	}
	overwrite(later, vault.Gone{})
	m.sweep(9)
	mustHold(t, v, m)
}

func TestIntentsAreNew(t *testing.T) {
	v, m := stored(t)
	l, other := v.Intents(), v.Intents()
	overwrite(l[0].Ops[0].Vec, -1)
	overwrite(l[0].Ops[1].Vec, -1)
	overwrite(l[0].Ops, op(77))
	if !sameIntents(l[1:], m.intents[1:]) {
		t.Fatal("two lists of one answer of Intents share memory:", l)
	}
	overwrite(l[1].Ops[0].Vec, -1)
	overwrite(l[1].Ops, op(77))
	overwrite(l, intent(77, 0))
	if !sameIntents(other, m.intents) {
		t.Fatal("two answers of Intents share memory:", other)
	}
	mustHold(t, v, m)
	must(t, "Apply", v.Apply(7, 4), api.OK)
	if !sameIntents(other, m.intents) {
		t.Fatal("an earlier answer of Intents has changed:", other)
	}
	overwrite(other[0].Ops[0].Vec, -1)
	m.apply(7, 4)
	mustHold(t, v, m)
}

func TestDumpIsNew(t *testing.T) {
	v, m := stored(t)
	l, other := v.Dump(), v.Dump()
	overwrite(l[0].Versions[0].Vec, -1)
	overwrite(l[0].Versions[1].Vec, -1)
	overwrite(l[0].Versions, at(77))
	if !sameEntries(l[1:], m.entries[1:]) {
		t.Fatal("two lists of one answer of Dump share memory:", l)
	}
	overwrite(l[1].Versions, at(77))
	overwrite(l, entry(77))
	if !sameEntries(other, m.entries) {
		t.Fatal("two answers of Dump share memory:", other)
	}
	mustHold(t, v, m)
	entries := m.entries
	v.Sweep(9)
	if !sameEntries(other, entries) {
		t.Fatal("an earlier answer of Dump has changed:", other)
	}
}

// TestVaultsAreApart: what one vault is told, no other knows.
func TestVaultsAreApart(t *testing.T) {
	v, m := stored(t)
	w, n := stored(t)
	must(t, "Apply", v.Apply(7, 4), api.OK)
	m.apply(7, 4)
	must(t, "Free", w.Free(8), api.OK)
	n.free(8)
	w.Sweep(3)
	n.sweep(3)
	mustHold(t, v, m)
	mustHold(t, w, n)
}

func TestNilVault(t *testing.T) {
	var v *vault.Vault
	for _, i := range []vault.Intent{{}, intent(7, 3, op(1, 5)), intent(7, api.MaxStamp+1)} {
		must(t, "Lock", v.Lock(i), api.ErrNone)
	}
	for _, stamp := range []uint64{0, 1, api.MaxStamp, api.MaxStamp + 1, math.MaxUint64} {
		must(t, "Free", v.Free(stamp), api.ErrNone)
		must(t, "Apply", v.Apply(7, stamp), api.ErrNone)
		must(t, "Load", v.Load(stamp), api.ErrNone)
		must(t, "Load", v.Load(stamp, entry(1), entry(1)), api.ErrNone)
		if p, ok, e := v.Get(1, stamp); p != nil || ok || e != api.ErrNone {
			t.Errorf("Get = %v, %t, %d", p, ok, e)
		}
		if l, e := v.Scan(stamp); l != nil || e != api.ErrNone {
			t.Errorf("Scan = %v, %d", l, e)
		}
		if v.Blocked(stamp) || v.Blocked(stamp, 1, 2) {
			t.Error("Blocked")
		}
		if got := v.Sweep(stamp); len(got) != 0 {
			t.Errorf("Sweep = %v", got)
		}
	}
	if len(v.Intents()) != 0 || len(v.Dump()) != 0 || v.Mark() != 0 || v.Last() != 0 {
		t.Error(v.Intents(), v.Dump(), v.Mark(), v.Last())
	}
}
