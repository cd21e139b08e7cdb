package vault_test

import (
	"math"
	"math/rand"
	"slices"
	"testing"

	"armillary/api"
	"armillary/chain"
	"armillary/vault"
)

// model is a vault as the chapter tells it, told as plainly as may be.
type model struct {
	dim     int
	mark    uint64
	entries []vault.Entry  // by rising IDs
	intents []vault.Intent // by rising Txns
}

// wrongVec: has it numbers, but not dim right ones?
func wrongVec(dim int, v []int32) bool {
	if len(v) > 0 && len(v) != dim {
		return true
	}
	for _, n := range v {
		if n < -api.MaxCoord || n > api.MaxCoord {
			return true
		}
	}
	return false
}

// batch is what vec.Check answers.
func (m *model) batch(ops []api.Op) api.Errno {
	if len(ops) == 0 {
		return api.ErrShort
	}
	if len(ops) > api.MaxOps {
		return api.ErrLong
	}
	for _, op := range ops {
		if op.ID > api.MaxID || wrongVec(m.dim, op.Vec) {
			return api.ErrForm
		}
	}
	for i := range ops {
		for k := range i {
			if ops[i].ID == ops[k].ID {
				return api.ErrExists
			}
		}
	}
	return api.OK
}

func (m *model) lock(i vault.Intent) api.Errno {
	if i.After > api.MaxStamp {
		return api.ErrArg
	}
	if e := m.batch(i.Ops); e != api.OK {
		return e
	}
	for _, other := range m.intents {
		if other.Txn == i.Txn {
			return api.ErrExists
		}
	}
	for _, op := range i.Ops {
		if m.blocked(math.MaxUint64, op.ID) {
			return api.ErrLocked
		}
	}
	m.intents = append(slices.Clone(m.intents), i)
	slices.SortFunc(m.intents, func(a, b vault.Intent) int {
		if a.Txn < b.Txn {
			return -1
		}
		return 1
	})
	return api.OK
}

func (m *model) find(txn uint64) int {
	return slices.IndexFunc(m.intents, func(i vault.Intent) bool { return i.Txn == txn })
}

func (m *model) free(txn uint64) api.Errno {
	at := m.find(txn)
	if at < 0 {
		return api.ErrNone
	}
	m.intents = slices.Delete(slices.Clone(m.intents), at, at+1)
	return api.OK
}

// versions is an ID's versions.
func (m *model) versions(id uint64) []chain.Version {
	for _, e := range m.entries {
		if e.ID == id {
			return e.Versions
		}
	}
	return nil
}

func (m *model) apply(txn, stamp uint64) api.Errno {
	if stamp < 1 || stamp > api.MaxStamp {
		return api.ErrArg
	}
	at := m.find(txn)
	if at < 0 {
		return api.ErrNone
	}
	i := m.intents[at]
	if stamp <= i.After {
		return api.ErrArg
	}
	for _, op := range i.Ops {
		for _, v := range m.versions(op.ID) {
			if v.Stamp >= stamp {
				return api.ErrExists
			}
		}
	}
	if stamp <= m.mark {
		return api.ErrLate
	}
	for _, op := range i.Ops {
		m.put(op.ID, chain.Version{Stamp: stamp, Vec: op.Vec})
	}
	return m.free(txn)
}

func (m *model) put(id uint64, v chain.Version) {
	var l []vault.Entry
	for _, e := range m.entries {
		if e.ID < id {
			l = append(l, e)
		}
	}
	l = append(l, vault.Entry{ID: id, Versions: append(slices.Clone(m.versions(id)), v)})
	for _, e := range m.entries {
		if e.ID > id {
			l = append(l, e)
		}
	}
	m.entries = l
}

func (m *model) blocked(stamp uint64, ids ...uint64) bool {
	for _, i := range m.intents {
		for _, op := range i.Ops {
			if i.After < stamp && (len(ids) == 0 || slices.Contains(ids, op.ID)) {
				return true
			}
		}
	}
	return false
}

// asOf is what an ID with these versions has as of a stamp.
func asOf(l []chain.Version, stamp uint64) []int32 {
	var vec []int32
	for _, v := range l {
		if v.Stamp <= stamp {
			vec = v.Vec
		}
	}
	return vec
}

func (m *model) get(id, stamp uint64) ([]int32, bool, api.Errno) {
	if m.blocked(stamp, id) {
		return nil, false, api.ErrLocked
	}
	if stamp < m.mark {
		return nil, false, api.ErrLate
	}
	p := asOf(m.versions(id), stamp)
	return p, len(p) > 0, api.OK
}

func (m *model) scan(stamp uint64) ([]api.Hit, api.Errno) {
	if m.blocked(stamp) {
		return nil, api.ErrLocked
	}
	if stamp < m.mark {
		return nil, api.ErrLate
	}
	var hits []api.Hit
	for _, e := range m.entries {
		if p := asOf(e.Versions, stamp); len(p) > 0 {
			hits = append(hits, api.Hit{ID: e.ID, Vec: p})
		}
	}
	return hits, api.OK
}

func (m *model) sweep(mark uint64) []vault.Gone {
	if mark > api.MaxStamp {
		mark = api.MaxStamp
	}
	if mark <= m.mark {
		return nil
	}
	m.mark = mark
	var gone []vault.Gone
	var left []vault.Entry
	for _, e := range m.entries {
		var versions []chain.Version
		for i, v := range e.Versions {
			last := i+1 == len(e.Versions) || e.Versions[i+1].Stamp > mark
			if v.Stamp <= mark && (!last || len(v.Vec) == 0) {
				gone = append(gone, vault.Gone{ID: e.ID, Stamp: v.Stamp})
			} else {
				versions = append(versions, v)
			}
		}
		if len(versions) > 0 {
			left = append(left, vault.Entry{ID: e.ID, Versions: versions})
		}
	}
	m.entries = left
	return gone
}

func (m *model) last() uint64 {
	last := uint64(0)
	for _, e := range m.entries {
		for _, v := range e.Versions {
			last = max(last, v.Stamp)
		}
	}
	return last
}

// The same ones (nil and empty are one).

func sameOps(a, b []api.Op) bool {
	return slices.EqualFunc(a, b, func(a, b api.Op) bool {
		return a.ID == b.ID && slices.Equal(a.Vec, b.Vec)
	})
}

func sameIntents(a, b []vault.Intent) bool {
	return slices.EqualFunc(a, b, func(a, b vault.Intent) bool {
		return a.Txn == b.Txn && a.After == b.After && sameOps(a.Ops, b.Ops)
	})
}

func sameVersions(a, b []chain.Version) bool {
	return slices.EqualFunc(a, b, func(a, b chain.Version) bool {
		return a.Stamp == b.Stamp && slices.Equal(a.Vec, b.Vec)
	})
}

func sameEntries(a, b []vault.Entry) bool {
	return slices.EqualFunc(a, b, func(a, b vault.Entry) bool {
		return a.ID == b.ID && sameVersions(a.Versions, b.Versions)
	})
}

func sameHits(a, b []api.Hit) bool {
	return slices.EqualFunc(a, b, func(a, b api.Hit) bool {
		return a.ID == b.ID && a.Dist == b.Dist && slices.Equal(a.Vec, b.Vec)
	})
}

// mustHold holds all that a vault tells against what the model tells.
func mustHold(t *testing.T, v *vault.Vault, m model) {
	t.Helper()
	if got := v.Dump(); !sameEntries(got, m.entries) {
		t.Fatalf("Dump() = %v, want %v", got, m.entries)
	}
	if got := v.Intents(); !sameIntents(got, m.intents) {
		t.Fatalf("Intents() = %v, want %v", got, m.intents)
	}
	if v.Mark() != m.mark || v.Last() != m.last() {
		t.Fatalf("Mark() = %d, Last() = %d, want %d, %d", v.Mark(), v.Last(), m.mark, m.last())
	}
	ids, stamps := m.edges()
	for _, stamp := range stamps {
		mustScan(t, v, m, stamp)
		for _, id := range ids {
			mustGet(t, v, m, id, stamp)
		}
	}
}

// edges is the IDs and stamps at which an answer may turn, and some beside them.
func (m *model) edges() ([]uint64, []uint64) {
	ids := []uint64{0, api.MaxID, math.MaxUint64}
	stamps := []uint64{0, 1, m.mark - min(m.mark, 1), m.mark, m.mark + 1, api.MaxStamp, api.MaxStamp + 1, math.MaxUint64}
	for _, e := range m.entries {
		ids = append(ids, e.ID, e.ID+1)
		for _, v := range e.Versions {
			stamps = append(stamps, v.Stamp-1, v.Stamp, v.Stamp+1)
		}
	}
	for _, i := range m.intents {
		stamps = append(stamps, i.After, i.After+1)
		for _, op := range i.Ops {
			ids = append(ids, op.ID)
		}
	}
	slices.Sort(ids)
	slices.Sort(stamps)
	return slices.Compact(ids), slices.Compact(stamps)
}

func mustScan(t *testing.T, v *vault.Vault, m model, stamp uint64) {
	t.Helper()
	want, wanted := m.scan(stamp)
	if got, e := v.Scan(stamp); e != wanted || !sameHits(got, want) || e != api.OK && got != nil {
		t.Fatalf("Scan(%d) = %v, %d, want %v, %d", stamp, got, e, want, wanted)
	}
	if got := v.Blocked(stamp); got != m.blocked(stamp) {
		t.Fatalf("Blocked(%d) = %t", stamp, got)
	}
}

func mustGet(t *testing.T, v *vault.Vault, m model, id, stamp uint64) {
	t.Helper()
	want, has, wanted := m.get(id, stamp)
	if got, ok, e := v.Get(id, stamp); e != wanted || ok != has || !slices.Equal(got, want) || !ok && got != nil {
		t.Fatalf("Get(%d, %d) = %v, %t, %d, want %v, %t, %d", id, stamp, got, ok, e, want, has, wanted)
	}
	if got := v.Blocked(stamp, id); got != m.blocked(stamp, id) {
		t.Fatalf("Blocked(%d, %d) = %t", stamp, id, got)
	}
}

// someOps is a batch of a few IDs, now and then one that isn't right.
func someOps(r *rand.Rand, dim int) []api.Op {
	var ops []api.Op
	for range 1 + r.Intn(3) {
		o := api.Op{ID: uint64(r.Intn(12))}
		if r.Intn(3) > 0 {
			for range dim {
				o.Vec = append(o.Vec, int32(r.Intn(2*api.MaxCoord+1)-api.MaxCoord))
			}
		}
		ops = append(ops, o)
	}
	switch r.Intn(30) {
	case 0:
		ops = nil
	case 1:
		ops[0].ID = api.MaxID + 1
	case 2:
		ops[0].Vec = make([]int32, dim+1)
	case 3:
		ops = make([]api.Op, api.MaxOps+1)
	}
	return ops
}

// step tells both the same, and holds their answers against each other.
func step(t *testing.T, r *rand.Rand, v *vault.Vault, m *model) {
	t.Helper()
	txn, near := uint64(r.Intn(8)), m.last()+uint64(r.Intn(6))
	near -= min(near, 2)
	switch r.Intn(10) {
	case 0, 1, 2, 3:
		i := vault.Intent{Txn: txn, After: near, Ops: someOps(r, m.dim)}
		if r.Intn(40) == 0 {
			i.After = api.MaxStamp + 1
		}
		want := m.lock(i)
		if e := v.Lock(i); e != want {
			t.Fatalf("Lock(%v) = %d, want %d", i, e, want)
		}
	case 4, 5, 6, 7:
		want := m.apply(txn, near+1)
		if e := v.Apply(txn, near+1); e != want {
			t.Fatalf("Apply(%d, %d) = %d, want %d", txn, near+1, e, want)
		}
	case 8:
		want := m.free(txn)
		if e := v.Free(txn); e != want {
			t.Fatalf("Free(%d) = %d, want %d", txn, e, want)
		}
	default:
		mark := near - min(near, uint64(r.Intn(12)))
		want := m.sweep(mark)
		if got := v.Sweep(mark); !slices.Equal(got, want) {
			t.Fatalf("Sweep(%d) = %v, want %v", mark, got, want)
		}
	}
}

func TestAgainstModel(t *testing.T) {
	r := rand.New(rand.NewSource(8))
	for range 150 {
		dim := 1 + r.Intn(api.MaxDim)
		v, m := made(t, dim), model{dim: dim}
		for range 120 {
			step(t, r, v, &m)
			mustHold(t, v, m)
		}
		w := made(t, dim)
		must(t, "Load", w.Load(v.Mark(), v.Dump()...), api.OK)
		mustHold(t, w, model{dim: dim, mark: m.mark, entries: m.entries})
	}
}
