package juror_test

import (
	"bytes"
	"encoding/binary"
	"math"
	"math/rand"
	"slices"
	"testing"

	"armillary/api"
	"armillary/juror"
	"armillary/note"
	"armillary/vault"
	"armillary/vec"
)

// model is a juror as the chapter tells it, told as plainly as may be: a vault, and what stands beside it.
type model struct {
	self, dim int
	v         *vault.Vault
	parts     map[uint64][]int
	done      map[uint64]uint64
}

func newModel(t *testing.T, self, dim int) *model {
	t.Helper()
	v, e := vault.New(dim)
	must(t, "vault.New", e, api.OK)
	return &model{self, dim, v, map[uint64][]int{}, map[uint64]uint64{}}
}

// intent is a transaction's, or nil.
func (m *model) intent(txn uint64) *vault.Intent {
	for _, i := range m.v.Intents() {
		if i.Txn == txn {
			return &i
		}
	}
	return nil
}

// holder: does any intent have one of the ops' IDs?
func (m *model) holder(ops []api.Op) bool {
	for _, i := range m.v.Intents() {
		for _, held := range i.Ops {
			for _, op := range ops {
				if held.ID == op.ID {
					return true
				}
			}
		}
	}
	return false
}

// greatest is the greatest stamp of a version of one of the ops' IDs, or 0.
func (m *model) greatest(ops []api.Op) uint64 {
	top := uint64(0)
	for _, entry := range m.v.Dump() {
		for _, version := range entry.Versions {
			for _, op := range ops {
				if op.ID == entry.ID {
					top = max(top, version.Stamp)
				}
			}
		}
	}
	return top
}

func (m *model) plan(from int, n note.Note) juror.Plan {
	stamp, done := m.done[n.Txn]
	i := m.intent(n.Txn)
	if !note.Right(n) {
		return juror.Plan{}
	}
	if n.Kind == note.Prepare && from == 0 {
		if done || vec.Check(m.dim, n.Ops...) != api.OK {
			return juror.Plan{}
		}
		if i != nil {
			return juror.Plan{Mail: vote(n.Txn, api.OK)}
		}
		if m.holder(n.Ops) {
			return juror.Plan{Mail: vote(n.Txn, api.ErrLocked)}
		}
		record := n
		record.Kind = note.Prepared
		return juror.Plan{Records: []note.Note{record}, Mail: vote(n.Txn, api.OK), Else: vote(n.Txn, api.ErrFull)}
	}
	if n.Kind == note.Decide && n.Code == api.OK {
		if done && stamp == n.Stamp {
			return juror.Plan{Mail: ack(n.Txn)}
		}
		if !done && i != nil && n.Stamp > i.After && n.Stamp > m.v.Mark() && n.Stamp > m.greatest(i.Ops) {
			return juror.Plan{Records: []note.Note{committed(n.Txn, n.Stamp)}, Mail: ack(n.Txn)}
		}
	}
	if n.Kind == note.Decide && n.Code != api.OK && from == 0 && i != nil {
		return juror.Plan{Records: []note.Note{aborted(n.Txn)}}
	}
	if n.Kind == note.Probe && done {
		return juror.Plan{Mail: mail(from, decide(n.Txn, stamp, api.OK))}
	}
	return juror.Plan{}
}

func (m *model) apply(n note.Note) api.Errno {
	if !note.Right(n) || n.Kind < note.Prepared || n.Kind > note.Swept {
		return api.ErrForm
	}
	var e api.Errno
	switch n.Kind {
	case note.Prepared:
		if e = m.v.Lock(vault.Intent{Txn: n.Txn, After: n.After, Ops: n.Ops}); e == api.OK {
			m.parts[n.Txn] = slices.Clone(n.Parts)
		}
	case note.Committed:
		if e = m.v.Apply(n.Txn, n.Stamp); e == api.OK {
			m.done[n.Txn] = n.Stamp
		}
	case note.Aborted:
		e = m.v.Free(n.Txn)
	default:
		m.v.Sweep(n.Mark)
	}
	return e
}

func (m *model) wake() []juror.Mail {
	var l []juror.Mail
	for _, i := range m.v.Intents() {
		l = append(l, mail(0, probe(i.Txn))...)
		for part := 1; part <= 15; part++ {
			if part != m.self && slices.Contains(m.parts[i.Txn], part) {
				l = append(l, mail(part, probe(i.Txn))...)
			}
		}
	}
	return l
}

func nums(p []byte, l ...uint64) []byte {
	for _, n := range l {
		p = binary.AppendUvarint(p, n)
	}
	return p
}

func vector(p []byte, v []int32) []byte {
	p = nums(p, uint64(len(v)))
	for _, n := range v {
		p = binary.AppendVarint(p, int64(n))
	}
	return p
}

func (m *model) pack() []byte {
	p := nums(nil, m.v.Mark(), uint64(len(m.v.Dump())))
	for _, entry := range m.v.Dump() {
		p = nums(p, entry.ID, uint64(len(entry.Versions)))
		for _, version := range entry.Versions {
			p = vector(nums(p, version.Stamp), version.Vec)
		}
	}
	p = nums(p, uint64(len(m.v.Intents())))
	for _, i := range m.v.Intents() {
		p = nums(p, i.Txn, i.After, uint64(len(m.parts[i.Txn])))
		for _, part := range m.parts[i.Txn] {
			p = nums(p, uint64(part))
		}
		p = nums(p, uint64(len(i.Ops)))
		for _, op := range i.Ops {
			p = vector(nums(p, op.ID), op.Vec)
		}
	}
	p = nums(p, uint64(len(m.done)))
	var txns []uint64
	for txn := range m.done {
		txns = append(txns, txn)
	}
	slices.Sort(txns)
	for _, txn := range txns {
		p = nums(p, txn, m.done[txn])
	}
	return p
}

func mustPlan(t *testing.T, got, want juror.Plan) {
	t.Helper()
	if told(got) != told(want) {
		t.Fatalf("the plan is\n%v, want\n%v", got, want)
	}
}

// mustHold holds all that a juror tells against what the model tells.
func mustHold(t *testing.T, j *juror.Juror, m *model) {
	t.Helper()
	if got, want := j.Pack(), m.pack(); !bytes.Equal(got, want) {
		t.Fatalf("Pack() = %x, want %x", got, want)
	}
	if got, want := told(j.Wake()), told(m.wake()); got != want {
		t.Fatalf("Wake() = %s, want %s", got, want)
	}
	got := told(j.Intents(), j.Dump(), j.Mark(), j.Last())
	if want := told(m.v.Intents(), m.v.Dump(), m.v.Mark(), m.v.Last()); got != want {
		t.Fatalf("Intents, Dump, Mark, Last = %s, want %s", got, want)
	}
	mustDone(t, j, m)
	stamps := []uint64{0, 1, m.v.Mark(), m.v.Mark() + 1, m.v.Last(), m.v.Last() + 1, api.MaxStamp, math.MaxUint64}
	for _, i := range m.v.Intents() {
		stamps = append(stamps, i.After, i.After+1)
	}
	for _, stamp := range stamps {
		mustTell(t, j, m, stamp)
	}
}

func mustDone(t *testing.T, j *juror.Juror, m *model) {
	t.Helper()
	txns := []uint64{0, 1, 2, 3, 4, 5, 6, 7, 8, 9, math.MaxUint64}
	for txn := range m.done {
		txns = append(txns, txn)
	}
	for _, txn := range txns {
		stamp, done := j.Done(txn)
		if want, there := m.done[txn]; stamp != want || done != there {
			t.Fatalf("Done(%d) = %d, %t, want %d, %t", txn, stamp, done, want, there)
		}
	}
}

// mustTell holds what it tells as of a stamp against what the vault tells.
func mustTell(t *testing.T, j *juror.Juror, m *model, stamp uint64) {
	t.Helper()
	hits, e := j.Scan(stamp)
	got := told(hits, e, j.Blocked(stamp))
	hits, e = m.v.Scan(stamp)
	if want := told(hits, e, m.v.Blocked(stamp)); got != want {
		t.Fatalf("Scan and Blocked as of %d = %s, want %s", stamp, got, want)
	}
	for id := range uint64(13) {
		vec, there, e := j.Get(id, stamp)
		got := told(vec, there, e, j.Blocked(stamp, id), j.Blocked(stamp, 99, id))
		vec, there, e = m.v.Get(id, stamp)
		if want := told(vec, there, e, m.v.Blocked(stamp, id), m.v.Blocked(stamp, id)); got != want {
			t.Fatalf("Get and Blocked of %d as of %d = %s, want %s", id, stamp, got, want)
		}
	}
}

// someParts is parts that rise, a few.
func someParts(r *rand.Rand) []int {
	var parts []int
	for part := range 16 {
		if r.Intn(7) == 0 && len(parts) < api.MaxShards {
			parts = append(parts, part)
		}
	}
	return parts
}

// someOps is a batch of a few IDs; now and then there are none, two of one ID, or a vector of another dim.
func someOps(r *rand.Rand, dim int) []api.Op {
	var ops []api.Op
	for range r.Intn(12) / 3 {
		o := op(uint64(r.Intn(12)))
		if r.Intn(3) > 0 {
			for range dim {
				o.Vec = append(o.Vec, int32(r.Intn(2*api.MaxCoord+1)-api.MaxCoord))
			}
		}
		if r.Intn(60) == 0 {
			o.Vec = append(o.Vec, 1)
		}
		ops = append(ops, o)
	}
	return ops
}

// someNote is a note of those kinds, mostly of a few Txns and of stamps near the last one.
func someNote(r *rand.Rand, m *model, kinds ...byte) note.Note {
	near := m.v.Last() + uint64(r.Intn(6))
	n := note.Note{Kind: kinds[r.Intn(len(kinds))], Txn: uint64(r.Intn(10))}
	switch n.Kind {
	case note.Prepare, note.Prepared:
		n.After, n.Parts, n.Ops = near-min(near, 2), someParts(r), someOps(r, m.dim)
	case note.Decide:
		n.Stamp, n.Code = near-min(near, 1), api.Errno(max(0, r.Intn(18)-4))
		if stamp, done := m.done[n.Txn]; done && r.Intn(2) == 0 {
			n.Stamp = stamp
		}
	case note.Committed:
		n.Stamp = near - min(near, 1)
	case note.Swept:
		n.Mark = near - min(near, uint64(r.Intn(20)))
	}
	if r.Intn(50) == 0 {
		spoil(r, &n)
	}
	return n
}

// spoil makes a field of a note, that it hasn't or that it has, what it may not be, mostly.
func spoil(r *rand.Rand, n *note.Note) {
	switch r.Intn(6) {
	case 0:
		n.K = 1
	case 1:
		n.Who = 16
	case 2:
		n.Parts = []int{2, 1}
	case 3:
		n.Code = 14
	case 4:
		n.Kind += 100
	default:
		n.Query = 1
	}
}

// step tells both the same, and holds their answers against each other.
func step(t *testing.T, r *rand.Rand, j *juror.Juror, m *model) {
	t.Helper()
	if r.Intn(4) == 0 {
		n := someNote(r, m, note.Prepared, note.Prepared, note.Committed, note.Aborted, note.Swept, note.Prepare, note.Ack, note.Epoch)
		must(t, told("Apply of ", n), j.Apply(n), m.apply(n))
		return
	}
	from := max(0, r.Intn(9)-5)
	n := someNote(r, m, note.Prepare, note.Prepare, note.Decide, note.Decide, note.Decide, note.Probe, note.Vote, note.Committed)
	p := j.Plan(from, n)
	mustPlan(t, p, m.plan(from, n))
	if r.Intn(5) == 0 {
		return
	}
	for _, record := range p.Records {
		must(t, told("Apply of ", record), j.Apply(record), api.OK)
		must(t, told("the model's Apply of ", record), m.apply(record), api.OK)
	}
}

func TestAgainstModel(t *testing.T) {
	r := rand.New(rand.NewSource(14))
	for range 100 {
		self, dim := 1+r.Intn(15), 1+r.Intn(api.MaxDim)
		j, m := made(t, self, dim), newModel(t, self, dim)
		for range 150 {
			step(t, r, j, m)
			mustHold(t, j, m)
			if r.Intn(30) == 0 {
				// It goes on from its bytes as if nothing had been.
				k := made(t, self, dim)
				must(t, "Unpack", k.Unpack(j.Pack()), api.OK)
				j = k
				mustHold(t, j, m)
			}
		}
	}
}

// TestPlanCanBeApplied: a record that is planned is one that Apply takes, and behind it the same note plans no record.
func TestPlanCanBeApplied(t *testing.T) {
	r := rand.New(rand.NewSource(15))
	planned := 0
	for range 60 {
		j, m := made(t, 3, 1), newModel(t, 3, 1)
		for range 200 {
			n := someNote(r, m, note.Prepare, note.Decide, note.Decide)
			p := j.Plan(0, n)
			for _, record := range p.Records {
				planned++
				must(t, told("Apply of ", record), j.Apply(record), api.OK)
				m.apply(record)
			}
			if again := j.Plan(0, n); len(again.Records) > 0 {
				t.Fatalf("%v was done, and plans %v", n, again)
			}
		}
	}
	if planned < 1000 {
		t.Fatalf("only %d records were planned", planned)
	}
}
