package judge_test

import (
	"bytes"
	"encoding/binary"
	"math"
	"math/rand"
	"slices"
	"testing"

	"armillary/api"
	"armillary/judge"
	"armillary/juror"
	"armillary/note"
	"armillary/vec"
)

// model is a judge as the chapter tells it, told as plainly as may be: sets, and gone through from the least number to the greatest.
type model struct {
	shards, dim      int
	epoch, had, last uint64
	trials           map[uint64]*modelTrial
	done             map[uint64]uint64
}

type modelTrial struct {
	txn, batch, stamp, after uint64
	who                      int
	parts                    []int
	ops                      []api.Op
	yes, acked               map[int]int
}

func newModel(shards, dim int) *model {
	return &model{shards: shards, dim: dim, trials: map[uint64]*modelTrial{}, done: map[uint64]uint64{}}
}

// rising is the model's trials by rising Txn.
func (m *model) rising() []*modelTrial {
	var l []*modelTrial
	for _, tr := range m.trials {
		l = append(l, tr)
	}
	slices.SortFunc(l, func(a, b *modelTrial) int {
		if a.txn < b.txn {
			return -1
		}
		return 1
	})
	return l
}

// othersSaid: have all parts but that one said so?
func (tr *modelTrial) othersSaid(said map[int]int, from int) bool {
	for _, part := range tr.parts {
		if part != from && said[part] == 0 {
			return false
		}
	}
	return true
}

func (tr *modelTrial) end(stamp uint64, code api.Errno) []juror.Mail {
	return mails(decide(tr.txn, stamp, code, tr.parts...), reply(tr.who, tr.batch, stamp, code))
}

func (m *model) plan(from int, n note.Note) judge.Plan {
	if !note.Right(n) || from < 0 || from > 15 {
		return judge.Plan{}
	}
	if n.Kind == note.Ask {
		return m.planAsk(from, n)
	}
	tr := m.trials[n.Txn]
	if n.Kind == note.Probe {
		switch {
		case tr == nil:
			return judge.Plan{Mail: decide(n.Txn, 0, api.ErrNone, from)}
		case tr.stamp > 0:
			return judge.Plan{Mail: decide(n.Txn, tr.stamp, api.OK, from)}
		}
	}
	if tr == nil || !slices.Contains(tr.parts, from) {
		return judge.Plan{}
	}
	if n.Kind == note.Vote && tr.stamp == 0 && n.Code != api.OK {
		return judge.Plan{Notes: notes(gone(n.Txn)), Mail: tr.end(0, n.Code)}
	}
	if n.Kind == note.Vote && tr.stamp == 0 && tr.yes[from] == 0 {
		if !tr.othersSaid(tr.yes, from) {
			return judge.Plan{Notes: notes(yes(n.Txn, from))}
		}
		return judge.Plan{
			Records: notes(commit(n.Txn, tr.batch, m.last+1, tr.parts...)),
			Mail:    tr.end(m.last+1, api.OK),
			Instead: notes(gone(n.Txn)),
			Else:    tr.end(0, api.ErrFull),
		}
	}
	if n.Kind == note.Ack && tr.stamp > 0 && tr.acked[from] == 0 {
		if !tr.othersSaid(tr.acked, from) {
			return judge.Plan{Notes: notes(acked(n.Txn, from))}
		}
		return judge.Plan{Records: notes(end(n.Txn))}
	}
	return judge.Plan{}
}

func (m *model) planAsk(from int, n note.Note) judge.Plan {
	if stamp, done := m.done[n.Batch]; done {
		return judge.Plan{Mail: reply(from, n.Batch, stamp, api.OK)}
	}
	for _, tr := range m.trials {
		if tr.batch == n.Batch {
			return judge.Plan{}
		}
	}
	code := vec.Check(m.dim, n.Ops...)
	if code == api.OK && (len(m.trials) > 7 || m.had > 1048574 || m.last > 1<<40-1) {
		code = api.ErrFull
	}
	if code != api.OK {
		return judge.Plan{Mail: reply(from, n.Batch, 0, code)}
	}
	var all []int
	for part := 1; part <= m.shards; part++ {
		if len(m.own(n.Ops, part)) > 0 {
			all = append(all, part)
		}
	}
	txn := m.epoch*1048576 + m.had + 1
	p := judge.Plan{Notes: notes(begin(txn, n.Batch, m.last, from, all, n.Ops...))}
	for _, part := range all {
		p.Mail = append(p.Mail, prepare(part, txn, m.last, all, m.own(n.Ops, part)...)...)
	}
	return p
}

// own is a part's ops, in their order.
func (m *model) own(ops []api.Op, part int) []api.Op {
	var l []api.Op
	for _, o := range ops {
		if vec.Home(o.ID, m.shards)+1 == part {
			l = append(l, o)
		}
	}
	return l
}

func (m *model) apply(n note.Note) api.Errno {
	if !note.Right(n) || n.Kind < note.Epoch {
		return api.ErrForm
	}
	tr := m.trials[n.Txn]
	if tr == nil && (n.Kind == note.Yes || n.Kind == note.Acked || n.Kind == note.End || n.Kind == note.Gone) {
		return api.ErrNone
	}
	switch n.Kind {
	case note.Epoch:
		if n.Mark <= m.epoch {
			return api.ErrArg
		}
		m.epoch, m.had = n.Mark, 0
		for txn, tr := range m.trials {
			if tr.stamp == 0 {
				delete(m.trials, txn)
			}
		}
	case note.Begin:
		if tr != nil {
			return api.ErrExists
		}
		m.trials[n.Txn] = &modelTrial{n.Txn, n.Batch, 0, n.After, n.Who, slices.Clone(n.Parts), deep(n.Ops), map[int]int{}, map[int]int{}}
		if n.Txn>>20 == m.epoch {
			m.had = max(m.had, n.Txn&0xfffff)
		}
	case note.Yes:
		return m.hear(tr, tr.yes, n.Who, tr.stamp != 0)
	case note.Acked:
		return m.hear(tr, tr.acked, n.Who, tr.stamp == 0)
	case note.Commit:
		if n.Stamp == 0 {
			return api.ErrArg
		}
		if tr == nil {
			tr = &modelTrial{n.Txn, n.Batch, 0, 0, 0, slices.Clone(n.Parts), nil, map[int]int{}, map[int]int{}}
			m.trials[n.Txn] = tr
		}
		if tr.stamp != 0 {
			return api.ErrState
		}
		tr.stamp, m.done[tr.batch], m.last = n.Stamp, n.Stamp, max(m.last, n.Stamp)
	default:
		if (tr.stamp == 0) == (n.Kind == note.End) {
			return api.ErrState
		}
		delete(m.trials, n.Txn)
	}
	return api.OK
}

func (m *model) hear(tr *modelTrial, said map[int]int, who int, wrong bool) api.Errno {
	if wrong {
		return api.ErrState
	}
	if said[who] == 1 || !slices.Contains(tr.parts, who) {
		return api.ErrArg
	}
	said[who] = 1
	return api.OK
}

func deep(ops []api.Op) []api.Op {
	var l []api.Op
	for _, o := range ops {
		l = append(l, op(o.ID, slices.Clone(o.Vec)...))
	}
	return l
}

func (m *model) wake() []juror.Mail {
	var l []juror.Mail
	for _, tr := range m.rising() {
		for _, part := range tr.parts {
			if tr.stamp == 0 && tr.yes[part] == 0 {
				l = append(l, prepare(part, tr.txn, tr.after, tr.parts, m.own(tr.ops, part)...)...)
			}
			if tr.stamp != 0 && tr.acked[part] == 0 {
				l = append(l, decide(tr.txn, tr.stamp, api.OK, part)...)
			}
		}
	}
	return l
}

func (m *model) quit() judge.Plan {
	var p judge.Plan
	for _, tr := range m.rising() {
		if tr.stamp == 0 {
			p.Notes = append(p.Notes, gone(tr.txn))
			p.Mail = append(p.Mail, tr.end(0, api.ErrLate)...)
		}
	}
	return p
}

func (m *model) told() []judge.Trial {
	var l []judge.Trial
	for _, tr := range m.rising() {
		told := judge.Trial{Txn: tr.txn, Batch: tr.batch, Stamp: tr.stamp, After: tr.after, Who: tr.who, Parts: tr.parts}
		for part := range 16 {
			if tr.yes[part] == 1 {
				told.Yes = append(told.Yes, part)
			}
			if tr.acked[part] == 1 {
				told.Acked = append(told.Acked, part)
			}
		}
		l = append(l, told)
	}
	return l
}

func nums(p []byte, l ...uint64) []byte {
	for _, n := range l {
		p = binary.AppendUvarint(p, n)
	}
	return p
}

func (m *model) pack() []byte {
	p := nums(nil, m.epoch, m.last, uint64(len(m.done)))
	var batches []uint64
	for batch := range m.done {
		batches = append(batches, batch)
	}
	slices.Sort(batches)
	for _, batch := range batches {
		p = nums(p, batch, m.done[batch])
	}
	var trials []byte
	count := uint64(0)
	for _, tr := range m.rising() {
		if tr.stamp != 0 {
			count++
			trials = nums(trials, tr.txn, tr.batch, tr.stamp, uint64(len(tr.parts)))
			for _, part := range tr.parts {
				trials = nums(trials, uint64(part))
			}
		}
	}
	return append(nums(p, count), trials...)
}

// forgetful is a model as it is behind Unpack of what it packs.
func (m *model) forgetful() *model {
	k := newModel(m.shards, m.dim)
	k.epoch, k.last, k.done = m.epoch, m.last, m.done
	for txn, tr := range m.trials {
		if tr.stamp != 0 {
			k.trials[txn] = &modelTrial{txn, tr.batch, tr.stamp, 0, 0, tr.parts, nil, map[int]int{}, map[int]int{}}
		}
	}
	return k
}

func mustPlan(t *testing.T, got, want judge.Plan) {
	t.Helper()
	if told(got) != told(want) {
		t.Fatalf("the plan is\n%v, want\n%v", got, want)
	}
}

// mustHold holds all that a judge tells against what the model tells.
func mustHold(t *testing.T, j *judge.Judge, m *model) {
	t.Helper()
	if got, want := j.Pack(), m.pack(); !bytes.Equal(got, want) {
		t.Fatalf("Pack() = %x, want %x", got, want)
	}
	if got, want := told(j.Trials()), told(m.told()); got != want {
		t.Fatalf("Trials() = %s, want %s", got, want)
	}
	if got, want := told(j.Wake()), told(m.wake()); got != want {
		t.Fatalf("Wake() = %s, want %s", got, want)
	}
	if got, want := told(j.Quit()), told(m.quit()); got != want {
		t.Fatalf("Quit() = %s, want %s", got, want)
	}
	if got, want := told(j.Epoch(), j.Last()), told(m.epoch, m.last); got != want {
		t.Fatalf("Epoch, Last = %s, want %s", got, want)
	}
	mustDone(t, j, m)
	// What the next Ask is answered tells how many trials the epoch had.
	next := ask(1<<50, on(2, 0, make([]int32, m.dim)...), on(1, 0))
	mustPlan(t, j.Plan(15, next), m.plan(15, next))
}

func mustDone(t *testing.T, j *judge.Judge, m *model) {
	t.Helper()
	batches := []uint64{0, 1, 2, 3, 4, 5, 6, 7, 8, 9, math.MaxUint64}
	for batch := range m.done {
		batches = append(batches, batch)
	}
	for _, tr := range m.trials {
		batches = append(batches, tr.batch, tr.txn)
	}
	for _, batch := range batches {
		stamp, done := j.Done(batch)
		if want, there := m.done[batch]; stamp != want || done != there {
			t.Fatalf("Done(%d) = %d, %t, want %d, %t", batch, stamp, done, want, there)
		}
	}
}

// someParts is parts that rise, a few, mostly shards.
func someParts(r *rand.Rand, shards int) []int {
	var l []int
	for part := range 16 {
		if len(l) < api.MaxShards && (part >= 1 && part <= shards && r.Intn(3) > 0 || r.Intn(60) == 0) {
			l = append(l, part)
		}
	}
	return l
}

// someOps is a batch of a few IDs; now and then there are none, two of one ID, or a vector of another dim.
func someOps(r *rand.Rand, dim int) []api.Op {
	var ops []api.Op
	for range r.Intn(16) / 3 {
		o := op(uint64(r.Intn(40)))
		if r.Intn(3) > 0 {
			for range dim {
				o.Vec = append(o.Vec, int32(r.Intn(2*api.MaxCoord+1)-api.MaxCoord))
			}
		}
		if r.Intn(60) == 0 {
			o.Vec = append(o.Vec, 1)
		}
		ops = append(ops, o)
	}
	return ops
}

// someTxn is mostly a trial's, else one of the epoch or of those beside it.
func someTxn(r *rand.Rand, m *model) uint64 {
	if l := m.rising(); len(l) > 0 && r.Intn(8) > 0 {
		return l[r.Intn(len(l))].txn
	}
	return in(m.epoch+uint64(r.Intn(3)), uint64(r.Intn(12))) - min(m.epoch, uint64(r.Intn(2)))*1048576
}

// someNote is a note of one of those kinds.
func someNote(r *rand.Rand, m *model, kinds ...byte) note.Note {
	n := note.Note{Kind: kinds[r.Intn(len(kinds))]}
	if n.Kind != note.Ask && n.Kind != note.Epoch {
		n.Txn = someTxn(r, m)
	}
	switch n.Kind {
	case note.Ask:
		n.Batch, n.Ops = uint64(r.Intn(60)), someOps(r, m.dim)
	case note.Vote:
		n.Code = api.Errno(max(0, r.Intn(60)-46))
	case note.Epoch:
		n.Mark = m.epoch - min(m.epoch, 2) + uint64(r.Intn(5))
	case note.Begin:
		n.Batch, n.After, n.Who = uint64(r.Intn(60)), m.last, r.Intn(16)
		n.Parts, n.Ops = someParts(r, m.shards), someOps(r, m.dim)
	case note.Yes, note.Acked:
		n.Who = 1 + r.Intn(4)
	case note.Commit:
		n.Batch, n.Stamp, n.Parts = uint64(r.Intn(60)), m.last-min(m.last, 3)+uint64(r.Intn(6)), someParts(r, m.shards)
	}
	if r.Intn(50) == 0 {
		spoil(r, &n)
	}
	return n
}

// spoil makes a field of a note, that it hasn't or that it has, what it may not be, mostly.
func spoil(r *rand.Rand, n *note.Note) {
	switch r.Intn(6) {
	case 0:
		n.K = 1
	case 1:
		n.Who = 16
	case 2:
		n.Parts = []int{2, 1}
	case 3:
		n.Code = 14
	case 4:
		n.Kind += 100
	default:
		n.Query = 1
	}
}

// step tells both the same, and holds their answers against each other.
func step(t *testing.T, r *rand.Rand, j *judge.Judge, m *model) {
	t.Helper()
	if r.Intn(4) == 0 {
		n := someNote(r, m, note.Begin, note.Begin, note.Yes, note.Acked, note.Commit, note.Commit, note.End, note.Gone, note.Epoch, note.Ask, note.Swept)
		must(t, told("Apply of ", n), j.Apply(n), m.apply(n))
		return
	}
	from := r.Intn(18) - 1
	if r.Intn(5) > 0 {
		from = 1 + r.Intn(m.shards)
	}
	n := someNote(r, m, note.Ask, note.Vote, note.Vote, note.Vote, note.Ack, note.Ack, note.Ack, note.Probe, note.Decide)
	p := j.Plan(from, n)
	mustPlan(t, p, m.plan(from, n))
	happens := append(p.Records, p.Notes...)
	switch r.Intn(8) {
	case 0:
		return
	case 1:
		happens = p.Instead
	}
	for _, n := range happens {
		// A Begin may be of a Txn that a Commit has made a trial of.
		must(t, told("Apply of ", n), j.Apply(n), m.apply(n))
	}
}

func TestAgainstModel(t *testing.T) {
	r := rand.New(rand.NewSource(14))
	for range 200 {
		shards, dim := 1+r.Intn(api.MaxShards), 1+r.Intn(api.MaxDim)
		j, m := made(t, shards, dim), newModel(shards, dim)
		for range 200 {
			step(t, r, j, m)
			mustHold(t, j, m)
			if r.Intn(40) == 0 {
				// It goes on from its bytes, if they are such as there may be.
				k := made(t, shards, dim)
				if k.Unpack(j.Pack()) == api.OK {
					j, m = k, m.forgetful()
				}
				mustHold(t, j, m)
			}
		}
	}
}

// TestOneDecision: whatever comes in whatever order, a trial ends in one way, and is committed where all parts have said yes.
func TestOneDecision(t *testing.T) {
	r := rand.New(rand.NewSource(15))
	commits := 0
	for range 100 {
		j, m := made(t, 3, 1), newModel(3, 1)
		said := map[uint64]map[int]int{}
		ended := map[uint64]note.Note{}
		stamps := map[uint64]uint64{}
		for range 300 {
			from, n := 1+r.Intn(3), someNote(r, m, note.Ask, note.Vote, note.Vote, note.Vote, note.Ack)
			p := j.Plan(from, n)
			if n.Kind == note.Vote && n.Code == api.OK && note.Right(n) && m.trials[n.Txn] != nil {
				if said[n.Txn] == nil {
					said[n.Txn] = map[int]int{}
				}
				said[n.Txn][from] = 1
			}
			for _, record := range p.Records {
				if record.Kind != note.Commit {
					continue
				}
				commits++
				for _, part := range record.Parts {
					if said[record.Txn][part] == 0 {
						t.Fatalf("%v without the vote of %d", record, part)
					}
				}
				if stamps[record.Stamp] != 0 {
					t.Fatalf("%v has the stamp of %d", record, stamps[record.Stamp])
				}
				stamps[record.Stamp] = record.Txn
			}
			for _, l := range p.Mail {
				if was, there := ended[l.Note.Txn]; l.Note.Kind == note.Decide && there && !note.Same(was, l.Note) {
					t.Fatalf("%v was told, and now %v", was, l.Note)
				}
				if l.Note.Kind == note.Decide {
					ended[l.Note.Txn] = l.Note
				}
			}
			apply(t, j, m, append(p.Records, p.Notes...)...)
		}
	}
	if commits < 1000 {
		t.Fatalf("only %d were committed", commits)
	}
}
