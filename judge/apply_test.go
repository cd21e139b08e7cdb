package judge_test

import (
	"math"
	"testing"

	"armillary/api"
	"armillary/judge"
	"armillary/note"
)

// TestApply: each kind of record and of note, with each error; where one is answered nothing has changed.
func TestApply(t *testing.T) {
	for _, c := range []struct {
		name string
		n    note.Note
		want api.Errno
	}{
		{"Epoch", epoch(4), api.OK},
		{"Epoch, far above", epoch(api.MaxStamp), api.OK},
		{"Epoch, the one that there is", epoch(3), api.ErrArg},
		{"Epoch, below", epoch(2), api.ErrArg},
		{"Epoch, 0", epoch(0), api.ErrArg},

		{"Begin", begin(next, 30, 5, 4, parts(1, 3), on(1, 0, 2), on(3, 0)), api.OK},
		{"Begin, far ahead", begin(in(3, 1<<20-1), 30, 5, 4, parts(1), on(1, 0, 2)), api.OK},
		{"Begin, of a number left out", begin(dropped, 30, 5, 4, parts(1), on(1, 0, 2)), api.OK},
		{"Begin, of the epoch ahead", begin(in(2, 40), 30, 5, 4, parts(1), on(1, 0, 2)), api.OK},
		{"Begin, of the epoch behind", begin(in(4, 40), 30, 5, 4, parts(1), on(1, 0, 2)), api.OK},
		{"Begin, the least of all", begin(0, 0, 0, 0, nil), api.OK},
		{"Begin, the greatest of all", begin(math.MaxUint64, math.MaxUint64, api.MaxStamp, 15, parts(12, 13, 14, 15), op(api.MaxID, api.MaxCoord, 1)), api.OK},
		{"Begin, of a batch that a trial has", begin(next, 23, 5, 4, parts(1), on(1, 0, 2)), api.OK},
		{"Begin, of a batch that was committed", begin(next, 20, 5, 4, parts(1), on(1, 0, 2)), api.OK},
		{"Begin, of a Txn that has ended", begin(old, 30, 5, 4, parts(1), on(1, 0, 2)), api.OK},
		{"Begin, of a trial", begin(silent, 30, 5, 4, parts(1), on(1, 0, 2)), api.ErrExists},
		{"Begin, of a committed trial", begin(known, 30, 5, 4, parts(1), on(1, 0, 2)), api.ErrExists},
		{"Begin, of one known by its Commit", begin(ofOther, 30, 5, 4, parts(1), on(1, 0, 2)), api.ErrExists},

		{"Yes", yes(silent, 3), api.OK},
		{"Yes, the last one", yes(nearly, 2), api.OK},
		{"Yes, of the only part", yes(single, 2), api.OK},
		{"Yes, of no trial", yes(next, 1), api.ErrNone},
		{"Yes, of no trial, of no part", yes(old, 9), api.ErrNone},
		{"Yes, of a committed trial", yes(fresh, 2), api.ErrState},
		{"Yes, of a committed trial, said already", yes(fresh, 1), api.ErrState},
		{"Yes, of a committed trial, of no part", yes(known, 9), api.ErrState},
		{"Yes, of no part", yes(silent, 2), api.ErrArg},
		{"Yes, of 0", yes(silent, 0), api.ErrArg},
		{"Yes, of 15", yes(single, 15), api.ErrArg},
		{"Yes, said already", yes(nearly, 1), api.ErrArg},
		{"Yes, said already, another", yes(nearly, 3), api.ErrArg},

		{"Acked", acked(fresh, 2), api.OK},
		{"Acked, of one that said yes", acked(fresh, 1), api.OK},
		{"Acked, the last one", acked(known, 2), api.OK},
		{"Acked, of one known by its Commit", acked(ofOther, 3), api.OK},
		{"Acked, of no trial", acked(next, 1), api.ErrNone},
		{"Acked, of no trial, of no part", acked(old, 9), api.ErrNone},
		{"Acked, of an uncommitted trial", acked(silent, 1), api.ErrState},
		{"Acked, of an uncommitted trial, of one that said yes", acked(nearly, 1), api.ErrState},
		{"Acked, of an uncommitted trial, of no part", acked(single, 9), api.ErrState},
		{"Acked, of no part", acked(fresh, 3), api.ErrArg},
		{"Acked, of 0", acked(fresh, 0), api.ErrArg},
		{"Acked, there already", acked(known, 1), api.ErrArg},
		{"Acked, there already, another", acked(known, 3), api.ErrArg},

		{"Commit", commit(nearly, 24, 6, 1, 2, 3), api.OK},
		{"Commit, without a yes", commit(silent, 23, 6, 1, 3), api.OK},
		{"Commit, of another batch than the trial's", commit(silent, 99, 6, 1, 3), api.OK},
		{"Commit, of other Parts than the trial's", commit(silent, 23, 6, 2), api.OK},
		{"Commit, far above", commit(single, 26, api.MaxStamp, 2), api.OK},
		{"Commit, at the last stamp", commit(single, 26, 5, 2), api.OK},
		{"Commit, below the last stamp", commit(single, 26, 4, 2), api.OK},
		{"Commit, far below it", commit(single, 26, 1, 2), api.OK},
		{"Commit, without a trial", commit(next, 30, 6, 1, 2), api.OK},
		{"Commit, without a trial, below the last stamp", commit(next, 30, 4, 1, 2), api.OK},
		{"Commit, without a trial, of a batch that was committed", commit(next, 20, 4, 1, 2), api.OK},
		{"Commit, without a trial any more", commit(old, 20, 1, 2), api.OK},
		{"Commit, without a trial, without Parts", commit(0, 0, 6), api.OK},
		{"Commit, without a trial, the greatest of all", commit(math.MaxUint64, math.MaxUint64, api.MaxStamp, 12, 13, 14, 15), api.OK},
		{"Commit, at 0", commit(nearly, 24, 0, 1, 2, 3), api.ErrArg},
		{"Commit, at 0, without a trial", commit(next, 30, 0, 1), api.ErrArg},
		{"Commit, at 0, of a committed trial", commit(fresh, 21, 0, 1, 2), api.ErrArg},
		{"Commit, of a committed trial", commit(fresh, 21, 6, 1, 2), api.ErrState},
		{"Commit, of a committed trial, at its stamp", commit(known, 22, 5, 1, 2, 3), api.ErrState},
		{"Commit, of a committed trial, of another batch", commit(ofOther, 30, 6, 1), api.ErrState},

		{"End", end(known), api.OK},
		{"End, where none has acknowledged", end(fresh), api.OK},
		{"End, of one known by its Commit", end(ofOther), api.OK},
		{"End, of no trial", end(next), api.ErrNone},
		{"End, of what has ended", end(old), api.ErrNone},
		{"End, of an uncommitted trial", end(silent), api.ErrState},
		{"End, of an uncommitted trial with yes", end(nearly), api.ErrState},

		{"Gone", gone(silent), api.OK},
		{"Gone, with yes", gone(nearly), api.OK},
		{"Gone, the last one", gone(single), api.OK},
		{"Gone, of no trial", gone(next), api.ErrNone},
		{"Gone, of what is gone", gone(dropped), api.ErrNone},
		{"Gone, of a committed trial", gone(fresh), api.ErrState},
		{"Gone, of a committed trial, acknowledged", gone(known), api.ErrState},
	} {
		t.Run(c.name, func(t *testing.T) {
			j, m := filled(t)
			must(t, "Apply", j.Apply(c.n), c.want)
			must(t, "the model's Apply", m.apply(c.n), c.want)
			mustHold(t, j, m)
		})
	}
}

// TestApplyOtherKinds: what is no record of a judge's is refused.
func TestApplyOtherKinds(t *testing.T) {
	j, m := filled(t)
	for kind := range 256 {
		if kind >= note.Epoch && kind <= note.Gone {
			continue
		}
		for _, n := range []note.Note{
			{Kind: byte(kind)},
			{Kind: byte(kind), Txn: silent},
			{Kind: byte(kind), Txn: next},
			{Kind: byte(kind), Txn: silent, Stamp: 30},
			{Kind: byte(kind), Txn: next, After: 1, Parts: []int{1}, Ops: []api.Op{op(1, 5)}},
			{Kind: byte(kind), Batch: 30, Ops: []api.Op{op(1, 5)}},
			{Kind: byte(kind), Mark: 30},
		} {
			must(t, told("Apply of ", n), j.Apply(n), api.ErrForm)
		}
	}
	mustHold(t, j, m)
}

// TestApplyWrongNotes: records that aren't right, also where another error would be answered.
func TestApplyWrongNotes(t *testing.T) {
	j, m := filled(t)
	for _, n := range []note.Note{
		epoch(4), epoch(3), begin(next, 30, 5, 4, parts(1), on(1, 0, 2)), begin(silent, 30, 5, 4, parts(1), on(1, 0, 2)),
		yes(silent, 1), yes(next, 1), yes(fresh, 1), yes(silent, 2), acked(fresh, 1), acked(next, 1), acked(silent, 1), acked(fresh, 3),
		commit(nearly, 24, 6, 1, 2, 3), commit(next, 24, 6, 1), commit(next, 24, 0, 1), commit(fresh, 21, 6, 1),
		end(known), end(next), end(silent), gone(silent), gone(next), gone(known),
	} {
		l := wrongs(n)
		if len(l) < 15 {
			t.Fatalf("only %d of %v are wrong", len(l), n)
		}
		for _, wrong := range l {
			must(t, told("Apply of ", wrong), j.Apply(wrong), api.ErrForm)
		}
	}
	mustHold(t, j, m)
}

// TestApplyTwice: what comes twice.
func TestApplyTwice(t *testing.T) {
	j, m := with(t)
	for _, c := range []struct {
		n     note.Note
		again api.Errno
	}{
		{epoch(1), api.ErrArg},
		{begin(in(1, 1), 9, 0, 4, parts(1, 2), on(1, 0), on(2, 0)), api.ErrExists},
		{yes(in(1, 1), 2), api.ErrArg},
		{yes(in(1, 1), 1), api.ErrArg},
		{commit(in(1, 1), 9, 1, 1, 2), api.ErrState},
		{acked(in(1, 1), 2), api.ErrArg},
		{acked(in(1, 1), 1), api.ErrArg},
		{end(in(1, 1)), api.ErrNone},
		{begin(in(1, 2), 10, 1, 4, parts(3), on(3, 0)), api.ErrExists},
		{gone(in(1, 2)), api.ErrNone},
		{commit(in(1, 3), 11, 2, 1, 2), api.ErrState},
		{epoch(2), api.ErrArg},
	} {
		apply(t, j, m, c.n)
		mustHold(t, j, m)
		must(t, told(c.n, "again"), j.Apply(c.n), c.again)
		mustHold(t, j, m)
	}
}

// TestEpoch: what isn't committed is gone, and all else stays.
func TestEpoch(t *testing.T) {
	j, m := filled(t)
	apply(t, j, m, epoch(7))
	mustHold(t, j, m)
	if got, want := told(txnsOf(j)), told([]uint64{ofOther, fresh, known}); got != want || j.Epoch() != 7 || j.Last() != 5 {
		t.Fatalf("the trials are %s, want %s, Epoch = %d, Last = %d", got, want, j.Epoch(), j.Last())
	}
	for batch, stamp := range map[uint64]uint64{20: 1, 21: 2, 22: 5, 29: 3} {
		if at, done := j.Done(batch); at != stamp || !done {
			t.Fatalf("Done(%d) = %d, %t", batch, at, done)
		}
	}
	// Its batch may be asked for once more, in the new epoch.
	mustPlan(t, j.Plan(7, ask(23, on(1, 0))), judge.Plan{
		Notes: notes(begin(in(7, 1), 23, 5, 7, parts(1), on(1, 0))),
		Mail:  prepare(1, in(7, 1), 5, parts(1), on(1, 0)),
	})
	mustPlan(t, j.Plan(1, vote(silent, api.OK)), judge.Plan{})
	mustPlan(t, j.Plan(2, ack(known)), judge.Plan{Records: notes(end(known))})
}

func txnsOf(j *judge.Judge) []uint64 {
	var l []uint64
	for _, t := range j.Trials() {
		l = append(l, t.Txn)
	}
	return l
}

// TestCountOfTrials: which number the next trial has, behind each of these in turn.
func TestCountOfTrials(t *testing.T) {
	j, m := with(t)
	for _, c := range []struct {
		n    note.Note
		next uint64
	}{
		{begin(1, 1, 0, 4, parts(1)), 2},
		{begin(in(1, 5), 2, 0, 4, parts(1)), 2}, // of an epoch to come
		{begin(4, 3, 0, 4, parts(1)), 5},
		{gone(4), 5},
		{begin(2, 3, 0, 4, parts(1)), 5}, // of a number that was left out
		{begin(0, 4, 0, 4, parts(1)), 5},
		{epoch(1), in(1, 1)}, // it had none yet
		{begin(in(1, 3), 2, 0, 4, parts(1)), in(1, 4)},
		{commit(in(1, 3), 2, 3, 1), in(1, 4)},
		{commit(in(1, 9), 9, 4, 1), in(1, 4)}, // without a Begin
		{begin(3, 5, 0, 4, parts(1)), in(1, 4)},
		{begin(in(2, 1), 6, 0, 4, parts(1)), in(1, 4)},
		{end(in(1, 3)), in(1, 4)},
		{begin(in(1, 0), 7, 0, 4, parts(1)), in(1, 4)},
		{epoch(2), in(2, 1)},
		{begin(in(2, 700000), 6, 0, 4, parts(1)), in(2, 700001)},
		{begin(in(2, 70), 8, 0, 4, parts(1)), in(2, 700001)},
		{epoch(1 << 39), in(1<<39, 1)},
		{begin(in(1<<39, 2), 8, 0, 4, parts(1)), in(1<<39, 3)},
		{epoch(1 << 40), in(1<<40, 1)},
	} {
		apply(t, j, m, c.n)
		mustHold(t, j, m)
		p := j.Plan(3, ask(1000, on(1, 0)))
		if len(p.Notes) != 1 || p.Notes[0].Txn != c.next || p.Mail[0].Note.Txn != c.next {
			t.Fatalf("behind %v the plan is %v, want Txn %d", c.n, p, c.next)
		}
	}
}

// TestCommit: what a Commit tells of a trial that there is, and of one that there isn't.
func TestCommit(t *testing.T) {
	j, m := with(t,
		begin(7, 10, 3, 4, parts(1, 2), on(1, 0, 5), on(2, 0)), yes(7, 2),
		commit(7, 99, 8, 3), // its own batch and parts stay
		commit(5, 11, 6, 2, 3),
	)
	want := []judge.Trial{
		{Txn: 5, Batch: 11, Stamp: 6, Parts: parts(2, 3)},
		{Txn: 7, Batch: 10, Stamp: 8, After: 3, Who: 4, Parts: parts(1, 2), Yes: parts(2)},
	}
	if got := j.Trials(); told(got) != told(want) {
		t.Fatalf("Trials = %v, want %v", got, want)
	}
	if got, want := told(j.Wake()), told(mails(decide(5, 6, api.OK, 2, 3), decide(7, 8, api.OK, 1, 2))); got != want {
		t.Fatalf("Wake = %s, want %s", got, want)
	}
	for batch, stamp := range map[uint64]uint64{10: 8, 11: 6, 99: 0} {
		if at, done := j.Done(batch); at != stamp || done != (stamp > 0) {
			t.Fatalf("Done(%d) = %d, %t", batch, at, done)
		}
	}
	if j.Last() != 8 {
		t.Fatalf("Last = %d", j.Last())
	}
	mustHold(t, j, m)
	// A batch that is committed once more is so at the later one.
	apply(t, j, m, commit(9, 10, 2, 1))
	if at, done := j.Done(10); at != 2 || !done || j.Last() != 8 {
		t.Fatalf("Done = %d, %t, Last = %d", at, done, j.Last())
	}
	mustHold(t, j, m)
}

// TestManyTrials: Begin has no bound, as Plan has.
func TestManyTrials(t *testing.T) {
	j, m := with(t)
	for i := range uint64(20) {
		apply(t, j, m, begin(i*7%20, i, 0, int(i%16), parts(1, 2), on(1, 0), on(2, 0)))
	}
	mustHold(t, j, m)
	for i := range uint64(20) {
		if i%2 == 0 {
			apply(t, j, m, commit(i, 0, 20-i, 1))
		}
	}
	mustHold(t, j, m)
	apply(t, j, m, epoch(1))
	mustHold(t, j, m)
	for i := range uint64(20) {
		must(t, "End", j.Apply(end(i)), m.apply(end(i)))
		mustHold(t, j, m)
	}
}
