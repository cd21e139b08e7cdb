package judge_test

import (
	"math"
	"testing"

	"armillary/api"
	"armillary/judge"
	"armillary/juror"
	"armillary/note"
)

// wakeCase is what happened, and what is told of it.
type wakeCase struct {
	name   string
	events []note.Note
	wake   []juror.Mail
	quit   judge.Plan
	trials []judge.Trial
}

func TestWakeQuitTrials(t *testing.T) {
	a, b, c, d := on(1, 0, 5), on(1, 1), on(2, 0, -5), on(3, 0)
	two, all := parts(1, 3), parts(1, 2, 3)
	first := begin(9, 40, 6, 4, two, b, d, a)
	second := begin(in(1, 0), 41, 7, 0, all, d, c, a)
	aborts := func(who int, txn, batch uint64, parts ...int) judge.Plan {
		return judge.Plan{Notes: notes(gone(txn)), Mail: mails(decide(txn, 0, api.ErrLate, parts...), reply(who, batch, 0, api.ErrLate))}
	}
	for _, c := range []wakeCase{
		{"none", nil, nil, judge.Plan{}, nil},
		{"one that has ended", notes(commit(1, 40, 2, 1), end(1)), nil, judge.Plan{}, nil},
		{"one that is gone", notes(first, gone(9)), nil, judge.Plan{}, nil},
		{
			"one", notes(first),
			mails(prepare(1, 9, 6, two, b, a), prepare(3, 9, 6, two, d)),
			aborts(4, 9, 40, 1, 3),
			[]judge.Trial{{Txn: 9, Batch: 40, After: 6, Who: 4, Parts: two}},
		},
		{
			"one of which one has said yes", notes(first, yes(9, 1)),
			prepare(3, 9, 6, two, d),
			aborts(4, 9, 40, 1, 3),
			[]judge.Trial{{Txn: 9, Batch: 40, After: 6, Who: 4, Parts: two, Yes: parts(1)}},
		},
		{
			"one of which all have said yes", notes(first, yes(9, 3), yes(9, 1)),
			nil,
			aborts(4, 9, 40, 1, 3),
			[]judge.Trial{{Txn: 9, Batch: 40, After: 6, Who: 4, Parts: two, Yes: parts(1, 3)}},
		},
		{
			"one that is committed", notes(first, yes(9, 3), commit(9, 40, 7, 1, 3)),
			decide(9, 7, api.OK, 1, 3), judge.Plan{},
			[]judge.Trial{{Txn: 9, Batch: 40, Stamp: 7, After: 6, Who: 4, Parts: two, Yes: parts(3)}},
		},
		{
			"one that one has acknowledged", notes(first, commit(9, 40, 7, 1, 3), acked(9, 3)),
			decide(9, 7, api.OK, 1), judge.Plan{},
			[]judge.Trial{{Txn: 9, Batch: 40, Stamp: 7, After: 6, Who: 4, Parts: two, Acked: parts(3)}},
		},
		{
			"one that all have acknowledged", notes(first, commit(9, 40, 7, 1, 3), acked(9, 3), acked(9, 1)),
			nil, judge.Plan{},
			[]judge.Trial{{Txn: 9, Batch: 40, Stamp: 7, After: 6, Who: 4, Parts: two, Acked: parts(1, 3)}},
		},
		{
			"one known by its Commit", notes(commit(9, 40, 7, 2)),
			decide(9, 7, api.OK, 2), judge.Plan{},
			[]judge.Trial{{Txn: 9, Batch: 40, Stamp: 7, Parts: parts(2)}},
		},
		{
			"several", notes(second, yes(in(1, 0), 2), first, commit(3, 42, 8, 2), commit(math.MaxUint64, 43, 9, 0, 15), begin(0, 44, 1, 15, nil)),
			mails(
				decide(3, 8, api.OK, 2),
				prepare(1, 9, 6, two, b, a), prepare(3, 9, 6, two, d),
				prepare(1, in(1, 0), 7, all, a), prepare(3, in(1, 0), 7, all, d),
				decide(math.MaxUint64, 9, api.OK, 0, 15),
			),
			judge.Plan{
				Notes: notes(gone(0), gone(9), gone(in(1, 0))),
				Mail: mails(
					reply(15, 44, 0, api.ErrLate),
					decide(9, 0, api.ErrLate, 1, 3), reply(4, 40, 0, api.ErrLate),
					decide(in(1, 0), 0, api.ErrLate, 1, 2, 3), reply(0, 41, 0, api.ErrLate),
				),
			},
			[]judge.Trial{
				{Batch: 44, After: 1, Who: 15},
				{Txn: 3, Batch: 42, Stamp: 8, Parts: parts(2)},
				{Txn: 9, Batch: 40, After: 6, Who: 4, Parts: two},
				{Txn: in(1, 0), Batch: 41, After: 7, Parts: all, Yes: parts(2)},
				{Txn: math.MaxUint64, Batch: 43, Stamp: 9, Parts: parts(0, 15)},
			},
		},
		{
			"parts to which nothing belongs", notes(begin(9, 40, 6, 4, parts(2, 3, 4), b, d)),
			mails(prepare(2, 9, 6, parts(2, 3, 4)), prepare(3, 9, 6, parts(2, 3, 4), d), prepare(4, 9, 6, parts(2, 3, 4))),
			aborts(4, 9, 40, 2, 3, 4),
			[]judge.Trial{{Txn: 9, Batch: 40, After: 6, Who: 4, Parts: parts(2, 3, 4)}},
		},
	} {
		t.Run(c.name, func(t *testing.T) { mustTellAll(t, c) })
	}
}

// mustTellAll holds what is told against the case, twice, since it changes nothing.
func mustTellAll(t *testing.T, c wakeCase) {
	t.Helper()
	j, m := with(t, c.events...)
	for range 2 {
		if got := j.Wake(); told(got) != told(c.wake) {
			t.Errorf("Wake = %v, want %v", got, c.wake)
		}
		mustPlan(t, j.Quit(), c.quit)
		if got := j.Trials(); told(got) != told(c.trials) {
			t.Errorf("Trials = %v, want %v", got, c.trials)
		}
		mustHold(t, j, m)
	}
	// What Quit says happens; then there is nothing more to end.
	apply(t, j, m, j.Quit().Notes...)
	mustHold(t, j, m)
	mustPlan(t, j.Quit(), judge.Plan{})
}

// TestWakeOfEight: as many as there may be, committed ones and others.
func TestWakeOfEight(t *testing.T) {
	j, m := made(t, 2, 1), newModel(2, 1)
	apply(t, j, m, epoch(2))
	one, two := op(idOf(1, 0, 2), 1), op(idOf(2, 0, 2), 2)
	for batch := range uint64(8) {
		apply(t, j, m, j.Plan(int(batch), ask(batch, one, two)).Notes...)
	}
	mustPlan(t, j.Plan(9, ask(8, one)), refused(9, 8, api.ErrFull))
	both := parts(1, 2)
	var wake []juror.Mail
	var quit judge.Plan
	var trials []judge.Trial
	for i := range uint64(8) {
		txn := in(2, i+1)
		trial := judge.Trial{Txn: txn, Batch: i, Who: int(i), Parts: both}
		if i%3 == 1 {
			apply(t, j, m, commit(txn, i, 10-i, 1, 2), acked(txn, 1))
			wake = mails(wake, decide(txn, 10-i, api.OK, 2))
			trial.Stamp, trial.Acked = 10-i, parts(1)
		} else {
			apply(t, j, m, yes(txn, 2))
			wake = mails(wake, prepare(1, txn, 0, both, one))
			quit.Notes = append(quit.Notes, gone(txn))
			quit.Mail = mails(quit.Mail, decide(txn, 0, api.ErrLate, 1, 2), reply(int(i), i, 0, api.ErrLate))
			trial.Yes = parts(2)
		}
		trials = append(trials, trial)
	}
	if got := j.Wake(); told(got) != told(wake) {
		t.Fatalf("Wake = %v, want %v", got, wake)
	}
	mustPlan(t, j.Quit(), quit)
	if got := j.Trials(); told(got) != told(trials) {
		t.Fatalf("Trials = %v, want %v", got, trials)
	}
	mustHold(t, j, m)
}

func TestDoneEpochLast(t *testing.T) {
	j, m := with(t)
	for _, c := range []struct {
		n           note.Note
		epoch, last uint64
	}{
		{begin(1, 5, 0, 4, parts(1)), 0, 0},
		{commit(2, 7, 3, 1), 0, 3},
		{commit(3, 0, 2, 1), 0, 3},
		{commit(4, math.MaxUint64, 9, 1), 0, 9},
		{epoch(5), 5, 9},
		{end(4), 5, 9},
		{commit(5, 8, api.MaxStamp, 1), 5, api.MaxStamp},
		{epoch(api.MaxStamp), api.MaxStamp, api.MaxStamp},
	} {
		apply(t, j, m, c.n)
		if j.Epoch() != c.epoch || j.Last() != c.last {
			t.Fatalf("behind %v Epoch = %d, Last = %d", c.n, j.Epoch(), j.Last())
		}
		mustHold(t, j, m)
	}
	for batch, want := range map[uint64]uint64{7: 3, 0: 2, math.MaxUint64: 9, 8: api.MaxStamp, 5: 0, 1: 0, 2: 0} {
		if stamp, done := j.Done(batch); stamp != want || done != (want > 0) {
			t.Errorf("Done(%d) = %d, %t, want %d", batch, stamp, done, want)
		}
	}
}
