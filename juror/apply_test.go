package juror_test

import (
	"math"
	"testing"

	"armillary/api"
	"armillary/juror"
	"armillary/note"
)

// TestApply: each kind of record, with each error; where one is answered nothing has changed.
func TestApply(t *testing.T) {
	for _, c := range []struct {
		name string
		n    note.Note
		want api.Errno
	}{
		{"Prepared", prepared(11, 3, []int{0, 2, 15}, op(2, 5), op(1)), api.OK},
		{"Prepared, no Parts", prepared(11, 3, nil, op(1)), api.OK},
		{"Prepared, the greatest of all", prepared(math.MaxUint64, api.MaxStamp, []int{12, 13, 14, 15}, op(api.MaxID, api.MaxCoord)), api.OK},
		{"Prepared, the least of all", prepared(0, 0, []int{0}, op(0, -api.MaxCoord)), api.OK},
		{"Prepared, as many as may be", prepared(11, 0, nil, many(api.MaxOps, 100)...), api.OK},
		{"Prepared, of what was committed", prepared(5, 0, nil, op(1, 5)), api.OK},
		{"Prepared, no ops", prepared(11, 3, nil), api.ErrShort},
		{"Prepared, no ops, of an intent", prepared(7, 3, nil), api.ErrShort},
		{"Prepared, another dim", prepared(11, 3, nil, op(1, 5, 6)), api.ErrForm},
		{"Prepared, two of one ID", prepared(11, 3, nil, op(1, 5), op(1)), api.ErrExists},
		{"Prepared, an intent", prepared(7, 3, []int{1}, op(1, 5)), api.ErrExists},
		{"Prepared, an intent, of a held ID", prepared(7, 3, []int{1}, op(80, 5)), api.ErrExists},
		{"Prepared, a held ID", prepared(11, 3, nil, op(1, 5), op(80)), api.ErrLocked},

		{"Committed", committed(7, 5), api.OK},
		{"Committed, the second intent", committed(8, 10), api.OK},
		{"Committed, far above", committed(7, api.MaxStamp), api.OK},
		{"Committed, at 0", committed(7, 0), api.ErrArg},
		{"Committed, at 0, of no intent", committed(11, 0), api.ErrArg},
		{"Committed, at its After", committed(8, 9), api.ErrArg},
		{"Committed, of no intent", committed(11, 30), api.ErrNone},
		{"Committed, of what was committed", committed(5, 3), api.ErrNone},
		{"Committed, of what was committed, later", committed(5, 30), api.ErrNone},
		{"Committed, at a version", committed(9, 6), api.ErrExists},
		{"Committed, below a version", committed(9, 5), api.ErrExists},
		{"Committed, at a version and the mark", committed(7, 3), api.ErrExists},
		{"Committed, at the mark", committed(7, 4), api.ErrLate},

		{"Aborted", aborted(7), api.OK},
		{"Aborted, the last", aborted(10), api.OK},
		{"Aborted, of no intent", aborted(11), api.ErrNone},
		{"Aborted, of what was committed", aborted(5), api.ErrNone},
		{"Aborted, of 0", aborted(0), api.ErrNone},

		{"Swept", swept(5), api.OK},
		{"Swept, up to a delete", swept(20), api.OK},
		{"Swept, to the end", swept(api.MaxStamp), api.OK},
		{"Swept, at the mark", swept(4), api.OK},
		{"Swept, below the mark", swept(3), api.OK},
		{"Swept, at 0", swept(0), api.OK},
	} {
		t.Run(c.name, func(t *testing.T) {
			j, m := filled(t)
			must(t, "Apply", j.Apply(c.n), c.want)
			must(t, "the model's Apply", m.apply(c.n), c.want)
			mustHold(t, j, m)
		})
	}
}

// TestApplyOtherKinds: what is no record is refused, also one of which the vault would say something.
func TestApplyOtherKinds(t *testing.T) {
	j, m := filled(t)
	for kind := range 256 {
		if kind >= note.Prepared && kind <= note.Swept {
			continue
		}
		for _, n := range []note.Note{
			{Kind: byte(kind)},
			{Kind: byte(kind), Txn: 7},
			{Kind: byte(kind), Txn: 11},
			{Kind: byte(kind), Txn: 7, Stamp: 30},
			{Kind: byte(kind), Txn: 11, After: 1, Parts: []int{1}, Ops: []api.Op{op(1, 5)}},
			{Kind: byte(kind), Mark: 30},
		} {
			must(t, told("Apply of ", n), j.Apply(n), api.ErrForm)
		}
	}
	mustHold(t, j, m)
}

// TestApplyWrongNotes: records that aren't right, also ones that the vault would take.
func TestApplyWrongNotes(t *testing.T) {
	j, m := filled(t)
	for _, n := range []note.Note{prepared(11, 3, []int{1}, op(1, 5)), prepared(7, 3, nil, op(80, 5)), committed(7, 5), committed(11, 5), aborted(7), aborted(11), swept(9)} {
		l := wrongs(n)
		if len(l) < 15 {
			t.Fatalf("only %d of %v are wrong", len(l), n)
		}
		for _, wrong := range l {
			must(t, told("Apply of ", wrong), j.Apply(wrong), api.ErrForm)
		}
	}
	mustHold(t, j, m)
}

// TestApplyTwice: a record that comes twice.
func TestApplyTwice(t *testing.T) {
	j, m := with(t)
	for _, c := range []struct {
		n     note.Note
		again api.Errno
	}{
		{prepared(7, 1, []int{1, 2}, op(3, 9)), api.ErrExists},
		{committed(7, 5), api.ErrNone},
		{prepared(8, 1, []int{1, 2}, op(3, 9)), api.ErrExists},
		{aborted(8), api.ErrNone},
		{swept(5), api.OK},
		{prepared(8, 7, []int{3}, op(3)), api.ErrExists},
		{committed(8, 8), api.ErrNone},
	} {
		must(t, told(c.n), j.Apply(c.n), api.OK)
		must(t, told(c.n), m.apply(c.n), api.OK)
		mustHold(t, j, m)
		must(t, told(c.n, "again"), j.Apply(c.n), c.again)
		mustHold(t, j, m)
	}
}

// TestPartsGoWithTheIntent: an intent of a Txn that was there before has its own Parts alone.
func TestPartsGoWithTheIntent(t *testing.T) {
	for _, end := range []note.Note{aborted(7), committed(7, 5)} {
		j, m := with(t, prepared(7, 1, []int{1, 3}, op(3, 9)), end)
		if l := j.Wake(); len(l) > 0 {
			t.Fatalf("Wake without an intent = %v", l)
		}
		n := prepared(7, 6, []int{4}, op(3, 9))
		must(t, "Apply", j.Apply(n), api.OK)
		m.apply(n)
		mustHold(t, j, m)
		if got, want := told(j.Wake()), told(append(mail(0, probe(7)), mail(4, probe(7))...)); got != want {
			t.Fatalf("Wake = %s, want %s", got, want)
		}
	}
	// One that is refused has no Parts.
	j, m := with(t, prepared(7, 1, []int{1, 3}, op(3, 9)))
	must(t, "Apply", j.Apply(prepared(7, 1, []int{4}, op(5, 9))), api.ErrExists)
	must(t, "Apply", j.Apply(prepared(8, 1, []int{4}, op(3, 9))), api.ErrLocked)
	must(t, "Apply", j.Apply(aborted(8)), api.ErrNone)
	must(t, "Apply", j.Apply(committed(7, 1)), api.ErrArg)
	mustHold(t, j, m)
}

// TestCommittedOnceMore: the last stamp at which it was committed counts.
func TestCommittedOnceMore(t *testing.T) {
	j, m := with(t, prepared(7, 1, nil, op(3, 9)), committed(7, 5), prepared(7, 1, nil, op(3, 8)), committed(7, 6))
	mustHold(t, j, m)
	if stamp, done := j.Done(7); stamp != 6 || !done {
		t.Fatalf("Done(7) = %d, %t", stamp, done)
	}
}

func TestWake(t *testing.T) {
	j, m := with(t)
	if l := j.Wake(); len(l) > 0 {
		t.Fatalf("Wake of none = %v", l)
	}
	for _, n := range []note.Note{
		prepared(9, 1, []int{0, 2}, op(1, 9)),
		prepared(300, 1, []int{1, 2, 3, 15}, op(2, 9)),
		prepared(0, 1, nil, op(3, 9)),
		prepared(math.MaxUint64, 1, []int{2}, op(4, 9)),
		prepared(7, 1, []int{0, 1, 2, 4}, op(5, 9)),
		prepared(8, 1, []int{3}, op(6, 9)),
	} {
		must(t, told(n), j.Apply(n), api.OK)
		m.apply(n)
	}
	var want []juror.Mail
	for _, c := range []struct {
		txn uint64
		to  []int
	}{{0, []int{0}}, {7, []int{0, 1, 4}}, {8, []int{0, 3}}, {9, []int{0}}, {300, []int{0, 1, 3, 15}}, {math.MaxUint64, []int{0}}} {
		for _, to := range c.to {
			want = append(want, mail(to, probe(c.txn))...)
		}
	}
	for range 2 {
		if got := j.Wake(); told(got) != told(want) {
			t.Fatalf("Wake = %v, want %v", got, want)
		}
	}
	mustHold(t, j, m)
}

func TestDone(t *testing.T) {
	j, m := with(t,
		prepared(7, 1, nil, op(1, 9)), committed(7, 5),
		prepared(8, 1, nil, op(2, 9)), aborted(8),
		prepared(9, 1, nil, op(3, 9)),
		prepared(0, 1, nil, op(4, 9)), committed(0, 2),
		prepared(math.MaxUint64, 1, nil, op(5, 9)), committed(math.MaxUint64, api.MaxStamp),
		swept(api.MaxStamp),
	)
	for txn, want := range map[uint64]uint64{7: 5, 8: 0, 9: 0, 10: 0, 0: 2, 1: 0, 5: 0, math.MaxUint64: api.MaxStamp} {
		if stamp, done := j.Done(txn); stamp != want || done != (want > 0) {
			t.Errorf("Done(%d) = %d, %t, want %d", txn, stamp, done, want)
		}
	}
	mustHold(t, j, m)
}

// TestSweptGoesToTheVault: what is swept is asked for no more, and what was deleted is gone.
func TestSweptGoesToTheVault(t *testing.T) {
	j, m := with(t,
		prepared(1, 0, nil, op(3, 9), op(4, 1)), committed(1, 2),
		prepared(2, 0, nil, op(3, 8), op(4)), committed(2, 4),
	)
	must(t, "Apply", j.Apply(swept(5)), api.OK)
	m.v.Sweep(5)
	mustHold(t, j, m)
	if _, _, e := j.Get(3, 4); e != api.ErrLate || j.Mark() != 5 || len(j.Dump()) != 1 || j.Last() != 4 {
		t.Fatalf("Get = %d, Mark = %d, Dump = %v, Last = %d", e, j.Mark(), j.Dump(), j.Last())
	}
}
