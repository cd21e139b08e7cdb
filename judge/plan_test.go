package judge_test

import (
	"bytes"
	"math"
	"slices"
	"testing"

	"armillary/api"
	"armillary/judge"
	"armillary/note"
)

// The transactions of filled.
const (
	old     = 1<<20 + 1 // committed at 1, and ended
	ofOther = 2<<20 + 9 // committed at 3, known by its Commit alone; of 1 and 3
	fresh   = 3<<20 + 1 // committed at 2; of 1 and 2
	known   = 3<<20 + 2 // committed at 5; of 1, 2, 3; 1 and 3 have acknowledged
	silent  = 3<<20 + 3 // of 1 and 3, asked by 7
	nearly  = 3<<20 + 4 // of 1, 2, 3, asked by 8; 3 and 1 have said yes
	dropped = 3<<20 + 5 // gone
	single  = 3<<20 + 6 // of 2, asked by 9
	next    = 3<<20 + 7
)

// filled is a judge of which each row of the table has something: batches 20, 29, 21 and 22 are committed; those of silent, nearly and single are 23, 24 and 26.
func filled(t *testing.T) (*judge.Judge, *model) {
	t.Helper()
	return with(t,
		epoch(1),
		begin(old, 20, 0, 4, parts(2), on(2, 0, 1)), commit(old, 20, 1, 2), end(old),
		epoch(3),
		begin(fresh, 21, 1, 5, parts(1, 2), on(1, 0, 1), on(2, 0)), yes(fresh, 1), commit(fresh, 21, 2, 1, 2),
		begin(known, 22, 2, 6, parts(1, 2, 3), on(1, 0), on(2, 0, 7), on(3, 0)), commit(known, 22, 5, 1, 2, 3), acked(known, 3), acked(known, 1),
		begin(silent, 23, 2, 7, parts(1, 3), on(3, 0, 4), on(1, 1, 3)),
		begin(nearly, 24, 5, 8, parts(1, 2, 3), on(2, 1, 5), on(1, 2), on(3, 1), on(2, 2)), yes(nearly, 3), yes(nearly, 1),
		begin(dropped, 25, 5, 8, parts(1), on(1, 3)), gone(dropped),
		begin(single, 26, 5, 9, parts(2), on(2, 3, 6)),
		commit(ofOther, 29, 3, 1, 3),
	)
}

// planCase is a note from a node, and what is to be done.
type planCase struct {
	name string
	from int
	n    note.Note
	want judge.Plan
}

// outside is what is no node's number.
var outside = []int{-1, 16, 17, math.MinInt, math.MaxInt, 1<<32 + 1}

func mustPlanAll(t *testing.T, cases []planCase) {
	t.Helper()
	for _, c := range cases {
		t.Run(c.name, func(t *testing.T) {
			j, m := filled(t)
			for range 2 {
				// Twice, since it changes nothing.
				mustPlan(t, j.Plan(c.from, c.n), c.want)
				mustHold(t, j, m)
			}
			mustPlan(t, m.plan(c.from, c.n), c.want)
			for _, from := range outside {
				mustPlan(t, j.Plan(from, c.n), judge.Plan{})
			}
			mustHold(t, j, m)
		})
	}
}

// refused is a Reply that isn't OK.
func refused(from int, batch uint64, code api.Errno) judge.Plan {
	return judge.Plan{Mail: reply(from, batch, 0, code)}
}

func TestPlanAsk(t *testing.T) {
	var cases []planCase
	add := func(name string, from int, n note.Note, want judge.Plan) {
		cases = append(cases, planCase{name, from, n, want})
	}
	for _, from := range []int{0, 1, 4, 5, 15} {
		// Whatever the ops are: these aren't asked any more.
		for _, ops := range [][]api.Op{{on(1, 0, 1), on(2, 0)}, {on(3, 5)}, nil, {op(1, 1, 2)}, {op(1), op(1)}} {
			for batch, stamp := range map[uint64]uint64{20: 1, 21: 2, 22: 5, 29: 3} {
				add("committed", from, ask(batch, ops...), judge.Plan{Mail: reply(from, batch, stamp, api.OK)})
			}
			for _, batch := range []uint64{23, 24, 26} {
				add("a trial has it", from, ask(batch, ops...), judge.Plan{})
			}
		}
		for _, batch := range []uint64{0, 25, 30, math.MaxUint64} {
			x, y, z := on(3, 4, 5), on(1, 4), on(3, 5, -5)
			add("one shard", from, ask(batch, z, x), judge.Plan{
				Notes: notes(begin(next, batch, 5, from, parts(3), z, x)),
				Mail:  prepare(3, next, 5, parts(3), z, x),
			})
			add("two shards", from, ask(batch, z, y, x), judge.Plan{
				Notes: notes(begin(next, batch, 5, from, parts(1, 3), z, y, x)),
				Mail:  mails(prepare(1, next, 5, parts(1, 3), y), prepare(3, next, 5, parts(1, 3), z, x)),
			})
		}
	}

	add("no ops", 4, ask(30), refused(4, 30, api.ErrShort))
	add("another dim", 4, ask(30, op(1, 1, 2)), refused(4, 30, api.ErrForm))
	add("another dim beside a right one", 5, ask(30, op(1, 1), op(2, 1, 2), op(3, 1)), refused(5, 30, api.ErrForm))
	add("two of one ID", 0, ask(30, op(1, 1), op(2), op(1)), refused(0, 30, api.ErrExists))
	add("two of one ID, another dim", 15, ask(30, op(1, 1, 2), op(1)), refused(15, 30, api.ErrForm))

	all := parts(1, 2, 3)
	edges := []api.Op{on(2, 0, api.MaxCoord), op(api.MaxID, -api.MaxCoord), on(1, 0, 0), on(3, 0)}
	want := judge.Plan{Notes: notes(begin(next, 30, 5, 4, all, edges...))}
	m := newModel(3, 1)
	for _, part := range all {
		want.Mail = append(want.Mail, prepare(part, next, 5, all, m.own(edges, part)...)...)
	}
	add("edges", 4, ask(30, edges...), want)
	mustPlanAll(t, cases)
}

// TestPlanAskOfMostOps: as many ops as may be, of one shard and of all.
func TestPlanAskOfMostOps(t *testing.T) {
	j, m := made(t, 1, 1), newModel(1, 1)
	ops := many(api.MaxOps, 100)
	mustPlan(t, j.Plan(2, ask(1, ops...)), judge.Plan{
		Notes: notes(begin(1, 1, 0, 2, parts(1), ops...)),
		Mail:  prepare(1, 1, 0, parts(1), ops...),
	})
	mustHold(t, j, m)
	j, m = made(t, 4, 1), newModel(4, 1)
	p := j.Plan(2, ask(1, ops...))
	mustPlan(t, p, m.plan(2, ask(1, ops...)))
	if len(p.Mail) != 4 || len(p.Notes) != 1 {
		t.Fatalf("the plan is %v", p)
	}
	mustPlan(t, j.Plan(2, ask(1, many(api.MaxOps+1, 100)...)), judge.Plan{})
}

// TestPlanAskOfEachTrial: eight are tried at once, of each kind, no more.
func TestPlanAskOfEachTrial(t *testing.T) {
	j, m := with(t, epoch(1), commit(5, 90, 1, 1), commit(6, 91, 2, 2))
	for i := range uint64(6) {
		n := ask(i, on(1, 0))
		p := j.Plan(3, n)
		mustPlan(t, p, judge.Plan{
			Notes: notes(begin(in(1, 1+i), i, 2, 3, parts(1), on(1, 0))),
			Mail:  prepare(1, in(1, 1+i), 2, parts(1), on(1, 0)),
		})
		apply(t, j, m, p.Notes...)
	}
	for _, c := range []struct {
		n    note.Note
		want judge.Plan
	}{
		{ask(6, on(1, 0)), refused(3, 6, api.ErrFull)},
		{ask(6), refused(3, 6, api.ErrShort)},
		{ask(6, op(1, 1, 2)), refused(3, 6, api.ErrForm)},
		{ask(6, op(1), op(1)), refused(3, 6, api.ErrExists)},
		{ask(5, on(1, 0)), judge.Plan{}},
		{ask(91, on(1, 0)), judge.Plan{Mail: reply(3, 91, 2, api.OK)}},
	} {
		mustPlan(t, j.Plan(3, c.n), c.want)
		mustHold(t, j, m)
	}
	// More come by Begin alone; with nine there is no room either.
	for _, ends := range [][]note.Note{{begin(in(1, 7), 70, 2, 3, parts(1))}, {gone(in(1, 2))}} {
		apply(t, j, m, ends...)
		mustPlan(t, j.Plan(3, ask(6, on(1, 0))), refused(3, 6, api.ErrFull))
		mustHold(t, j, m)
	}
	apply(t, j, m, end(5))
	mustPlan(t, j.Plan(3, ask(6, on(1, 0))), judge.Plan{
		Notes: notes(begin(in(1, 8), 6, 2, 3, parts(1), on(1, 0))),
		Mail:  prepare(1, in(1, 8), 2, parts(1), on(1, 0)),
	})
}

// TestPlanAskOfEachEpoch: it has 2^20 - 1 trials, whatever became of them.
func TestPlanAskOfEachEpoch(t *testing.T) {
	for _, e := range []uint64{0, 1, api.MaxStamp - 1, api.MaxStamp} {
		j, m := with(t)
		if e > 0 {
			apply(t, j, m, epoch(e))
		}
		apply(t, j, m, begin(in(e, 1<<20-2), 7, 0, 3, parts(1)), gone(in(e, 1<<20-2)))
		p := j.Plan(3, ask(6, on(1, 0)))
		mustPlan(t, p, judge.Plan{
			Notes: notes(begin(in(e, 1<<20-1), 6, 0, 3, parts(1), on(1, 0))),
			Mail:  prepare(1, in(e, 1<<20-1), 0, parts(1), on(1, 0)),
		})
		apply(t, j, m, p.Notes...)
		for range 2 {
			mustPlan(t, j.Plan(3, ask(8, on(1, 0))), refused(3, 8, api.ErrFull))
			mustPlan(t, j.Plan(3, ask(8)), refused(3, 8, api.ErrShort))
			mustPlan(t, j.Plan(3, ask(8, op(1), op(1))), refused(3, 8, api.ErrExists))
			mustHold(t, j, m)
			if len(j.Trials()) > 0 {
				apply(t, j, m, gone(in(e, 1<<20-1)))
			}
		}
		if e < api.MaxStamp {
			apply(t, j, m, epoch(e+1))
			mustPlan(t, j.Plan(3, ask(8, on(1, 0))), judge.Plan{
				Notes: notes(begin(in(e+1, 1), 8, 0, 3, parts(1), on(1, 0))),
				Mail:  prepare(1, in(e+1, 1), 0, parts(1), on(1, 0)),
			})
		}
	}
}

// TestPlanAskAtTheLastStamp: behind MaxStamp there is none.
func TestPlanAskAtTheLastStamp(t *testing.T) {
	j, m := with(t, commit(7, 7, api.MaxStamp-1, 1), end(7))
	p := j.Plan(3, ask(6, on(1, 0)))
	mustPlan(t, p, judge.Plan{
		Notes: notes(begin(1, 6, api.MaxStamp-1, 3, parts(1), on(1, 0))),
		Mail:  prepare(1, 1, api.MaxStamp-1, parts(1), on(1, 0)),
	})
	apply(t, j, m, p.Notes...)
	p = j.Plan(1, vote(1, api.OK))
	mustPlan(t, p, judge.Plan{
		Records: notes(commit(1, 6, api.MaxStamp, 1)),
		Mail:    mails(decide(1, api.MaxStamp, api.OK, 1), reply(3, 6, api.MaxStamp, api.OK)),
		Instead: notes(gone(1)),
		Else:    mails(decide(1, 0, api.ErrFull, 1), reply(3, 6, 0, api.ErrFull)),
	})
	apply(t, j, m, p.Records...)
	mustPlan(t, j.Plan(3, ask(8, on(1, 0))), refused(3, 8, api.ErrFull))
	mustPlan(t, j.Plan(3, ask(8)), refused(3, 8, api.ErrShort))
	mustPlan(t, j.Plan(3, ask(6)), judge.Plan{Mail: reply(3, 6, api.MaxStamp, api.OK)})
	mustHold(t, j, m)
}

// TestPlanVoteBehindTheLastStamp: one more than MaxStamp is no stamp, so that the Commit can't be written down, and isn't taken.
func TestPlanVoteBehindTheLastStamp(t *testing.T) {
	j, m := with(t, begin(1, 6, 0, 3, parts(1), on(1, 0)), commit(7, 7, api.MaxStamp, 1))
	p := j.Plan(1, vote(1, api.OK))
	mustPlan(t, p, judge.Plan{
		Records: notes(commit(1, 6, api.MaxStamp+1, 1)),
		Mail:    mails(decide(1, api.MaxStamp+1, api.OK, 1), reply(3, 6, api.MaxStamp+1, api.OK)),
		Instead: notes(gone(1)),
		Else:    mails(decide(1, 0, api.ErrFull, 1), reply(3, 6, 0, api.ErrFull)),
	})
	must(t, "Apply", j.Apply(p.Records[0]), api.ErrForm)
	mustHold(t, j, m)
	apply(t, j, m, p.Instead...)
	mustHold(t, j, m)
}

func TestPlanVoteOfAnotherCode(t *testing.T) {
	var cases []planCase
	for code := api.ErrArg; code <= api.ErrText; code++ {
		add := func(name string, from int, txn uint64, want judge.Plan) {
			cases = append(cases, planCase{name, from, vote(txn, code), want})
		}
		ends := func(txn, batch uint64, who int, parts ...int) judge.Plan {
			return judge.Plan{Notes: notes(gone(txn)), Mail: mails(decide(txn, 0, code, parts...), reply(who, batch, 0, code))}
		}
		for _, from := range []int{1, 3} {
			add("of a part", from, silent, ends(silent, 23, 7, 1, 3))
		}
		for _, from := range []int{1, 2, 3} {
			add("of a part, also one that said yes", from, nearly, ends(nearly, 24, 8, 1, 2, 3))
		}
		add("of the only part", 2, single, ends(single, 26, 9, 2))
		for _, from := range []int{0, 2, 4, 7, 15} {
			add("of no part", from, silent, judge.Plan{})
		}
		for _, from := range []int{0, 1, 3, 9} {
			add("of no part, but of another's", from, single, judge.Plan{})
		}
		for _, from := range []int{0, 1, 2, 3, 5} {
			for _, txn := range []uint64{fresh, known, ofOther} {
				add("of a committed trial", from, txn, judge.Plan{})
			}
			for _, txn := range []uint64{0, old, dropped, next, math.MaxUint64, 23} {
				add("of no trial", from, txn, judge.Plan{})
			}
		}
	}
	mustPlanAll(t, cases)
}

func TestPlanVoteOK(t *testing.T) {
	var cases []planCase
	add := func(name string, from int, txn uint64, want judge.Plan) {
		cases = append(cases, planCase{name, from, vote(txn, api.OK), want})
	}
	last := func(txn, batch uint64, who int, all ...int) judge.Plan {
		return judge.Plan{
			Records: notes(commit(txn, batch, 6, all...)),
			Mail:    mails(decide(txn, 6, api.OK, all...), reply(who, batch, 6, api.OK)),
			Instead: notes(gone(txn)),
			Else:    mails(decide(txn, 0, api.ErrFull, all...), reply(who, batch, 0, api.ErrFull)),
		}
	}
	for _, from := range []int{1, 3} {
		add("not the last one", from, silent, judge.Plan{Notes: notes(yes(silent, from))})
		add("said already", from, nearly, judge.Plan{})
		add("not the last one's", from, single, judge.Plan{})
	}
	add("the last one", 2, nearly, last(nearly, 24, 8, 1, 2, 3))
	add("the only one", 2, single, last(single, 26, 9, 2))
	for _, from := range []int{0, 2, 4, 7, 15} {
		add("of no part", from, silent, judge.Plan{})
	}
	for _, from := range []int{0, 4, 8, 15} {
		add("of no part, where one is left", from, nearly, judge.Plan{})
	}
	for _, from := range []int{0, 1, 2, 3, 5} {
		for _, txn := range []uint64{fresh, known, ofOther} {
			add("of a committed trial", from, txn, judge.Plan{})
		}
		for _, txn := range []uint64{0, old, dropped, next, math.MaxUint64, 23} {
			add("of no trial", from, txn, judge.Plan{})
		}
	}
	mustPlanAll(t, cases)
}

// TestPlanVoteWhereAllHaveSaidYes: nothing is waited for, so that one more vote does nothing, if it isn't another Code.
func TestPlanVoteWhereAllHaveSaidYes(t *testing.T) {
	j, m := with(t, begin(1, 6, 0, 3, parts(1, 2), on(1, 0), on(2, 0)), yes(1, 2), yes(1, 1))
	for from := range 16 {
		mustPlan(t, j.Plan(from, vote(1, api.OK)), judge.Plan{})
	}
	mustPlan(t, j.Plan(2, vote(1, api.ErrLocked)), judge.Plan{
		Notes: notes(gone(1)),
		Mail:  mails(decide(1, 0, api.ErrLocked, 1, 2), reply(3, 6, 0, api.ErrLocked)),
	})
	mustHold(t, j, m)
}

func TestPlanAck(t *testing.T) {
	var cases []planCase
	add := func(name string, from int, txn uint64, want judge.Plan) {
		cases = append(cases, planCase{name, from, ack(txn), want})
	}
	for _, from := range []int{1, 2} {
		add("not the last one", from, fresh, judge.Plan{Notes: notes(acked(fresh, from))})
	}
	for _, from := range []int{1, 3} {
		add("not the last one, without a Begin", from, ofOther, judge.Plan{Notes: notes(acked(ofOther, from))})
		add("said already", from, known, judge.Plan{})
	}
	add("the last one", 2, known, judge.Plan{Records: notes(end(known))})
	for _, from := range []int{0, 3, 5, 15} {
		add("of no part", from, fresh, judge.Plan{})
	}
	for _, from := range []int{0, 4, 6, 15} {
		add("of no part, where one is left", from, known, judge.Plan{})
	}
	for _, from := range []int{0, 1, 2, 3, 5} {
		for _, txn := range []uint64{silent, nearly, single} {
			add("of an uncommitted trial", from, txn, judge.Plan{})
		}
		for _, txn := range []uint64{0, old, dropped, next, math.MaxUint64, 21} {
			add("of no trial", from, txn, judge.Plan{})
		}
	}
	mustPlanAll(t, cases)
}

// TestPlanAckWhereAllHave: nothing is waited for.
func TestPlanAckWhereAllHave(t *testing.T) {
	j, m := with(t, commit(1, 6, 1, 1, 2), acked(1, 2), acked(1, 1))
	for from := range 16 {
		mustPlan(t, j.Plan(from, ack(1)), judge.Plan{})
	}
	mustHold(t, j, m)
}

// TestPlanAckOfTheOnlyPart: End at once.
func TestPlanAckOfTheOnlyPart(t *testing.T) {
	j, m := with(t, commit(1, 6, 1, 3))
	mustPlan(t, j.Plan(3, ack(1)), judge.Plan{Records: notes(end(1))})
	mustPlan(t, j.Plan(2, ack(1)), judge.Plan{})
	mustHold(t, j, m)
}

func TestPlanProbe(t *testing.T) {
	var cases []planCase
	for from := range 16 {
		for txn, stamp := range map[uint64]uint64{fresh: 2, known: 5, ofOther: 3} {
			cases = append(cases, planCase{"committed", from, probe(txn), judge.Plan{Mail: decide(txn, stamp, api.OK, from)}})
		}
		for _, txn := range []uint64{silent, nearly, single} {
			cases = append(cases, planCase{"not committed", from, probe(txn), judge.Plan{}})
		}
		for _, txn := range []uint64{0, old, dropped, next, math.MaxUint64, 20} {
			cases = append(cases, planCase{"none", from, probe(txn), judge.Plan{Mail: decide(txn, 0, api.ErrNone, from)}})
		}
	}
	mustPlanAll(t, cases)
}

// TestPlanOther: notes of each other kind.
func TestPlanOther(t *testing.T) {
	var cases []planCase
	for _, n := range []note.Note{
		{Kind: note.Reply, Batch: 23, Stamp: 30},
		{Kind: note.Prepare, Txn: silent, After: 2, Parts: parts(1, 3), Ops: []api.Op{on(1, 0, 1)}},
		{Kind: note.Decide, Txn: silent, Stamp: 30}, {Kind: note.Decide, Txn: nearly, Code: api.ErrFull},
		{Kind: note.Query, Query: 7, ID: 50},
		{Kind: note.Look, Query: 7, ID: 50, Stamp: 30, Mark: 9},
		{Kind: note.Seen, Query: 7},
		{Kind: note.Result, Query: 7, Stamp: 30},
		{Kind: note.Prepared, Txn: silent, Ops: []api.Op{on(1, 0, 1)}},
		{Kind: note.Committed, Txn: silent, Stamp: 30}, {Kind: note.Aborted, Txn: silent}, {Kind: note.Swept, Mark: 30},
		epoch(9), commit(silent, 23, 9, 1, 3), end(known), begin(next, 30, 5, 4, parts(1), on(1, 0)),
		yes(silent, 1), acked(fresh, 1), gone(silent),
	} {
		if !note.Right(n) {
			t.Fatalf("%v isn't right", n)
		}
		for _, from := range []int{0, 1, 2, 3, 7} {
			cases = append(cases, planCase{note.Name(n.Kind), from, n, judge.Plan{}})
		}
	}
	mustPlanAll(t, cases)
}

// wrongs is a note with fields that it may not have, one in each.
func wrongs(n note.Note) []note.Note {
	var l []note.Note
	spoil := func(do func(n *note.Note)) {
		n := n
		do(&n)
		if !note.Right(n) {
			l = append(l, n)
		}
	}
	spoil(func(n *note.Note) { n.Kind = 0 })
	spoil(func(n *note.Note) { n.Kind = 23 })
	spoil(func(n *note.Note) { n.Kind |= 0x80 })
	spoil(func(n *note.Note) { n.Batch = 1 })
	spoil(func(n *note.Note) { n.Query = 1 })
	spoil(func(n *note.Note) { n.ID = 1 })
	spoil(func(n *note.Note) { n.K = 1 })
	spoil(func(n *note.Note) { n.Ef = -1 })
	spoil(func(n *note.Note) { n.Who = 16 })
	spoil(func(n *note.Note) { n.Who = -1 })
	spoil(func(n *note.Note) { n.Code = api.ErrText + 1 })
	spoil(func(n *note.Note) { n.Code = -1 })
	spoil(func(n *note.Note) { n.Stamp = api.MaxStamp + 1 })
	spoil(func(n *note.Note) { n.After = api.MaxStamp + 1 })
	spoil(func(n *note.Note) { n.Mark = api.MaxStamp + 1 })
	spoil(func(n *note.Note) { n.Vec = []int32{1} })
	spoil(func(n *note.Note) { n.Hits = []api.Hit{{ID: 1, Vec: []int32{1}}} })
	spoil(func(n *note.Note) { n.Parts = []int{2, 1} })
	spoil(func(n *note.Note) { n.Parts = []int{2, 2} })
	spoil(func(n *note.Note) { n.Parts = []int{-1} })
	spoil(func(n *note.Note) { n.Parts = []int{16} })
	spoil(func(n *note.Note) { n.Parts = []int{1, 2, 3, 4, 5} })
	spoil(func(n *note.Note) { n.Ops = many(api.MaxOps+1, 100) })
	spoil(func(n *note.Note) { n.Ops = append(slices.Clone(n.Ops), op(api.MaxID+1, 1)) })
	spoil(func(n *note.Note) { n.Ops = append(slices.Clone(n.Ops), op(99, api.MaxCoord+1)) })
	return l
}

func TestPlanOfWrongNotes(t *testing.T) {
	j, m := filled(t)
	before := j.Pack()
	for _, n := range []note.Note{ask(30, on(2, 0, 1)), ask(30), ask(20), vote(nearly, api.OK), vote(nearly, api.ErrFull), ack(known), probe(known), probe(next)} {
		if told(j.Plan(2, n)) == told(judge.Plan{}) {
			t.Fatalf("nothing is to be done for %v", n)
		}
		l := wrongs(n)
		if len(l) < 15 {
			t.Fatalf("only %d of %v are wrong", len(l), n)
		}
		for _, wrong := range l {
			mustPlan(t, j.Plan(2, wrong), judge.Plan{})
		}
		for _, from := range outside {
			mustPlan(t, j.Plan(from, n), judge.Plan{})
		}
	}
	mustPlan(t, j.Plan(2, note.Note{}), judge.Plan{})
	mustPlan(t, j.Plan(2, note.Note{Kind: 255}), judge.Plan{})
	if !bytes.Equal(j.Pack(), before) {
		t.Fatal("a Plan has changed something")
	}
	mustHold(t, j, m)
}
