package juror_test

import (
	"bytes"
	"math"
	"slices"
	"testing"

	"armillary/api"
	"armillary/juror"
	"armillary/note"
)

// filled is a juror of which each row of the table has something: 5, 6 and 4 are committed, at 3, 6 and 20; 7 to 10 are intents; the mark is 4.
func filled(t *testing.T) (*juror.Juror, *model) {
	t.Helper()
	return with(t,
		prepared(5, 0, []int{1, 2}, op(50, 1)), committed(5, 3),
		prepared(6, 0, []int{2}, op(60, 2)), committed(6, 6),
		prepared(4, 0, nil, op(40, 2), op(41)), committed(4, 20),
		swept(4),
		prepared(7, 1, []int{1, 2, 3}, op(50, 3), op(70)),
		prepared(8, 9, []int{2}, op(80, 4)),
		prepared(9, 1, nil, op(90, 5), op(60)),
		prepared(10, 0, nil, op(41, 6)),
	)
}

// planCase is a note from a node, and what is to be done.
type planCase struct {
	name string
	from int
	n    note.Note
	want juror.Plan
}

func mustPlanAll(t *testing.T, cases []planCase) {
	t.Helper()
	for _, c := range cases {
		t.Run(c.name, func(t *testing.T) {
			j, m := filled(t)
			for range 2 {
				// Twice, since it changes nothing.
				mustPlan(t, j.Plan(c.from, c.n), c.want)
				mustHold(t, j, m)
			}
			mustPlan(t, m.plan(c.from, c.n), c.want)
		})
	}
}

// toWrite is the plan of a Prepare that is written down.
func toWrite(n note.Note) juror.Plan {
	record := n
	record.Kind = note.Prepared
	return juror.Plan{Records: []note.Note{record}, Mail: vote(n.Txn, api.OK), Else: vote(n.Txn, api.ErrFull)}
}

// many is as many deletes, from an ID on.
func many(count int, first uint64) []api.Op {
	var ops []api.Op
	for i := range uint64(count) {
		ops = append(ops, op(first+i))
	}
	return ops
}

func TestPlanPrepare(t *testing.T) {
	yes := func(txn uint64) juror.Plan { return juror.Plan{Mail: vote(txn, api.OK)} }
	locked := juror.Plan{Mail: vote(11, api.ErrLocked)}
	var cases []planCase
	add := func(name string, n note.Note, want juror.Plan) {
		cases = append(cases, planCase{name, 0, n, want})
		for _, from := range []int{1, 2, 15, 16, -1, math.MaxInt} {
			cases = append(cases, planCase{name + ", of another node", from, n, juror.Plan{}})
		}
	}
	write := func(name string, n note.Note) { add(name, n, toWrite(n)) }

	write("an ordinary one", prepare(11, 3, []int{1, 2}, op(1, 5), op(2)))
	write("ops that don't rise", prepare(11, 3, []int{2}, op(9), op(1, 5), op(3, 6)))
	write("no Parts", prepare(11, 0, nil, op(1, 5)))
	write("Parts without itself", prepare(11, 0, []int{0, 1, 14, 15}, op(1, 5)))
	write("the greatest of all", prepare(math.MaxUint64, api.MaxStamp, []int{15}, op(api.MaxID, -api.MaxCoord)))
	write("Txn 0, ID 0", prepare(0, 0, nil, op(0, api.MaxCoord)))
	write("After below the mark", prepare(11, 1, nil, op(1, 5)))
	write("After below the versions", prepare(11, 1, nil, op(40, 5)))
	write("as many as may be", prepare(11, 1, nil, many(api.MaxOps, 100)...))

	add("committed already", prepare(5, 0, []int{1, 2}, op(50, 1)), juror.Plan{})
	add("committed already, of other IDs", prepare(6, 8, nil, op(1, 1)), juror.Plan{})
	add("committed already, of an ID that is held", prepare(4, 8, nil, op(80, 1)), juror.Plan{})

	add("no ops", prepare(11, 0, nil), juror.Plan{})
	add("two of one ID", prepare(11, 0, nil, op(1, 5), op(1)), juror.Plan{})
	add("another dim", prepare(11, 0, nil, op(1, 5, 6)), juror.Plan{})
	add("another dim beside a right one", prepare(11, 0, nil, op(2, 5), op(1, 5, 6)), juror.Plan{})
	add("no ops, of an intent", prepare(7, 1, []int{1, 2, 3}), juror.Plan{})
	add("another dim, of an intent", prepare(8, 9, []int{2}, op(80, 4, 4)), juror.Plan{})
	add("two of one ID that is held", prepare(11, 0, nil, op(80), op(80)), juror.Plan{})

	add("an intent", prepare(7, 1, []int{1, 2, 3}, op(50, 3), op(70)), yes(7))
	add("an intent, otherwise", prepare(7, 2, nil, op(1, 3)), yes(7))
	add("an intent, of an ID that another holds", prepare(7, 1, nil, op(80, 3)), yes(7))
	add("the last intent", prepare(10, 0, nil, op(41, 6)), yes(10))

	add("an ID that is held", prepare(11, 0, nil, op(80, 4)), locked)
	add("an ID that is held till later", prepare(11, api.MaxStamp, nil, op(70, 4)), locked)
	add("one among others", prepare(11, 0, nil, op(1), op(2), op(60)), locked)
	add("the first among others", prepare(11, 0, nil, op(41, 1), op(2)), locked)
	add("held by several", prepare(11, 0, nil, op(50, 1), op(90)), locked)
	mustPlanAll(t, cases)
}

// TestPlanPrepareAtTheEnd: an intent at the greatest After holds its IDs, too.
func TestPlanPrepareAtTheEnd(t *testing.T) {
	j, m := with(t, prepared(7, api.MaxStamp, nil, op(api.MaxID, 1)))
	n := prepare(8, api.MaxStamp, nil, op(api.MaxID, 2))
	mustPlan(t, j.Plan(0, n), juror.Plan{Mail: vote(8, api.ErrLocked)})
	mustPlan(t, m.plan(0, n), juror.Plan{Mail: vote(8, api.ErrLocked)})
}

func TestPlanCommit(t *testing.T) {
	var cases []planCase
	add := func(name string, txn, stamp uint64, want juror.Plan) {
		for _, from := range []int{0, 1, 2, 15, 16, -1} {
			cases = append(cases, planCase{name, from, decide(txn, stamp, api.OK), want})
		}
	}
	commit := func(txn, stamp uint64) juror.Plan {
		return juror.Plan{Records: []note.Note{committed(txn, stamp)}, Mail: ack(txn)}
	}
	add("committed at that stamp", 5, 3, juror.Plan{Mail: ack(5)})
	add("committed at that stamp, another", 6, 6, juror.Plan{Mail: ack(6)})
	add("committed at a lesser one", 5, 4, juror.Plan{})
	add("committed at a greater one", 5, 2, juror.Plan{})
	add("committed, at 0", 5, 0, juror.Plan{})
	add("committed, far above", 6, api.MaxStamp, juror.Plan{})

	add("at its After", 8, 9, juror.Plan{})
	add("below its After", 8, 8, juror.Plan{})
	add("at 0", 10, 0, juror.Plan{})
	add("above its After, below all versions of others", 8, 10, commit(8, 10))
	add("above its After, far", 8, api.MaxStamp, commit(8, api.MaxStamp))

	add("below the mark", 7, 3, juror.Plan{})
	add("at the mark", 7, 4, juror.Plan{})
	add("above the mark", 7, 5, commit(7, 5))

	add("at a version of its second ID", 9, 6, juror.Plan{})
	add("below a version of its second ID, above the mark", 9, 5, juror.Plan{})
	add("above it", 9, 7, commit(9, 7))
	add("at the last version of all, of its ID", 10, 20, juror.Plan{})
	add("below the last version of all, of its ID", 10, 19, juror.Plan{})
	add("above the last version of all, of its ID", 10, 21, commit(10, 21))
	add("at the last version of all, of another ID", 9, 20, commit(9, 20))

	add("of no intent", 11, 30, juror.Plan{})
	add("of no intent, at 0", 0, 0, juror.Plan{})
	mustPlanAll(t, cases)
}

// TestPlanCommitBelowOthers: only the versions of its own IDs count, all of each.
func TestPlanCommitBelowOthers(t *testing.T) {
	j, m := with(t,
		prepared(1, 0, nil, op(10, 1)), committed(1, 5),
		prepared(2, 0, nil, op(10, 2)), committed(2, 8),
		prepared(3, 0, nil, op(20, 3)), committed(3, 30),
		prepared(4, 0, nil, op(5), op(10)),
		prepared(6, 0, nil, op(9), op(11), op(19), op(21)),
	)
	for stamp := range uint64(33) {
		for _, txn := range []uint64{4, 6} {
			var want juror.Plan
			if stamp > 8 || txn == 6 && stamp > 0 {
				want = juror.Plan{Records: []note.Note{committed(txn, stamp)}, Mail: ack(txn)}
			}
			mustPlan(t, j.Plan(0, decide(txn, stamp, api.OK)), want)
		}
	}
	mustHold(t, j, m)
}

func TestPlanAbort(t *testing.T) {
	var cases []planCase
	for code := api.ErrArg; code <= api.ErrText; code++ {
		for _, stamp := range []uint64{0, 3, 21} {
			for _, txn := range []uint64{7, 8, 9, 10} {
				n := decide(txn, stamp, code)
				cases = append(cases, planCase{"an intent", 0, n, juror.Plan{Records: []note.Note{aborted(txn)}}})
				for _, from := range []int{1, 2, 15, 16, -1} {
					cases = append(cases, planCase{"an intent, of another node", from, n, juror.Plan{}})
				}
			}
			cases = append(cases,
				planCase{"committed", 0, decide(5, stamp, code), juror.Plan{}},
				planCase{"committed, of another node", 1, decide(5, stamp, code), juror.Plan{}},
				planCase{"no intent", 0, decide(11, stamp, code), juror.Plan{}},
				planCase{"no intent, of another node", 3, decide(0, stamp, code), juror.Plan{}},
			)
		}
	}
	mustPlanAll(t, cases)
}

func TestPlanProbe(t *testing.T) {
	var cases []planCase
	for _, from := range []int{0, 1, 2, 15} {
		for txn, stamp := range map[uint64]uint64{5: 3, 6: 6, 4: 20} {
			cases = append(cases, planCase{"committed", from, probe(txn), juror.Plan{Mail: mail(from, decide(txn, stamp, api.OK))}})
		}
		for _, txn := range []uint64{0, 7, 8, 9, 10, 11, math.MaxUint64} {
			cases = append(cases, planCase{"not committed", from, probe(txn), juror.Plan{}})
		}
	}
	mustPlanAll(t, cases)
}

// TestPlanOther: notes of each other kind.
func TestPlanOther(t *testing.T) {
	var cases []planCase
	for _, n := range []note.Note{
		{Kind: note.Ask, Batch: 7, Ops: []api.Op{op(1, 5)}},
		{Kind: note.Reply, Batch: 7, Stamp: 30},
		{Kind: note.Vote, Txn: 7}, {Kind: note.Vote, Txn: 5, Code: api.ErrFull},
		{Kind: note.Ack, Txn: 7}, {Kind: note.Ack, Txn: 5},
		{Kind: note.Query, Query: 7, ID: 50},
		{Kind: note.Look, Query: 7, ID: 50, Stamp: 30, Mark: 9},
		{Kind: note.Seen, Query: 7},
		{Kind: note.Result, Query: 7, Stamp: 30},
		prepared(11, 1, nil, op(1, 5)), prepared(7, 1, nil, op(1, 5)),
		committed(7, 30), committed(5, 3), aborted(7), swept(30),
		{Kind: note.Epoch, Mark: 30},
		{Kind: note.Commit, Txn: 7, Batch: 1, Stamp: 30, Parts: []int{1, 2}},
		{Kind: note.End, Txn: 5},
		{Kind: note.Begin, Txn: 11, Ops: []api.Op{op(1, 5)}},
		{Kind: note.Yes, Txn: 7, Who: 2}, {Kind: note.Acked, Txn: 7, Who: 2}, {Kind: note.Gone, Txn: 7},
	} {
		if !note.Right(n) {
			t.Fatalf("%v isn't right", n)
		}
		for _, from := range []int{0, 1, 2} {
			cases = append(cases, planCase{note.Name(n.Kind), from, n, juror.Plan{}})
		}
	}
	mustPlanAll(t, cases)
}

// wrongs is a note with fields that it may not have, one in each.
func wrongs(n note.Note) []note.Note {
	var l []note.Note
	spoil := func(do func(n *note.Note)) {
		n := n
		do(&n)
		if !note.Right(n) {
			l = append(l, n)
		}
	}
	spoil(func(n *note.Note) { n.Kind = 0 })
	spoil(func(n *note.Note) { n.Kind = 23 })
	spoil(func(n *note.Note) { n.Kind |= 0x80 })
	spoil(func(n *note.Note) { n.Batch = 1 })
	spoil(func(n *note.Note) { n.Query = 1 })
	spoil(func(n *note.Note) { n.ID = 1 })
	spoil(func(n *note.Note) { n.K = 1 })
	spoil(func(n *note.Note) { n.Ef = -1 })
	spoil(func(n *note.Note) { n.Who = 2 })
	spoil(func(n *note.Note) { n.Code = api.ErrText + 1 })
	spoil(func(n *note.Note) { n.Code = -1 })
	spoil(func(n *note.Note) { n.Stamp = api.MaxStamp + 1 })
	spoil(func(n *note.Note) { n.After = api.MaxStamp + 1 })
	spoil(func(n *note.Note) { n.Mark = api.MaxStamp + 1 })
	spoil(func(n *note.Note) { n.Vec = []int32{1} })
	spoil(func(n *note.Note) { n.Hits = []api.Hit{{ID: 1, Vec: []int32{1}}} })
	spoil(func(n *note.Note) { n.Parts = []int{2, 1} })
	spoil(func(n *note.Note) { n.Parts = []int{2, 2} })
	spoil(func(n *note.Note) { n.Parts = []int{-1} })
	spoil(func(n *note.Note) { n.Parts = []int{16} })
	spoil(func(n *note.Note) { n.Parts = []int{1, 2, 3, 4, 5} })
	spoil(func(n *note.Note) { n.Ops = many(api.MaxOps+1, 100) })
	spoil(func(n *note.Note) { n.Ops = append(slices.Clone(n.Ops), op(api.MaxID+1, 1)) })
	spoil(func(n *note.Note) { n.Ops = append(slices.Clone(n.Ops), op(99, api.MaxCoord+1)) })
	return l
}

func TestPlanOfWrongNotes(t *testing.T) {
	j, m := filled(t)
	before := j.Pack()
	for _, n := range []note.Note{prepare(11, 1, []int{1, 2}, op(1, 5)), prepare(7, 1, nil, op(1, 5)), decide(7, 30, api.OK), decide(5, 3, api.OK), decide(7, 0, api.ErrNone), probe(5)} {
		if told(j.Plan(0, n)) == told(juror.Plan{}) {
			t.Fatalf("nothing is to be done for %v", n)
		}
		l := wrongs(n)
		if len(l) < 15 {
			t.Fatalf("only %d of %v are wrong", len(l), n)
		}
		for _, wrong := range l {
			mustPlan(t, j.Plan(0, wrong), juror.Plan{})
		}
	}
	mustPlan(t, j.Plan(0, note.Note{}), juror.Plan{})
	mustPlan(t, j.Plan(0, note.Note{Kind: 255}), juror.Plan{})
	if !bytes.Equal(j.Pack(), before) {
		t.Fatal("a Plan has changed something")
	}
	mustHold(t, j, m)
}
