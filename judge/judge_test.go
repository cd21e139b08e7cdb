package judge_test

import (
	"fmt"
	"math"
	"testing"

	"armillary/api"
	"armillary/judge"
	"armillary/juror"
	"armillary/note"
	"armillary/vec"
)

// made is a judge that has nothing.
func made(t *testing.T, shards, dim int) *judge.Judge {
	t.Helper()
	j, e := judge.New(shards, dim)
	if j == nil || e != api.OK {
		t.Fatalf("New(%d, %d) = %v, %d", shards, dim, j, e)
	}
	return j
}

// must stops the test if e isn't want.
func must(t *testing.T, what string, e, want api.Errno) {
	t.Helper()
	if e != want {
		t.Fatalf("%s = %d, want %d", what, e, want)
	}
}

// told is all that an answer says; nil and empty lists are told alike.
func told(answer ...any) string {
	return fmt.Sprintf("%v", answer)
}

// op is what a batch does with an ID: without numbers, it has none any more.
func op(id uint64, vec ...int32) api.Op {
	return api.Op{ID: id, Vec: vec}
}

// on is an op of the nth ID, counted from 0, that belongs to that part of three.
func on(part, nth int, vec ...int32) api.Op {
	return op(idOf(part, nth, 3), vec...)
}

func idOf(part, nth, shards int) uint64 {
	id := uint64(0)
	for ; vec.Home(id, shards)+1 != part || nth > 0; id++ {
		if vec.Home(id, shards)+1 == part {
			nth--
		}
	}
	return id
}

// many is as many deletes, from an ID on.
func many(count int, first uint64) []api.Op {
	var ops []api.Op
	for i := range uint64(count) {
		ops = append(ops, op(first+i))
	}
	return ops
}

// in is the number of an epoch's transaction.
func in(epoch, count uint64) uint64 {
	return epoch*1048576 + count
}

func parts(l ...int) []int {
	return l
}

func ask(batch uint64, ops ...api.Op) note.Note {
	return note.Note{Kind: note.Ask, Batch: batch, Ops: ops}
}

func vote(txn uint64, code api.Errno) note.Note {
	return note.Note{Kind: note.Vote, Txn: txn, Code: code}
}

func ack(txn uint64) note.Note {
	return note.Note{Kind: note.Ack, Txn: txn}
}

func probe(txn uint64) note.Note {
	return note.Note{Kind: note.Probe, Txn: txn}
}

func epoch(mark uint64) note.Note {
	return note.Note{Kind: note.Epoch, Mark: mark}
}

func begin(txn, batch, after uint64, who int, parts []int, ops ...api.Op) note.Note {
	return note.Note{Kind: note.Begin, Txn: txn, Batch: batch, After: after, Who: who, Parts: parts, Ops: ops}
}

func yes(txn uint64, who int) note.Note {
	return note.Note{Kind: note.Yes, Txn: txn, Who: who}
}

func acked(txn uint64, who int) note.Note {
	return note.Note{Kind: note.Acked, Txn: txn, Who: who}
}

func commit(txn, batch, stamp uint64, parts ...int) note.Note {
	return note.Note{Kind: note.Commit, Txn: txn, Batch: batch, Stamp: stamp, Parts: parts}
}

func end(txn uint64) note.Note {
	return note.Note{Kind: note.End, Txn: txn}
}

func gone(txn uint64) note.Note {
	return note.Note{Kind: note.Gone, Txn: txn}
}

func notes(l ...note.Note) []note.Note {
	return l
}

// mails is one list of several.
func mails(lists ...[]juror.Mail) []juror.Mail {
	var all []juror.Mail
	for _, l := range lists {
		all = append(all, l...)
	}
	return all
}

func mail(to int, n note.Note) []juror.Mail {
	return []juror.Mail{{To: to, Note: n}}
}

func reply(to int, batch, stamp uint64, code api.Errno) []juror.Mail {
	return mail(to, note.Note{Kind: note.Reply, Batch: batch, Stamp: stamp, Code: code})
}

// decide tells several the same.
func decide(txn, stamp uint64, code api.Errno, to ...int) []juror.Mail {
	var l []juror.Mail
	for _, to := range to {
		l = append(l, mail(to, note.Note{Kind: note.Decide, Txn: txn, Stamp: stamp, Code: code})...)
	}
	return l
}

func prepare(to int, txn, after uint64, parts []int, ops ...api.Op) []juror.Mail {
	return mail(to, note.Note{Kind: note.Prepare, Txn: txn, After: after, Parts: parts, Ops: ops})
}

// with is a judge of 3 shards and dim 1 to which these were applied, beside a model of it.
func with(t *testing.T, applied ...note.Note) (*judge.Judge, *model) {
	t.Helper()
	j, m := made(t, 3, 1), newModel(3, 1)
	apply(t, j, m, applied...)
	return j, m
}

// apply tells both what happens.
func apply(t *testing.T, j *judge.Judge, m *model, applied ...note.Note) {
	t.Helper()
	for _, n := range applied {
		must(t, told("Apply of ", n), j.Apply(n), api.OK)
		must(t, told("the model's Apply of ", n), m.apply(n), api.OK)
	}
}

// TestExample: the chapter's.
func TestExample(t *testing.T) {
	j, m := made(t, 2, 1), newModel(2, 1)
	one, two := op(idOf(1, 0, 2), 8), op(idOf(2, 0, 2))
	p := j.Plan(5, ask(9, two, one))
	begins := begin(1, 9, 0, 5, parts(1, 2), two, one)
	mustPlan(t, p, judge.Plan{
		Notes: notes(begins),
		Mail:  mails(prepare(1, 1, 0, parts(1, 2), one), prepare(2, 1, 0, parts(1, 2), two)),
	})
	mustHold(t, j, m)
	must(t, "Apply", j.Apply(p.Notes[0]), api.OK)
	apply(t, made(t, 2, 1), m, begins)
	mustHold(t, j, m)

	p = j.Plan(1, vote(1, api.OK))
	mustPlan(t, p, judge.Plan{Notes: notes(yes(1, 1))})
	apply(t, j, m, p.Notes...)
	mustHold(t, j, m)

	p = j.Plan(2, vote(1, api.OK))
	mustPlan(t, p, judge.Plan{
		Records: notes(commit(1, 9, 1, 1, 2)),
		Mail:    mails(decide(1, 1, api.OK, 1, 2), reply(5, 9, 1, api.OK)),
		Instead: notes(gone(1)),
		Else:    mails(decide(1, 0, api.ErrFull, 1, 2), reply(5, 9, 0, api.ErrFull)),
	})
	apply(t, j, m, p.Records...)
	mustHold(t, j, m)
	if stamp, done := j.Done(9); stamp != 1 || !done || j.Last() != 1 {
		t.Fatalf("Done(9) = %d, %t, Last() = %d", stamp, done, j.Last())
	}
}

// TestCourse is a trial from its Ask to its End, as the table has it.
func TestCourse(t *testing.T) {
	j, m := with(t, epoch(3), begin(in(3, 1), 1, 0, 4, parts(2)), commit(in(3, 1), 1, 7, 2), end(in(3, 1)))
	x, y, z := on(3, 0, 5), on(1, 0), on(3, 1, -6)
	all := parts(1, 3)
	txn := in(3, 2)
	for _, c := range []struct {
		from int
		n    note.Note
		want judge.Plan
	}{
		{15, ask(9, x, y, z), judge.Plan{
			Notes: notes(begin(txn, 9, 7, 15, all, x, y, z)),
			Mail:  mails(prepare(1, txn, 7, all, y), prepare(3, txn, 7, all, x, z)),
		}},
		{3, vote(txn, api.OK), judge.Plan{Notes: notes(yes(txn, 3))}},
		{3, vote(txn, api.OK), judge.Plan{}},
		{2, probe(txn), judge.Plan{}},
		{15, ask(9, x, y, z), judge.Plan{}},
		{1, vote(txn, api.OK), judge.Plan{
			Records: notes(commit(txn, 9, 8, 1, 3)),
			Mail:    mails(decide(txn, 8, api.OK, 1, 3), reply(15, 9, 8, api.OK)),
			Instead: notes(gone(txn)),
			Else:    mails(decide(txn, 0, api.ErrFull, 1, 3), reply(15, 9, 0, api.ErrFull)),
		}},
		{2, probe(txn), judge.Plan{Mail: decide(txn, 8, api.OK, 2)}},
		{14, ask(9, x), judge.Plan{Mail: reply(14, 9, 8, api.OK)}},
		{1, ack(txn), judge.Plan{Notes: notes(acked(txn, 1))}},
		{1, ack(txn), judge.Plan{}},
		{3, ack(txn), judge.Plan{Records: notes(end(txn))}},
		{2, probe(txn), judge.Plan{Mail: decide(txn, 0, api.ErrNone, 2)}},
		{14, ask(9, x), judge.Plan{Mail: reply(14, 9, 8, api.OK)}},
	} {
		p := j.Plan(c.from, c.n)
		mustPlan(t, p, c.want)
		mustPlan(t, m.plan(c.from, c.n), c.want)
		mustHold(t, j, m)
		apply(t, j, m, append(p.Records, p.Notes...)...)
		mustHold(t, j, m)
	}
}

func TestNew(t *testing.T) {
	for _, c := range []struct {
		shards, dim int
		want        api.Errno
	}{
		{1, 1, api.OK},
		{api.MaxShards, api.MaxDim, api.OK},
		{1, api.MaxDim, api.OK},
		{api.MaxShards, 1, api.OK},
		{2, 3, api.OK},
		{0, 1, api.ErrArg},
		{-1, 1, api.ErrArg},
		{api.MaxShards + 1, 1, api.ErrArg},
		{math.MinInt, 1, api.ErrArg},
		{math.MaxInt, 1, api.ErrArg},
		{1, 0, api.ErrArg},
		{1, -1, api.ErrArg},
		{1, api.MaxDim + 1, api.ErrArg},
		{api.MaxShards, math.MaxInt, api.ErrArg},
		{api.MaxShards, math.MinInt, api.ErrArg},
		{0, 0, api.ErrArg},
	} {
		j, e := judge.New(c.shards, c.dim)
		if e != c.want || (j == nil) != (e != api.OK) {
			t.Errorf("New(%d, %d) = %v, %d, want %d", c.shards, c.dim, j, e, c.want)
		}
		if e == api.OK {
			mustHold(t, j, newModel(c.shards, c.dim))
			if j.Epoch() != 0 || j.Last() != 0 || len(j.Trials())+len(j.Wake())+len(j.Quit().Notes) > 0 {
				t.Errorf("New(%d, %d) has something", c.shards, c.dim)
			}
		}
	}
}

// TestShardsAndDim: each judge asks as many shards as it has, and takes vectors of its dim alone.
func TestShardsAndDim(t *testing.T) {
	for shards := 1; shards <= api.MaxShards; shards++ {
		for dim := 1; dim <= api.MaxDim; dim++ {
			j, m := made(t, shards, dim), newModel(shards, dim)
			n := ask(7)
			var all []int
			for part := shards; part >= 1; part-- {
				n.Ops = append(n.Ops, op(idOf(part, 0, shards), make([]int32, dim)...), op(idOf(part, 1, shards)))
				all = append(all, shards+1-part)
			}
			want := judge.Plan{Notes: notes(begin(1, 7, 0, 9, all, n.Ops...))}
			for part := range shards {
				at := 2 * (shards - 1 - part)
				want.Mail = append(want.Mail, prepare(part+1, 1, 0, all, n.Ops[at:at+2]...)...)
			}
			mustPlan(t, j.Plan(9, n), want)
			for _, other := range []int{dim - 1, dim + 1} {
				if other < 1 || other > api.MaxDim {
					continue
				}
				n := ask(7, op(1, make([]int32, dim)...), op(2, make([]int32, other)...))
				mustPlan(t, j.Plan(9, n), judge.Plan{Mail: reply(9, 7, 0, api.ErrForm)})
			}
			mustHold(t, j, m)
		}
	}
}

func TestNil(t *testing.T) {
	var j *judge.Judge
	for _, n := range []note.Note{{}, ask(7, op(1, 2)), ask(7), vote(1, api.OK), vote(1, api.ErrFull), ack(1), probe(1), {Kind: 99}} {
		for _, from := range []int{-1, 0, 1, 15, 16} {
			mustPlan(t, j.Plan(from, n), judge.Plan{})
		}
	}
	for _, n := range []note.Note{{}, epoch(1), epoch(0), begin(1, 2, 0, 1, nil, op(1, 2)), yes(1, 1), acked(1, 1), commit(1, 2, 3, 1), commit(1, 2, 0), end(1), gone(1), {Kind: 99}, ask(7)} {
		must(t, "Apply", j.Apply(n), api.ErrNone)
	}
	for _, p := range [][]byte{nil, {}, {1}, {0, 0, 0, 0}, {1, 0, 0, 0}} {
		must(t, "Unpack", j.Unpack(p), api.ErrNone)
	}
	mustPlan(t, j.Quit(), judge.Plan{})
	if l := j.Wake(); len(l) > 0 {
		t.Errorf("Wake = %v", l)
	}
	if l := j.Trials(); len(l) > 0 {
		t.Errorf("Trials = %v", l)
	}
	if p := j.Pack(); len(p) > 0 {
		t.Errorf("Pack = %x", p)
	}
	if stamp, done := j.Done(7); stamp != 0 || done || j.Epoch() != 0 || j.Last() != 0 {
		t.Errorf("Done = %d, %t, Epoch = %d, Last = %d", stamp, done, j.Epoch(), j.Last())
	}
}
