package judge_test

import (
	"bytes"
	"slices"
	"testing"

	"armillary/api"
	"armillary/judge"
	"armillary/juror"
	"armillary/note"
)

// roomy is a list with spare room in which something stands.
func roomy[E any](l []E, spare E) []E {
	wide := append(slices.Clone(l), spare, spare)
	return wide[:len(l)]
}

// spacious is a note whose lists all have spare room.
func spacious(n note.Note) note.Note {
	n.Parts = roomy(n.Parts, 77)
	n.Ops = roomy(n.Ops, op(77))
	for i := range n.Ops {
		n.Ops[i].Vec = roomy(n.Ops[i].Vec, 77)
	}
	return n
}

// unrolled is what a note has, with the spare room of its lists.
func unrolled(n note.Note) string {
	all := told(n, n.Parts[:cap(n.Parts)], n.Ops[:cap(n.Ops)])
	for _, op := range n.Ops {
		all += told(op.Vec[:cap(op.Vec)])
	}
	return all
}

// fill writes over a list, and over its spare room.
func fill[E any](l []E, with E) {
	for i := range l[:cap(l)] {
		l[:cap(l)][i] = with
	}
}

// scribble writes over the lists of a note.
func scribble(n note.Note) {
	fill(n.Parts, 9)
	for _, op := range n.Ops {
		fill(op.Vec, 99)
	}
	fill(n.Ops, op(99))
}

// overwriteMail writes over all lists of mail.
func overwriteMail(l []juror.Mail) {
	for _, m := range l {
		scribble(m.Note)
	}
	fill(l, juror.Mail{To: 99})
}

func overwriteNotes(l []note.Note) {
	for _, n := range l {
		scribble(n)
	}
	fill(l, note.Note{Kind: 99})
}

// overwrite writes over all lists of a plan.
func overwrite(p judge.Plan) {
	overwriteNotes(p.Records)
	overwriteNotes(p.Notes)
	overwriteMail(p.Mail)
	overwriteNotes(p.Instead)
	overwriteMail(p.Else)
}

// wide is an Ask of all three shards.
func wide(batch uint64) note.Note {
	return ask(batch, on(3, 4, 5), on(1, 4, 6), on(2, 4), on(1, 5, 7), on(3, 5, 8), on(2, 5, 9))
}

// TestArgumentsStay: nothing is changed that is handed in, nor its spare room.
func TestArgumentsStay(t *testing.T) {
	j, _ := filled(t)
	for _, n := range []note.Note{
		spacious(wide(30)),
		spacious(wide(20)),
		spacious(ask(30, on(1, 4), on(1, 4))),
		spacious(begin(next, 30, 5, 4, parts(1, 2, 3), on(3, 4, 5), on(1, 4, 6))),
		spacious(begin(silent, 30, 5, 4, parts(1, 2, 3), on(3, 4, 5), on(1, 4, 6))),
		spacious(commit(next+1, 31, 6, 1, 2, 3)),
		spacious(commit(silent, 23, 7, 1, 3)),
		spacious(acked(fresh, 1)),
	} {
		before := unrolled(n)
		j.Plan(2, n)
		j.Apply(n)
		if after := unrolled(n); after != before {
			t.Fatalf("%s became %s", before, after)
		}
	}
	_, _, p := whole(t)
	p = roomy(p, 0x55)
	before := slices.Clone(p[:cap(p)])
	must(t, "Unpack", made(t, 3, 1).Unpack(p), api.OK)
	must(t, "Unpack", made(t, 3, 1).Unpack(p[:len(p)-1]), api.ErrForm)
	if !bytes.Equal(p[:cap(p)], before) {
		t.Fatalf("%x became %x", before, p[:cap(p)])
	}
}

// TestArgumentsArentKept: what was handed in may be written over.
func TestArgumentsArentKept(t *testing.T) {
	j, m := filled(t)
	for _, n := range []note.Note{
		begin(next, 30, 5, 4, parts(1, 2, 3), on(3, 4, 5), on(1, 4, 6), on(2, 4, 7)),
		commit(next+1, 31, 6, 1, 2, 3),
	} {
		must(t, "the model's Apply", m.apply(n), api.OK)
		n = spacious(n)
		must(t, "Apply", j.Apply(n), api.OK)
		scribble(n)
		mustHold(t, j, m)
	}

	n := spacious(wide(40))
	p := j.Plan(4, n)
	scribble(n)
	mustPlan(t, p, m.plan(4, wide(40)))
	mustHold(t, j, m)

	_, m, packed := whole(t)
	k := made(t, 3, 1)
	must(t, "Unpack", k.Unpack(packed), api.OK)
	fill(packed, 0xee)
	mustHold(t, k, m.forgetful())
}

// TestAnswersAreNew: what was handed out may be written over.
func TestAnswersAreNew(t *testing.T) {
	j, m := filled(t)
	n := wide(40)
	p := j.Plan(4, n)
	begins := m.plan(4, n).Notes[0]
	must(t, "Apply", j.Apply(p.Notes[0]), api.OK)
	must(t, "the model's Apply", m.apply(begins), api.OK)
	overwrite(p)
	mustHold(t, j, m)
	if told(n) != told(wide(40)) {
		t.Fatalf("the note became %v", n)
	}
	p = j.Plan(2, vote(nearly, api.OK))
	must(t, "Apply", j.Apply(p.Records[0]), api.OK)
	must(t, "the model's Apply", m.apply(commit(nearly, 24, 6, 1, 2, 3)), api.OK)
	overwrite(p)
	mustHold(t, j, m)

	for _, n := range []note.Note{wide(50), wide(20), ask(50), vote(single, api.OK), vote(single, api.ErrLocked), ack(known), ack(fresh), probe(known), probe(old)} {
		overwrite(j.Plan(2, n))
		mustPlan(t, j.Plan(2, n), m.plan(2, n))
	}
	overwriteMail(j.Wake())
	overwrite(j.Quit())
	fill(j.Pack(), 0xee)
	l := j.Trials()
	for _, trial := range l {
		fill(trial.Parts, 9)
		fill(trial.Yes, 9)
		fill(trial.Acked, 9)
	}
	fill(l, judge.Trial{Txn: 99})
	mustHold(t, j, m)
	for _, n := range []note.Note{yes(silent, 3), acked(fresh, 2), acked(fresh, 1)} {
		apply(t, j, m, n)
		mustHold(t, j, m)
	}
}

// partLists is each list of Parts and of ops in a plan.
func partLists(p judge.Plan) ([][]int, [][]api.Op) {
	var l [][]int
	var ops [][]api.Op
	for _, notes := range [][]note.Note{p.Records, p.Notes, p.Instead} {
		for _, n := range notes {
			l, ops = append(l, n.Parts), append(ops, n.Ops)
		}
	}
	for _, mail := range [][]juror.Mail{p.Mail, p.Else} {
		for _, m := range mail {
			l, ops = append(l, m.Note.Parts), append(ops, m.Note.Ops)
		}
	}
	return l, ops
}

// TestListsOfOneAnswer: what is written over in one list of an answer, or put behind it, is in none of its others.
func TestListsOfOneAnswer(t *testing.T) {
	j, m := filled(t)
	plans := map[string]func() judge.Plan{
		"Ask":  func() judge.Plan { return j.Plan(4, wide(40)) },
		"Vote": func() judge.Plan { return j.Plan(2, vote(nearly, api.OK)) },
		"Quit": j.Quit,
		"Wake": func() judge.Plan { return judge.Plan{Mail: j.Wake()} },
	}
	for name, plan := range plans {
		count, _ := partLists(plan())
		for i := range count {
			mustBeAlone(t, name, plan, i)
		}
		p := plan()
		fill(p.Mail, juror.Mail{To: 99})
		want := plan()
		if told(p.Records, p.Notes, p.Instead, p.Else) != told(want.Records, want.Notes, want.Instead, want.Else) {
			t.Fatalf("%s became %v", name, p)
		}
	}
	mustHold(t, j, m)
}

// mustBeAlone writes over the ith lists of a plan, and asks that the others are as they were.
func mustBeAlone(t *testing.T, name string, plan func() judge.Plan, i int) {
	t.Helper()
	l, ops := partLists(plan())
	wantL, wantOps := partLists(plan())
	fill(l[i], 99)
	for _, o := range ops[i] {
		fill(o.Vec, 99)
	}
	fill(ops[i], op(99))
	l[i], ops[i], wantL[i], wantOps[i] = nil, nil, nil, nil
	if told(l, ops) != told(wantL, wantOps) {
		t.Fatalf("%s: the lists became %v %v, want %v %v", name, l, ops, wantL, wantOps)
	}
}

// TestTrialsAreApart: the lists of one trial that is told share nothing with one another.
func TestTrialsAreApart(t *testing.T) {
	j, _ := with(t, begin(1, 1, 0, 4, parts(1, 2, 3), on(1, 0)), yes(1, 1), yes(1, 2), commit(1, 1, 1, 1, 2, 3), acked(1, 3), acked(1, 2))
	want := judge.Trial{Txn: 1, Batch: 1, Stamp: 1, Who: 4, Parts: parts(1, 2, 3), Yes: parts(1, 2), Acked: parts(2, 3)}
	for i := range 3 {
		got, want := j.Trials()[0], want
		for k, l := range []*[]int{&got.Parts, &got.Yes, &got.Acked} {
			if k == i {
				fill(*l, 99)
				*l = nil
			}
		}
		for k, l := range []*[]int{&want.Parts, &want.Yes, &want.Acked} {
			if k == i {
				*l = nil
			}
		}
		if told(got) != told(want) {
			t.Fatalf("the trial became %v, want %v", got, want)
		}
	}
}

// TestJudgesAreApart: one that was made of another's bytes shares nothing with it.
func TestJudgesAreApart(t *testing.T) {
	j, m, p := whole(t)
	k, l := made(t, 3, 1), made(t, 3, 1)
	must(t, "Unpack", k.Unpack(p), api.OK)
	must(t, "Unpack", l.Unpack(p), api.OK)
	for _, n := range []note.Note{acked(300, 2), end(9), epoch(200), commit(in(200, 1), 7, 300, 2)} {
		must(t, told(n), k.Apply(n), api.OK)
	}
	mustHold(t, j, m)
	mustHold(t, l, m.forgetful())
}
