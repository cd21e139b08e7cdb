package juror_test

import (
	"bytes"
	"slices"
	"testing"

	"armillary/api"
	"armillary/juror"
	"armillary/note"
)

// roomy is a list with spare room in which something stands.
func roomy[E any](l []E, spare E) []E {
	wide := append(slices.Clone(l), spare, spare)
	return wide[:len(l)]
}

// spacious is a note whose lists all have spare room.
func spacious(n note.Note) note.Note {
	n.Parts = roomy(n.Parts, 77)
	n.Ops = roomy(n.Ops, op(77))
	for i := range n.Ops {
		n.Ops[i].Vec = roomy(n.Ops[i].Vec, 77)
	}
	return n
}

// unrolled is what a note has, with the spare room of its lists.
func unrolled(n note.Note) string {
	all := told(n, n.Parts[:cap(n.Parts)], n.Ops[:cap(n.Ops)])
	for _, op := range n.Ops {
		all += told(op.Vec[:cap(op.Vec)])
	}
	return all
}

// fill writes over a list, and over its spare room.
func fill[E any](l []E, with E) {
	for i := range l[:cap(l)] {
		l[:cap(l)][i] = with
	}
}

func fillOps(l []api.Op) {
	for _, op := range l {
		fill(op.Vec, 99)
	}
	fill(l, op(99))
}

// scribble writes over the lists of a note.
func scribble(n note.Note) {
	fill(n.Parts, 9)
	fillOps(n.Ops)
}

// TestArgumentsStay: nothing is changed that is handed in, nor its spare room.
func TestArgumentsStay(t *testing.T) {
	j, _ := filled(t)
	for _, n := range []note.Note{
		spacious(prepare(11, 1, []int{1, 2}, op(2, 5), op(1), op(3, 6))),
		spacious(prepare(7, 1, []int{1, 2}, op(2, 5))),
		spacious(prepare(11, 1, nil, op(80, 5), op(2))),
		spacious(prepared(11, 1, []int{1, 2}, op(2, 5), op(1), op(3, 6))),
		spacious(prepared(12, 1, []int{1}, op(2, 5))),
	} {
		before := unrolled(n)
		j.Plan(0, n)
		j.Apply(n)
		if after := unrolled(n); after != before {
			t.Fatalf("%s became %s", before, after)
		}
	}
	_, _, p := whole(t)
	p = roomy(p, 0x55)
	before := slices.Clone(p[:cap(p)])
	must(t, "Unpack", made(t, 2, 1).Unpack(p), api.OK)
	must(t, "Unpack", made(t, 2, 1).Unpack(p[:len(p)-1]), api.ErrForm)
	if !bytes.Equal(p[:cap(p)], before) {
		t.Fatalf("%x became %x", before, p[:cap(p)])
	}
	ids := roomy([]uint64{50, 1}, 77)
	j.Blocked(30, ids...)
	if got := told(ids[:cap(ids)][:4]); got != "[[50 1 77 77]]" {
		t.Fatalf("the IDs became %s", got)
	}
}

// TestArgumentsArentKept: what was handed in may be written over.
func TestArgumentsArentKept(t *testing.T) {
	j, m := filled(t)
	n := spacious(prepared(11, 1, []int{1, 2, 5}, op(2, 5), op(1), op(3, 6)))
	m.apply(n)
	must(t, "Apply", j.Apply(n), api.OK)
	scribble(n)
	mustHold(t, j, m)

	ask := spacious(prepare(12, 1, []int{1, 2}, op(12, 5), op(11)))
	p := j.Plan(0, ask)
	scribble(ask)
	mustPlan(t, p, toWrite(prepare(12, 1, []int{1, 2}, op(12, 5), op(11))))
	mustHold(t, j, m)

	_, m, packed := whole(t)
	k := made(t, 2, 1)
	must(t, "Unpack", k.Unpack(packed), api.OK)
	fill(packed, 0xee)
	mustHold(t, k, m)
}

// TestAnswersAreNew: what was handed out may be written over.
func TestAnswersAreNew(t *testing.T) {
	j, m := filled(t)
	n := prepare(11, 1, []int{1, 2}, op(2, 5), op(1))
	p := j.Plan(0, n)
	must(t, "Apply", j.Apply(p.Records[0]), api.OK)
	m.apply(prepared(11, 1, []int{1, 2}, op(2, 5), op(1)))
	overwrite(p)
	mustHold(t, j, m)
	if told(n) != told(prepare(11, 1, []int{1, 2}, op(2, 5), op(1))) {
		t.Fatalf("the note became %v", n)
	}

	for _, n := range []note.Note{prepare(12, 1, []int{3}, op(12, 5)), prepare(7, 1, nil, op(1)), prepare(13, 1, nil, op(80)), decide(7, 30, api.OK), decide(5, 3, api.OK), decide(8, 0, api.ErrFull), probe(5)} {
		overwrite(j.Plan(0, n))
		mustPlan(t, j.Plan(0, n), m.plan(0, n))
	}
	fill(j.Wake(), juror.Mail{To: 99})
	fill(j.Pack(), 0xee)
	for _, i := range j.Intents() {
		fillOps(i.Ops)
	}
	for _, entry := range j.Dump() {
		for i := range entry.Versions {
			fill(entry.Versions[i].Vec, 99)
			entry.Versions[i].Stamp = 99
		}
	}
	hits, _ := j.Scan(0)
	for _, hit := range hits {
		fill(hit.Vec, 99)
	}
	vec, _, _ := j.Get(40, 20)
	fill(vec, 99)
	mustHold(t, j, m)
}

// overwrite writes over all lists of a plan.
func overwrite(p juror.Plan) {
	for _, n := range p.Records {
		scribble(n)
	}
	fill(p.Records, note.Note{Kind: 99})
	fill(p.Mail, juror.Mail{To: 99})
	fill(p.Else, juror.Mail{To: 99})
}

// TestListsOfOneAnswer: what is written over in one list of a plan, or put behind it, is in none of its others.
func TestListsOfOneAnswer(t *testing.T) {
	j, _ := with(t)
	n := prepare(11, 1, []int{1, 2, 3}, many(api.MaxOps, 5)...)
	for i := range n.Ops {
		n.Ops[i].Vec = []int32{int32(i)}
	}
	for i := range n.Ops {
		p := j.Plan(0, n)
		fill(p.Records[0].Ops[i].Vec, 99)
		p.Records[0].Ops[i].Vec[0] = int32(i)
		mustPlan(t, p, toWrite(n))
	}
	p := j.Plan(0, n)
	fill(p.Mail, juror.Mail{To: 99})
	fill(p.Records[0].Parts, 9)
	if want := toWrite(n); told(p.Else, p.Records[0].Ops) != told(want.Else, want.Records[0].Ops) {
		t.Fatalf("the plan became %v", p)
	}
}

// TestJurorsAreApart: one that was made of another's bytes shares nothing with it.
func TestJurorsAreApart(t *testing.T) {
	j, m, p := whole(t)
	k, l := made(t, 2, 1), made(t, 2, 1)
	must(t, "Unpack", k.Unpack(p), api.OK)
	must(t, "Unpack", l.Unpack(p), api.OK)
	for _, n := range []note.Note{committed(7, 201), aborted(8), swept(300)} {
		must(t, told(n), k.Apply(n), api.OK)
	}
	mustHold(t, j, m)
	mustHold(t, l, m)
}
