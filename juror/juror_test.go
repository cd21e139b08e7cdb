package juror_test

import (
	"fmt"
	"math"
	"testing"

	"armillary/api"
	"armillary/juror"
	"armillary/note"
)

// made is a juror that has nothing.
func made(t *testing.T, self, dim int) *juror.Juror {
	t.Helper()
	j, e := juror.New(self, dim)
	if j == nil || e != api.OK {
		t.Fatalf("New(%d, %d) = %v, %d", self, dim, j, e)
	}
	return j
}

// must stops the test if e isn't want.
func must(t *testing.T, what string, e, want api.Errno) {
	t.Helper()
	if e != want {
		t.Fatalf("%s = %d, want %d", what, e, want)
	}
}

// told is all that an answer says; nil and empty lists are told alike.
func told(answer ...any) string {
	return fmt.Sprintf("%v", answer)
}

// op is what a batch does with an ID: without numbers, it has none any more.
func op(id uint64, vec ...int32) api.Op {
	return api.Op{ID: id, Vec: vec}
}

func prepare(txn, after uint64, parts []int, ops ...api.Op) note.Note {
	return note.Note{Kind: note.Prepare, Txn: txn, After: after, Parts: parts, Ops: ops}
}

func prepared(txn, after uint64, parts []int, ops ...api.Op) note.Note {
	return note.Note{Kind: note.Prepared, Txn: txn, After: after, Parts: parts, Ops: ops}
}

func decide(txn, stamp uint64, code api.Errno) note.Note {
	return note.Note{Kind: note.Decide, Txn: txn, Stamp: stamp, Code: code}
}

func committed(txn, stamp uint64) note.Note {
	return note.Note{Kind: note.Committed, Txn: txn, Stamp: stamp}
}

func aborted(txn uint64) note.Note {
	return note.Note{Kind: note.Aborted, Txn: txn}
}

func swept(mark uint64) note.Note {
	return note.Note{Kind: note.Swept, Mark: mark}
}

func probe(txn uint64) note.Note {
	return note.Note{Kind: note.Probe, Txn: txn}
}

func mail(to int, n note.Note) []juror.Mail {
	return []juror.Mail{{To: to, Note: n}}
}

func vote(txn uint64, code api.Errno) []juror.Mail {
	return mail(0, note.Note{Kind: note.Vote, Txn: txn, Code: code})
}

func ack(txn uint64) []juror.Mail {
	return mail(0, note.Note{Kind: note.Ack, Txn: txn})
}

// with is a juror of self 2 and dim 1 to which these records were applied, beside a model of it.
func with(t *testing.T, records ...note.Note) (*juror.Juror, *model) {
	t.Helper()
	j, m := made(t, 2, 1), newModel(t, 2, 1)
	for _, r := range records {
		must(t, told("Apply of ", r), j.Apply(r), api.OK)
		must(t, told("the model's Apply of ", r), m.apply(r), api.OK)
	}
	return j, m
}

// TestExample: the chapter's.
func TestExample(t *testing.T) {
	j, m := with(t)
	ask := prepare(7, 1, []int{1, 2}, op(3, 9))
	p := j.Plan(0, ask)
	record := prepared(7, 1, []int{1, 2}, op(3, 9))
	mustPlan(t, p, juror.Plan{Records: []note.Note{record}, Mail: vote(7, api.OK), Else: vote(7, api.ErrFull)})
	mustHold(t, j, m)

	must(t, "Apply", j.Apply(p.Records[0]), api.OK)
	m.apply(record)
	mustHold(t, j, m)

	p = j.Plan(0, decide(7, 5, api.OK))
	mustPlan(t, p, juror.Plan{Records: []note.Note{committed(7, 5)}, Mail: ack(7)})
	must(t, "Apply", j.Apply(p.Records[0]), api.OK)
	m.apply(committed(7, 5))
	mustHold(t, j, m)
	mustPlan(t, j.Plan(2, probe(7)), juror.Plan{Mail: mail(2, decide(7, 5, api.OK))})

	if stamp, done := j.Done(7); stamp != 5 || !done {
		t.Fatalf("Done(7) = %d, %t", stamp, done)
	}
	if vec, there, e := j.Get(3, 5); told(vec) != "[[9]]" || !there || e != api.OK {
		t.Fatalf("Get(3, 5) = %v, %t, %d", vec, there, e)
	}
}

func TestNew(t *testing.T) {
	for _, c := range []struct {
		self, dim int
		want      api.Errno
	}{
		{1, 1, api.OK},
		{15, api.MaxDim, api.OK},
		{2, 3, api.OK},
		{0, 1, api.ErrArg},
		{16, 1, api.ErrArg},
		{-1, 1, api.ErrArg},
		{math.MinInt, 1, api.ErrArg},
		{math.MaxInt, 1, api.ErrArg},
		{1, 0, api.ErrArg},
		{1, -1, api.ErrArg},
		{1, api.MaxDim + 1, api.ErrArg},
		{1, math.MaxInt, api.ErrArg},
		{15, math.MinInt, api.ErrArg},
		{0, 0, api.ErrArg},
	} {
		j, e := juror.New(c.self, c.dim)
		if e != c.want || (j == nil) != (e != api.OK) {
			t.Errorf("New(%d, %d) = %v, %d, want %d", c.self, c.dim, j, e, c.want)
		}
		if e == api.OK {
			mustHold(t, j, newModel(t, c.self, c.dim))
		}
	}
}

// TestSelfAndDim: each juror has its own number, and takes vectors of its dim alone.
func TestSelfAndDim(t *testing.T) {
	for self := 1; self <= 15; self++ {
		dim := 1 + self%api.MaxDim
		j, m := made(t, self, dim), newModel(t, self, dim)
		good := prepared(7, 0, []int{0, self}, op(1, make([]int32, dim)...))
		for _, n := range []note.Note{
			prepared(6, 0, nil, op(1, make([]int32, dim-1)...), op(2, make([]int32, 1+dim%api.MaxDim)...)),
			good,
		} {
			must(t, told(n), j.Apply(n), m.apply(n))
			mustHold(t, j, m)
		}
		if l := j.Wake(); told(l) != told(mail(0, probe(7))) {
			t.Fatalf("Wake of %d = %v", self, l)
		}
		other := j.Plan(0, prepare(8, 0, nil, op(9, make([]int32, 1+dim%api.MaxDim)...)))
		mustPlan(t, other, juror.Plan{})
	}
}

func TestNil(t *testing.T) {
	var j *juror.Juror
	for _, n := range []note.Note{{}, prepare(7, 1, nil, op(3, 9)), decide(7, 5, api.OK), decide(7, 0, api.ErrNone), probe(7), {Kind: 99}} {
		mustPlan(t, j.Plan(0, n), juror.Plan{})
		mustPlan(t, j.Plan(-1, n), juror.Plan{})
	}
	for _, n := range []note.Note{{}, prepared(7, 1, nil, op(3, 9)), prepared(7, 1, nil), committed(7, 5), aborted(7), swept(3), {Kind: 99}} {
		must(t, "Apply", j.Apply(n), api.ErrNone)
	}
	for _, p := range [][]byte{nil, {}, {1}, {0, 0, 0, 0}, made(t, 1, 1).Pack()} {
		must(t, "Unpack", j.Unpack(p), api.ErrNone)
	}
	if got := told(j.Wake(), j.Pack(), j.Intents(), j.Dump(), j.Mark(), j.Last()); got != told(nil0, nil0, nil0, nil0, 0, 0) {
		t.Errorf("Wake, Pack, Intents, Dump, Mark, Last = %s", got)
	}
	if stamp, done := j.Done(7); stamp != 0 || done {
		t.Errorf("Done = %d, %t", stamp, done)
	}
	if vec, there, e := j.Get(3, 5); vec != nil || there || e != api.ErrNone {
		t.Errorf("Get = %v, %t, %d", vec, there, e)
	}
	if hits, e := j.Scan(5); hits != nil || e != api.ErrNone {
		t.Errorf("Scan = %v, %d", hits, e)
	}
	if j.Blocked(5) || j.Blocked(math.MaxUint64, 3, 4) {
		t.Errorf("Blocked")
	}
}

// nil0 is no list.
var nil0 []byte
