package juror

import (
	"cmp"
	"math"
	"slices"

	"armillary/api"
	"armillary/note"
	"armillary/vault"
	"armillary/vec"
)

// Plan is what is to be done for a note that came.
func (j *Juror) Plan(from int, n note.Note) Plan {
	if j == nil || !note.Right(n) {
		return Plan{}
	}
	switch {
	case n.Kind == note.Prepare && from == court:
		return j.onPrepare(n)
	case n.Kind == note.Decide && n.Code == api.OK:
		return j.onCommit(n.Txn, n.Stamp)
	case n.Kind == note.Decide && from == court:
		return j.onAbort(n.Txn)
	case n.Kind == note.Probe:
		return j.onProbe(from, n.Txn)
	}
	return Plan{}
}

// onPrepare: the court asks whether these ops may be.
func (j *Juror) onPrepare(n note.Note) Plan {
	if _, done := j.Done(n.Txn); done || vec.Check(j.dim, n.Ops...) != api.OK {
		return Plan{}
	}
	if _, there := j.intent(n.Txn); there {
		return Plan{Mail: vote(n.Txn, api.OK)}
	}
	if j.locked(n.Ops) {
		return Plan{Mail: vote(n.Txn, api.ErrLocked)}
	}
	return Plan{
		Records: []note.Note{prepared(n)},
		Mail:    vote(n.Txn, api.OK),
		Else:    vote(n.Txn, api.ErrFull),
	}
}

// onCommit: it was decided that a transaction is, from that stamp on.
func (j *Juror) onCommit(txn, stamp uint64) Plan {
	ack := []Mail{{To: court, Note: note.Note{Kind: note.Ack, Txn: txn}}}
	if at, done := j.Done(txn); done {
		if at != stamp {
			return Plan{}
		}
		return Plan{Mail: ack}
	}
	if !j.ready(txn, stamp) {
		return Plan{}
	}
	return Plan{
		Records: []note.Note{{Kind: note.Committed, Txn: txn, Stamp: stamp}},
		Mail:    ack,
	}
}

// onAbort: the court has decided that a transaction is not to be.
func (j *Juror) onAbort(txn uint64) Plan {
	if _, there := j.intent(txn); !there {
		return Plan{}
	}
	return Plan{Records: []note.Note{{Kind: note.Aborted, Txn: txn}}}
}

// onProbe: a node asks how a transaction has ended.
func (j *Juror) onProbe(from int, txn uint64) Plan {
	stamp, done := j.Done(txn)
	if !done {
		return Plan{}
	}
	return Plan{Mail: []Mail{{To: from, Note: note.Note{Kind: note.Decide, Txn: txn, Stamp: stamp}}}}
}

// intent is a transaction's intent, if there is one.
func (j *Juror) intent(txn uint64) (vault.Intent, bool) {
	l := j.Intents()
	at, there := slices.BinarySearchFunc(l, txn, func(i vault.Intent, txn uint64) int {
		return cmp.Compare(i.Txn, txn)
	})
	if !there {
		return vault.Intent{}, false
	}
	return l[at], true
}

// locked: does an intent hold one of the ops' IDs? It may be applied at some stamp, whatever its After.
func (j *Juror) locked(ops []api.Op) bool {
	ids := make([]uint64, 0, len(ops))
	for _, op := range ops {
		ids = append(ids, op.ID)
	}
	return j.Blocked(math.MaxUint64, ids...)
}

// ready: is there an intent of the transaction that may be applied at that stamp?
func (j *Juror) ready(txn, stamp uint64) bool {
	i, there := j.intent(txn)
	return there && stamp > i.After && stamp > j.Mark() && !j.reached(stamp, i.Ops)
}

// reached: has one of the ops' IDs a version at that stamp, or above?
func (j *Juror) reached(stamp uint64, ops []api.Op) bool {
	// Mostly the stamp is above all that there are, so that the versions needn't be gone through.
	return stamp <= j.Last() && slices.ContainsFunc(j.Dump(), func(entry vault.Entry) bool {
		return among(entry.ID, ops) && entry.Versions[len(entry.Versions)-1].Stamp >= stamp
	})
}

// among: is one of the ops of that ID?
func among(id uint64, ops []api.Op) bool {
	return slices.ContainsFunc(ops, func(op api.Op) bool { return op.ID == id })
}

func vote(txn uint64, code api.Errno) []Mail {
	return []Mail{{To: court, Note: note.Note{Kind: note.Vote, Txn: txn, Code: code}}}
}

// prepared is the record of a Prepare, with lists of its own.
func prepared(n note.Note) note.Note {
	n.Kind = note.Prepared
	n.Parts = slices.Clone(n.Parts)
	n.Ops = slices.Clone(n.Ops)
	for i, op := range n.Ops {
		n.Ops[i].Vec = slices.Clone(op.Vec)
	}
	return n
}
