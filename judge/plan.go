package judge

import (
	"slices"

	"armillary/api"
	"armillary/juror"
	"armillary/note"
	"armillary/vec"
)

// Plan is what is to be done for a note that came.
func (j *Judge) Plan(from int, n note.Note) Plan {
	if j == nil || from < 0 || from > mostNode || !note.Right(n) {
		return Plan{}
	}
	switch n.Kind {
	case note.Ask:
		return j.onAsk(from, n)
	case note.Vote:
		return j.onVote(from, n.Txn, n.Code)
	case note.Ack:
		return j.onAck(from, n.Txn)
	case note.Probe:
		return j.onProbe(from, n.Txn)
	}
	return Plan{}
}

// onAsk: a node wants a batch to be.
func (j *Judge) onAsk(from int, n note.Note) Plan {
	if stamp, done := j.Done(n.Batch); done {
		return Plan{Mail: []juror.Mail{reply(from, n.Batch, stamp, api.OK)}}
	}
	if j.tries(n.Batch) {
		return Plan{}
	}
	if e := j.refusal(n.Ops); e != api.OK {
		return Plan{Mail: []juror.Mail{reply(from, n.Batch, 0, e)}}
	}
	begin := note.Note{
		Kind:  note.Begin,
		Txn:   j.epoch*perEpoch + j.had + 1,
		Batch: n.Batch,
		After: j.last,
		Who:   from,
		Parts: partsOf(n.Ops, j.shards),
		Ops:   cloneOps(n.Ops),
	}
	return Plan{Notes: []note.Note{begin}, Mail: begun(begin).remind(j.shards)}
}

// tries: is there a trial of that batch?
func (j *Judge) tries(batch uint64) bool {
	return slices.ContainsFunc(j.trials, func(t *trial) bool { return t.Batch == batch })
}

// refusal is why these ops can't be tried, or OK.
func (j *Judge) refusal(ops []api.Op) api.Errno {
	if e := vec.Check(j.dim, ops...); e != api.OK {
		return e
	}
	if len(j.trials) >= mostTrials || j.had >= perEpoch-1 || j.last >= api.MaxStamp {
		return api.ErrFull
	}
	return api.OK
}

// onVote: a part says whether its ops may be.
func (j *Judge) onVote(from int, txn uint64, code api.Errno) Plan {
	t := j.trial(txn)
	switch {
	case t == nil || t.committed() || !slices.Contains(t.Parts, from):
		return Plan{}
	case code != api.OK:
		return Plan{Notes: []note.Note{t.gone()}, Mail: t.ending(0, code)}
	case !t.waitsFor(from):
		return Plan{}
	case t.waitsForNoOther():
		return j.decision(t)
	}
	return Plan{Notes: []note.Note{{Kind: note.Yes, Txn: txn, Who: from}}}
}

// decision: all parts have said yes, so that it is to be.
func (j *Judge) decision(t *trial) Plan {
	stamp := j.last + 1
	commit := note.Note{
		Kind:  note.Commit,
		Txn:   t.Txn,
		Batch: t.Batch,
		Stamp: stamp,
		Parts: slices.Clone(t.Parts),
	}
	return Plan{
		Records: []note.Note{commit},
		Mail:    t.ending(stamp, api.OK),
		Instead: []note.Note{t.gone()},
		Else:    t.ending(0, api.ErrFull),
	}
}

// onAck: a part knows that a transaction is.
func (j *Judge) onAck(from int, txn uint64) Plan {
	t := j.trial(txn)
	switch {
	case t == nil || !t.committed() || !t.waitsFor(from):
		return Plan{}
	case t.waitsForNoOther():
		return Plan{Records: []note.Note{{Kind: note.End, Txn: txn}}}
	}
	return Plan{Notes: []note.Note{{Kind: note.Acked, Txn: txn, Who: from}}}
}

// onProbe: a node asks how a transaction has ended.
func (j *Judge) onProbe(from int, txn uint64) Plan {
	answer := decide(txn, 0, api.ErrNone)
	if t := j.trial(txn); t != nil {
		if !t.committed() {
			return Plan{}
		}
		answer = decide(txn, t.Stamp, api.OK)
	}
	return Plan{Mail: []juror.Mail{{To: from, Note: answer}}}
}

// Wake is what is to be sent once more, for letters may be lost.
func (j *Judge) Wake() []juror.Mail {
	if j == nil {
		return nil
	}
	var l []juror.Mail
	for _, t := range j.trials {
		l = append(l, t.remind(j.shards)...)
	}
	return l
}

// Quit is what ends all trials that aren't committed.
func (j *Judge) Quit() Plan {
	var p Plan
	if j == nil {
		return p
	}
	for _, t := range j.trials {
		if !t.committed() {
			p.Notes = append(p.Notes, t.gone())
			p.Mail = append(p.Mail, t.ending(0, api.ErrLate)...)
		}
	}
	return p
}
