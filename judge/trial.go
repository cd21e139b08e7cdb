package judge

import (
	"slices"

	"armillary/api"
	"armillary/juror"
	"armillary/note"
	"armillary/vec"
)

// trial is what is told of it, and its ops (of one that is known by its Commit alone, none).
type trial struct {
	Trial
	ops []api.Op
}

// begun is the trial that a Begin tells.
func begun(n note.Note) *trial {
	return &trial{
		Trial: Trial{Txn: n.Txn, Batch: n.Batch, After: n.After, Who: n.Who, Parts: slices.Clone(n.Parts)},
		ops:   cloneOps(n.Ops),
	}
}

func (t *trial) committed() bool {
	return t.Stamp != 0
}

// told is what is told of it, with lists of its own.
func (t *trial) told() Trial {
	told := t.Trial
	told.Parts = slices.Clone(t.Parts)
	told.Yes = slices.Clone(t.Yes)
	told.Acked = slices.Clone(t.Acked)
	return told
}

// heard is the parts that have said what is waited for: yes, and, once it is committed, that they know.
func (t *trial) heard() []int {
	if t.committed() {
		return t.Acked
	}
	return t.Yes
}

// waitsFor: is it a part from which what is waited for hasn't come?
func (t *trial) waitsFor(part int) bool {
	return slices.Contains(t.Parts, part) && !slices.Contains(t.heard(), part)
}

// waitsForNoOther: is that part, for which it waits, the only one?
func (t *trial) waitsForNoOther() bool {
	return len(t.heard())+1 == len(t.Parts)
}

func (t *trial) hear(part int) {
	l := t.heard()
	at, _ := slices.BinarySearch(l, part)
	l = slices.Insert(l, at, part)
	if t.committed() {
		t.Acked = l
	} else {
		t.Yes = l
	}
}

// remind is what tells each part for which it waits what that part is to answer.
func (t *trial) remind(shards int) []juror.Mail {
	var l []juror.Mail
	for _, part := range t.Parts {
		if t.waitsFor(part) {
			l = append(l, juror.Mail{To: part, Note: t.question(part, shards)})
		}
	}
	return l
}

// question is what a part is to answer.
func (t *trial) question(part, shards int) note.Note {
	if t.committed() {
		return decide(t.Txn, t.Stamp, api.OK)
	}
	return t.prepare(part, shards)
}

// prepare asks a part whether its ops may be.
func (t *trial) prepare(part, shards int) note.Note {
	var own []api.Op
	for _, op := range t.ops {
		if partOf(op, shards) == part {
			own = append(own, op)
		}
	}
	return note.Note{
		Kind:  note.Prepare,
		Txn:   t.Txn,
		After: t.After,
		Parts: slices.Clone(t.Parts),
		Ops:   cloneOps(own),
	}
}

// ending tells all parts, and who asked, how it ends.
func (t *trial) ending(stamp uint64, code api.Errno) []juror.Mail {
	var l []juror.Mail
	for _, part := range t.Parts {
		l = append(l, juror.Mail{To: part, Note: decide(t.Txn, stamp, code)})
	}
	return append(l, reply(t.Who, t.Batch, stamp, code))
}

// gone is that it isn't to be.
func (t *trial) gone() note.Note {
	return note.Note{Kind: note.Gone, Txn: t.Txn}
}

func decide(txn, stamp uint64, code api.Errno) note.Note {
	return note.Note{Kind: note.Decide, Txn: txn, Stamp: stamp, Code: code}
}

func reply(to int, batch, stamp uint64, code api.Errno) juror.Mail {
	return juror.Mail{To: to, Note: note.Note{Kind: note.Reply, Batch: batch, Stamp: stamp, Code: code}}
}

// partOf is the shard to which an op belongs, as a node.
func partOf(op api.Op, shards int) int {
	return vec.Home(op.ID, shards) + 1
}

// partsOf is the shards to which these ops belong, as nodes, rising.
func partsOf(ops []api.Op, shards int) []int {
	var parts []int
	for _, op := range ops {
		parts = append(parts, partOf(op, shards))
	}
	slices.Sort(parts)
	return slices.Compact(parts)
}

func cloneOps(ops []api.Op) []api.Op {
	l := slices.Clone(ops)
	for i, op := range l {
		l[i].Vec = slices.Clone(op.Vec)
	}
	return l
}
