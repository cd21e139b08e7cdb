package judge

import (
	"maps"
	"math"
	"slices"

	"armillary/api"
	"armillary/scroll"
)

// Pack is what lasts of the judge, as bytes: trials that aren't committed don't.
func (j *Judge) Pack() []byte {
	if j == nil {
		return nil
	}
	w := &scroll.Writer{}
	w.Nums(j.epoch, j.last)
	j.writeBatches(w)
	j.writeTrials(w)
	return w.Bytes()
}

func (j *Judge) writeBatches(w *scroll.Writer) {
	w.Nums(uint64(len(j.committed)))
	for _, batch := range slices.Sorted(maps.Keys(j.committed)) {
		w.Nums(batch, j.committed[batch])
	}
}

func (j *Judge) writeTrials(w *scroll.Writer) {
	var l []*trial
	for _, t := range j.trials {
		if t.committed() {
			l = append(l, t)
		}
	}
	w.Nums(uint64(len(l)))
	for _, t := range l {
		w.Nums(t.Txn, t.Batch, t.Stamp, uint64(len(t.Parts)))
		for _, part := range t.Parts {
			w.Nums(uint64(part))
		}
	}
}

// Unpack gives an empty judge what these bytes say.
func (j *Judge) Unpack(p []byte) api.Errno {
	if j == nil {
		return api.ErrNone
	}
	// Into a judge beside it, so that bytes that are refused leave nothing. New has taken these numbers once.
	read, _ := New(j.shards, j.dim)
	r := scroll.NewReader(p)
	read.epoch = r.Num(api.MaxStamp)
	read.last = r.Num(api.MaxStamp)
	if !read.readBatches(r) || !read.readTrials(r) || r.End() != api.OK {
		return api.ErrForm
	}
	if !j.empty() {
		return api.ErrState
	}
	// If it stays in its epoch, trials that have come and gone there count on, so that no number is given twice.
	if read.epoch == j.epoch {
		read.had = j.had
	}
	*j = *read
	return api.OK
}

func (j *Judge) empty() bool {
	return j.epoch == 0 && j.last == 0 && len(j.trials) == 0 && len(j.committed) == 0
}

// readBatches gives an empty judge the stamps of batches; false: there can't be such ones. (As of readTrials: what isn't there is read as nothing, which may pass here; the Reader's End tells.)
func (j *Judge) readBatches(r *scroll.Reader) bool {
	before := uint64(0)
	// Each has a byte at least, so that a count above what is left is none.
	for i := range r.Num(uint64(r.Left())) {
		batch := r.Num(math.MaxUint64)
		stamp := r.Num(j.last)
		if i > 0 && batch <= before || stamp == 0 {
			return false
		}
		j.committed[batch] = stamp
		before = batch
	}
	return true
}

func (j *Judge) readTrials(r *scroll.Reader) bool {
	before := uint64(0)
	for i := range r.Num(mostTrials) {
		t := j.readTrial(r)
		if i > 0 && t.Txn <= before || t.Stamp == 0 || !rising(t.Parts) {
			return false
		}
		j.trials = append(j.trials, t)
		before = t.Txn
	}
	return true
}

// readTrial is a trial that is committed, at a stamp up to the last one, of parts up to the last shard.
func (j *Judge) readTrial(r *scroll.Reader) *trial {
	t := &trial{}
	t.Txn = r.Num(math.MaxUint64)
	t.Batch = r.Num(math.MaxUint64)
	t.Stamp = r.Num(j.last)
	most := uint64(j.shards)
	for range r.Num(most) {
		t.Parts = append(t.Parts, int(r.Num(most)))
	}
	return t
}

// rising: is there one part at least, and each above the one ahead, from 1 on?
func rising(parts []int) bool {
	before := 0
	for _, part := range parts {
		if part <= before {
			return false
		}
		before = part
	}
	return len(parts) > 0
}
