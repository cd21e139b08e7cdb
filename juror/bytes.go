package juror

import (
	"maps"
	"math"
	"slices"

	"armillary/api"
	"armillary/chain"
	"armillary/note"
	"armillary/scroll"
	"armillary/vault"
)

// Pack is all that the juror has, as bytes.
func (j *Juror) Pack() []byte {
	if j == nil {
		return nil
	}
	w := &scroll.Writer{}
	w.Nums(j.Mark())
	j.writeChains(w)
	j.writeIntents(w)
	j.writeCommitted(w)
	return w.Bytes()
}

func (j *Juror) writeChains(w *scroll.Writer) {
	l := j.Dump()
	w.Nums(uint64(len(l)))
	for _, entry := range l {
		w.Nums(entry.ID, uint64(len(entry.Versions)))
		for _, version := range entry.Versions {
			w.Nums(version.Stamp).Vecs(version.Vec)
		}
	}
}

func (j *Juror) writeIntents(w *scroll.Writer) {
	l := j.Intents()
	w.Nums(uint64(len(l)))
	for _, i := range l {
		parts := j.parts[i.Txn]
		w.Nums(i.Txn, i.After, uint64(len(parts)))
		for _, part := range parts {
			w.Nums(uint64(part))
		}
		w.Nums(uint64(len(i.Ops)))
		for _, op := range i.Ops {
			w.Nums(op.ID).Vecs(op.Vec)
		}
	}
}

func (j *Juror) writeCommitted(w *scroll.Writer) {
	w.Nums(uint64(len(j.committed)))
	for _, txn := range slices.Sorted(maps.Keys(j.committed)) {
		w.Nums(txn, j.committed[txn])
	}
}

// Unpack gives an empty juror what these bytes say.
func (j *Juror) Unpack(p []byte) api.Errno {
	if j == nil {
		return api.ErrNone
	}
	// Into a juror beside it, so that bytes that are refused leave nothing. New has taken these numbers once.
	read, _ := New(j.self, j.dim)
	r := scroll.NewReader(p)
	if !read.readChains(r) || !read.readIntents(r) || !read.readCommitted(r) || r.End() != api.OK {
		return api.ErrForm
	}
	if !j.empty() {
		return api.ErrState
	}
	*j = *read
	return api.OK
}

func (j *Juror) empty() bool {
	return j.Mark() == 0 && j.Last() == 0 && len(j.Intents()) == 0 && len(j.committed) == 0
}

// readChains gives an empty juror the mark and the chains; false: there can't be such ones. (As of the next two: what isn't there is read as nothing, which may pass here; the Reader's End tells.)
func (j *Juror) readChains(r *scroll.Reader) bool {
	mark := r.Num(api.MaxStamp)
	var l []vault.Entry
	for i := range readCount(r) {
		entry := readEntry(r)
		if i > 0 && entry.ID <= l[i-1].ID {
			return false
		}
		l = append(l, entry)
	}
	return j.Load(mark, l...) == api.OK
}

func (j *Juror) readIntents(r *scroll.Reader) bool {
	last := uint64(0)
	for i := range readCount(r) {
		n := readPrepared(r)
		if i > 0 && n.Txn <= last || j.Apply(n) != api.OK {
			return false
		}
		last = n.Txn
	}
	return true
}

func (j *Juror) readCommitted(r *scroll.Reader) bool {
	last := uint64(0)
	for i := range readCount(r) {
		txn := r.Num(math.MaxUint64)
		stamp := r.Num(api.MaxStamp)
		if i > 0 && txn <= last || stamp == 0 {
			return false
		}
		j.committed[txn] = stamp
		last = txn
	}
	return true
}

// readCount is how many things come next. Each of them has a byte at least, so that a count above what is left is none.
func readCount(r *scroll.Reader) uint64 {
	return r.Num(uint64(r.Left()))
}

func readEntry(r *scroll.Reader) vault.Entry {
	entry := vault.Entry{ID: r.Num(api.MaxID)}
	for range readCount(r) {
		stamp := r.Num(api.MaxStamp)
		entry.Versions = append(entry.Versions, chain.Version{Stamp: stamp, Vec: r.Vec(api.MaxDim)})
	}
	return entry
}

// readPrepared is an intent as the record that makes it.
func readPrepared(r *scroll.Reader) note.Note {
	n := note.Note{Kind: note.Prepared, Txn: r.Num(math.MaxUint64)}
	n.After = r.Num(api.MaxStamp)
	for range r.Num(api.MaxShards) {
		n.Parts = append(n.Parts, int(r.Num(mostNode)))
	}
	for range r.Num(api.MaxOps) {
		id := r.Num(api.MaxID)
		n.Ops = append(n.Ops, api.Op{ID: id, Vec: r.Vec(api.MaxDim)})
	}
	return n
}
