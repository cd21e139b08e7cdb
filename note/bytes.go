package note

import (
	"math"

	"armillary/api"
	"armillary/scroll"
)

// write puts a right note's kind and fields behind what there is.
func write(w *scroll.Writer, n Note) {
	has := kinds[n.Kind].has
	w.Nums(uint64(n.Kind))
	for i, number := range numbersOf(n) {
		if has&(1<<i) != 0 {
			w.Nums(number)
		}
	}
	if has&hasParts != 0 {
		writeParts(w, n.Parts)
	}
	if has&hasOps != 0 {
		writeOps(w, n.Ops)
	}
	if has&hasVec != 0 {
		w.Vecs(n.Vec)
	}
	if has&hasHits != 0 {
		writeHits(w, n.Hits)
	}
}

func writeParts(w *scroll.Writer, parts []int) {
	w.Nums(uint64(len(parts)))
	for _, part := range parts {
		w.Nums(uint64(part))
	}
}

func writeOps(w *scroll.Writer, ops []api.Op) {
	w.Nums(uint64(len(ops)))
	for _, op := range ops {
		w.Nums(op.ID).Vecs(op.Vec)
	}
}

func writeHits(w *scroll.Writer, hits []api.Hit) {
	w.Nums(uint64(len(hits)))
	for _, hit := range hits {
		w.Nums(hit.ID, hit.Dist).Vecs(hit.Vec)
	}
}

// read is the next note. Whether all of it was there the Reader tells; where its kind wasn't it is of kind 0, which has no fields.
func read(r *scroll.Reader) Note {
	kind := byte(r.Num(Gone))
	has := kinds[kind].has
	var l [numbers]uint64
	for i := range l {
		if has&(1<<i) != 0 {
			l[i] = r.Num(most[i])
		}
	}
	n := ofNumbers(l)
	n.Kind = kind
	if has&hasParts != 0 {
		n.Parts = readParts(r)
	}
	if has&hasOps != 0 {
		n.Ops = readOps(r)
	}
	if has&hasVec != 0 {
		n.Vec = r.Vec(api.MaxDim)
	}
	if has&hasHits != 0 {
		n.Hits = readHits(r)
	}
	return n
}

func readParts(r *scroll.Reader) []int {
	var parts []int
	for range r.Num(api.MaxShards) {
		parts = append(parts, int(r.Num(mostNode)))
	}
	return parts
}

func readOps(r *scroll.Reader) []api.Op {
	var ops []api.Op
	for range r.Num(api.MaxOps) {
		id := r.Num(api.MaxID)
		ops = append(ops, api.Op{ID: id, Vec: r.Vec(api.MaxDim)})
	}
	return ops
}

func readHits(r *scroll.Reader) []api.Hit {
	var hits []api.Hit
	for range r.Num(api.MaxK) {
		id, dist := r.Num(api.MaxID), r.Num(math.MaxUint64)
		hits = append(hits, api.Hit{ID: id, Dist: dist, Vec: r.Vec(api.MaxDim)})
	}
	return hits
}
