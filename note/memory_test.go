package note_test

import (
	"bytes"
	"slices"
	"testing"

	"armillary/api"
	"armillary/note"
)

// roomy is a list with spare room in which something stands.
func roomy[E any](l []E, spare E) []E {
	wide := append(slices.Clone(l), spare, spare)
	return wide[:len(l)]
}

// spacious is a note like every, whose lists all have spare room.
func spacious() note.Note {
	n := every()
	for i := range n.Ops {
		n.Ops[i].Vec = roomy(n.Ops[i].Vec, 77)
	}
	for i := range n.Hits {
		n.Hits[i].Vec = roomy(n.Hits[i].Vec, 77)
	}
	n.Parts = roomy(n.Parts, 7)
	n.Ops = roomy(n.Ops, api.Op{ID: 77})
	n.Vec = roomy(n.Vec, 77)
	n.Hits = roomy(n.Hits, api.Hit{ID: 77})
	return n
}

// whole is a list with its spare room.
func whole[E any](l []E) []E {
	return l[:cap(l)]
}

// unroll is all that a note has, its lists with their spare room.
func unroll(n note.Note) note.Note {
	n.Ops = slices.Clone(whole(n.Ops))
	for i := range n.Ops {
		n.Ops[i].Vec = whole(n.Ops[i].Vec)
	}
	n.Hits = slices.Clone(whole(n.Hits))
	for i := range n.Hits {
		n.Hits[i].Vec = whole(n.Hits[i].Vec)
	}
	n.Parts, n.Vec = whole(n.Parts), whole(n.Vec)
	return n
}

func fill[E any](l []E, with E) {
	for i := range whole(l) {
		whole(l)[i] = with
	}
}

// scribble writes over all lists of a note, their spare room too.
func scribble(n note.Note) {
	for _, op := range n.Ops {
		fill(op.Vec, 99)
	}
	for _, hit := range n.Hits {
		fill(hit.Vec, 99)
	}
	fill(n.Parts, 9)
	fill(n.Ops, api.Op{ID: 99})
	fill(n.Vec, 99)
	fill(n.Hits, api.Hit{ID: 99})
}

func TestArgumentsStay(t *testing.T) {
	for _, r := range rows() {
		n := only(r.kind, r.fields, spacious())
		before := told(unroll(n))
		p, e := note.Pack(n)
		if e != api.OK || !note.Right(n) || !note.Same(n, full(r)) {
			t.Fatalf("Pack(%v) = %d", n, e)
		}
		if told(unroll(n)) != before {
			t.Fatalf("a %s was changed: %s, %s", r.name, before, told(unroll(n)))
		}
		p = roomy(p, 55)
		bytesBefore := slices.Clone(whole(p))
		if _, e := note.Unpack(p); e != api.OK || !bytes.Equal(whole(p), bytesBefore) {
			t.Fatalf("Unpack of a %s: %d, %x, %x", r.name, e, bytesBefore, whole(p))
		}
	}
}

func TestArgumentsArentKept(t *testing.T) {
	for _, r := range rows() {
		n := only(r.kind, r.fields, spacious())
		p, _ := note.Pack(n)
		want := slices.Clone(p)
		scribble(n)
		if !bytes.Equal(p, want) {
			t.Fatalf("the bytes of a %s are changed with it", r.name)
		}
		m, _ := note.Unpack(p)
		fill(p, 0xee)
		if told(m) != told(full(r)) {
			t.Fatalf("a %s is changed with its bytes: %v", r.name, m)
		}
	}
}

func TestAnswersAreNew(t *testing.T) {
	for _, r := range rows() {
		n := full(r)
		p, _ := note.Pack(n)
		fill(p, 0xee)
		q, _ := note.Pack(n)
		if want := frame(carried(n, r.fields)); !bytes.Equal(q, want) {
			t.Fatalf("Pack of a %s once more: %x, want %x", r.name, q, want)
		}
		a, _ := note.Unpack(q)
		b, _ := note.Unpack(q)
		scribble(a)
		if c, e := note.Unpack(q); e != api.OK || told(b) != told(n) || told(c) != told(n) {
			t.Fatalf("a %s is changed with another one: %v, %v", r.name, b, c)
		}
	}
}

// TestListsOfOneAnswer: what is written over in one list of a note, or put behind it, is in none of its others.
func TestListsOfOneAnswer(t *testing.T) {
	var ops []api.Op
	var hits []api.Hit
	for i := range 16 {
		ops = append(ops, api.Op{ID: uint64(i), Vec: []int32{1, 2, 3}})
		hits = append(hits, api.Hit{ID: uint64(i), Vec: []int32{1, 2, 3}})
	}
	for _, n := range []note.Note{{Kind: note.Begin, Parts: []int{1, 2}, Ops: ops}, {Kind: note.Seen, Hits: hits}} {
		p, _ := note.Pack(n)
		for i := range 16 {
			m, _ := note.Unpack(p)
			if len(m.Ops) > 0 {
				fill(m.Ops[i].Vec, 99)
				copy(m.Ops[i].Vec, []int32{1, 2, 3})
			} else {
				fill(m.Hits[i].Vec, 99)
				copy(m.Hits[i].Vec, []int32{1, 2, 3})
			}
			if told(m) != told(n) {
				t.Fatalf("list %d of %v shares its memory with another one", i, m)
			}
		}
	}
}
