package note_test

import (
	"bytes"
	"math/rand"
	"slices"
	"testing"

	"armillary/api"
	"armillary/note"
	"armillary/seal"
)

// TestUnpackOfNoFrame: seal's errors, by hand.
func TestUnpackOfNoFrame(t *testing.T) {
	good := frame([]byte{6, 5})
	for _, c := range []struct {
		p    []byte
		want api.Errno
	}{
		{nil, api.ErrShort},
		{[]byte{}, api.ErrShort},
		{good[:5], api.ErrShort},
		{good[:6], api.ErrShort},
		{good[:7], api.ErrShort},
		{make([]byte, 6), api.ErrSum},
		{slices.Concat(good[:4], []byte{1, 16}, good[6:]), api.ErrLong},
		{slices.Concat(good[:4], []byte{3, 0}, good[6:]), api.ErrShort},
		{slices.Concat(good[:4], []byte{1, 0}, good[6:]), api.ErrSum},
		{slices.Concat(good[:7], []byte{4}), api.ErrSum},
		{slices.Concat([]byte{^good[0]}, good[1:]), api.ErrSum},
		{slices.Concat(good[:7], []byte{4, 0}), api.ErrSum},
		{slices.Concat(good, []byte{0}), api.ErrForm},
		{slices.Concat(good, good), api.ErrForm},
	} {
		mustRefuse(t, c.p, c.want)
	}
}

// TestUnpackOfHarmedBytes: cut off at each place, longer, and with each bit turned.
func TestUnpackOfHarmedBytes(t *testing.T) {
	for _, r := range rows() {
		p := frame(carried(full(r), r.fields))
		for cut := range p {
			mustRefuse(t, p[:cut], api.ErrShort)
		}
		mustRefuse(t, slices.Concat(p, []byte{0}), api.ErrForm)
		for i := range p {
			for bit := range 8 {
				turned := slices.Clone(p)
				turned[i] ^= 1 << bit
				_, want := seal.Open(turned)
				if want == api.OK {
					t.Fatalf("the sum of %x is right", turned)
				}
				mustRefuse(t, turned, want)
			}
		}
	}
}

// TestUnpackOfWrongBytes: frames with right sums that carry no note.
func TestUnpackOfWrongBytes(t *testing.T) {
	for _, s := range []string{
		// Nothing, no kind, kinds that there aren't, kinds in a longer form, or past a byte.
		"", "00", "00 05", "17", "17 05", "7f 05", "80 05", "86 00 05", "86 01 05", "80 02 05", "86 02 05", "ff ff ff ff ff ff ff ff ff 02 05",
		// Fields less and more.
		"06", "06 05 00", "06 05 06 05", "0d 05", "0d 05 06 00", "02 05 06", "02 05 06 07 00", "0f", "10", "0f 01 01",
		// Numbers that are cut off, in a longer form, or past 2^64 - 1.
		"06 80", "06 ff ff ff ff ff ff ff ff ff", "06 85 00", "06 80 00", "06 85 80 00",
		"06 80 80 80 80 80 80 80 80 80 00", "06 ff ff ff ff ff ff ff ff ff 02", "06 ff ff ff ff ff ff ff ff ff 81 00", "06 80 80 80 80 80 80 80 80 80 80 01",
		"0d 05 86 00", "0d 86 00 05", "04 05 88 00",
		// Above what they may be.
		"04 05 0e", "14 05 10", "0f 81 80 80 80 80 20", "0f ff ff ff ff ff ff ff ff ff 01",
		"08 07 09 11 00 00", "08 07 09 00 81 02 00", "08 07 81 80 80 80 80 20 00 00 00",
		// Of counts greater than what is there: parts, ops, numbers, hits.
		"11 05 06 07 02 01", "11 05 06 07 04 01 02 03", "11 05 06 07 01",
		"01 05 01", "01 05 02 01 00", "01 05 10 01 00", "01 05 01 01 01", "01 05 01 01 02 02", "01 05 01 01",
		"08 07 09 00 00 01", "08 07 09 00 00 08 00 00 00 00 00 00 00",
		"0a 07 00 01", "0a 07 00 01 03", "0a 07 00 01 03 05", "0a 07 00 01 03 05 01", "0a 07 00 02 03 05 01 08",
		// Of counts less than what is there.
		"11 05 06 07 01 01 02", "11 05 06 07 00 01", "01 05 00 01 00", "01 05 01 01 01 02 02", "08 07 09 00 00 01 02 02", "0a 07 00 01 03 05 01 08 00",
		// Of counts that are in a longer form.
		"11 05 06 07 81 00 01", "01 05 81 00 01 00", "08 07 09 00 00 81 00 02", "0a 07 00 80 00", "01 05 01 01 81 00 02",
		// Of counts beyond all.
		"11 05 06 07 ff ff ff ff ff ff ff ff ff 01", "11 05 06 07 ff ff ff ff 0f 01", "01 05 ff ff ff ff ff ff ff ff ff 01", "01 05 ff ff ff ff ff ff ff ff 7f",
		"08 07 09 00 00 ff ff ff ff ff ff ff ff ff 01", "08 07 09 00 00 ff ff ff ff ff ff ff ff 7f", "0a 07 00 ff ff ff ff ff ff ff ff ff 01", "0a 07 00 80 80 80 80 80 80 80 80 80 01",
		// Too many, all there.
		"11 05 06 07 05 01 02 03 04 05", "08 07 09 00 00 09 00 00 00 00 00 00 00 00 00",
		// Parts that fall, come twice, or are none.
		"11 05 06 07 02 02 01", "11 05 06 07 02 01 01", "11 05 06 07 01 10", "11 05 06 07 01 81 00",
		// Numbers of vectors that are too great, or that no int32 is.
		"08 07 09 00 00 01 82 80 80 80 02", "08 07 09 00 00 01 81 80 80 80 02", "08 07 09 00 00 01 80 80 80 80 10", "08 07 09 00 00 01 82 80 80 80 10",
		// A hit whose vector has no numbers.
		"0a 07 00 01 03 05 00",
	} {
		mustRefuse(t, frame(fromHex(t, s)), api.ErrForm)
	}
}

// TestUnpackOfRightBytes: what stands beside the wrong bytes above, and is right.
func TestUnpackOfRightBytes(t *testing.T) {
	for s, want := range map[string]note.Note{
		"06 ff ff ff ff ff ff ff ff ff 01":          {Kind: note.Ack, Txn: 1<<64 - 1},
		"04 05 0d":                                  {Kind: note.Vote, Txn: 5, Code: api.ErrText},
		"14 05 0f":                                  {Kind: note.Yes, Txn: 5, Who: 15},
		"0f 80 80 80 80 80 20":                      {Kind: note.Swept, Mark: api.MaxStamp},
		"08 07 80 80 80 80 80 20 10 80 02 00":       {Kind: note.Query, Query: 7, ID: api.MaxID, K: 16, Ef: 256},
		"08 07 09 00 00 01 80 80 80 80 02":          {Kind: note.Query, Query: 7, ID: 9, Vec: []int32{api.MaxCoord}},
		"08 07 09 00 00 01 ff ff ff ff 01":          {Kind: note.Query, Query: 7, ID: 9, Vec: []int32{-api.MaxCoord}},
		"08 07 09 00 00 08 01 00 00 00 00 00 00 02": {Kind: note.Query, Query: 7, ID: 9, Vec: []int32{-1, 0, 0, 0, 0, 0, 0, 1}},
		"11 05 06 07 04 00 01 0e 0f":                {Kind: note.Commit, Txn: 5, Batch: 6, Stamp: 7, Parts: []int{0, 1, 14, 15}},
		"01 05 02 01 00 01 01 03":                   {Kind: note.Ask, Batch: 5, Ops: []api.Op{{ID: 1}, {ID: 1, Vec: []int32{-2}}}},
		"0a 07 00 01 03 05 01 00":                   {Kind: note.Seen, Query: 7, Hits: []api.Hit{{ID: 3, Dist: 5, Vec: []int32{0}}}},
	} {
		mustBe(t, want, frame(fromHex(t, s)))
	}
}

// TestUnpackAnythingTwice: whatever is carried, it is refused, or it is the bytes of a right note.
func TestUnpackAnythingTwice(t *testing.T) {
	r := rand.New(rand.NewSource(12))
	table := rows()
	taken := 0
	for range 200000 {
		p := someBytes(r, table)
		n, e := note.Unpack(frame(p))
		if e == api.ErrForm {
			if told(n) != told(note.Note{}) {
				t.Fatalf("Unpack of %x: %v beside ErrForm", p, n)
			}
			continue
		}
		taken++
		q, e2 := note.Pack(n)
		if e != api.OK || e2 != api.OK || !note.Right(n) || !bytes.Equal(q, frame(p)) {
			t.Fatalf("Unpack of %x = %v, %d, whose bytes are %x, %d", p, n, e, q, e2)
		}
		if fields := table[n.Kind-1].fields; !bytes.Equal(carried(n, fields), p) || told(only(n.Kind, fields, n)) != told(n) {
			t.Fatalf("Unpack of %x = %v", p, n)
		}
	}
	if taken < 1000 {
		t.Fatalf("of the bytes only %d were a note's", taken)
	}
}

// someBytes is a note's bytes, harmed, or any: mostly small ones, of which many are right.
func someBytes(r *rand.Rand, table []row) []byte {
	var p []byte
	if r.Intn(2) == 0 {
		p = append(p, byte(r.Intn(24)))
		for range r.Intn(12) {
			p = append(p, byte(r.Intn(4)))
		}
		return p
	}
	which := table[r.Intn(len(table))]
	p = carried(full(which), which.fields)
	for range r.Intn(3) {
		switch at := r.Intn(len(p)); r.Intn(3) {
		case 0:
			p[at] = byte(r.Intn(256))
		case 1:
			p = slices.Insert(p, at, byte(r.Intn(256)))
		default:
			p = slices.Delete(p, at, at+1)
		}
		if len(p) == 0 {
			break
		}
	}
	return p
}
