package note_test

import (
	"bytes"
	"encoding/hex"
	"math"
	"slices"
	"strings"
	"testing"

	"armillary/api"
	"armillary/note"
)

// mustBe stops the test unless n is right, has these bytes, and is what they are the bytes of.
func mustBe(t *testing.T, n note.Note, want []byte) {
	t.Helper()
	if !note.Right(n) {
		t.Fatalf("Right(%v) = false", n)
	}
	p, e := note.Pack(n)
	if e != api.OK || !bytes.Equal(p, want) {
		t.Fatalf("Pack(%v) = %x, %d, want %x", n, p, e, want)
	}
	m, e := note.Unpack(want)
	if e != api.OK || told(m) != told(n) {
		t.Fatalf("Unpack(%x) = %v, %d, want %v", want, m, e, n)
	}
	if !note.Same(m, n) || !note.Same(n, m) {
		t.Fatalf("Same(%v, %v) = false", m, n)
	}
}

// mustBeWrong stops the test unless there may be no note like n.
func mustBeWrong(t *testing.T, n note.Note) {
	t.Helper()
	if note.Right(n) {
		t.Fatalf("Right(%v) = true", n)
	}
	if p, e := note.Pack(n); e != api.ErrForm || len(p) > 0 {
		t.Fatalf("Pack(%v) = %x, %d, want ErrForm", n, p, e)
	}
}

// mustRefuse stops the test unless Unpack of p answers that error, and no note beside it.
func mustRefuse(t *testing.T, p []byte, want api.Errno) {
	t.Helper()
	n, e := note.Unpack(p)
	if e != want || told(n) != told(note.Note{}) {
		t.Fatalf("Unpack(%x) = %v, %d, want %d", p, n, e, want)
	}
}

func fromHex(t *testing.T, s string) []byte {
	t.Helper()
	p, err := hex.DecodeString(strings.ReplaceAll(s, " ", ""))
	if err != nil {
		t.Fatal(err)
	}
	return p
}

func TestExample(t *testing.T) {
	n := note.Note{Kind: note.Ack, Txn: 5}
	p, e := note.Pack(n)
	if e != api.OK || len(p) != 8 || !bytes.Equal(p[4:], []byte{2, 0, 6, 5}) {
		t.Fatalf("Ack of 5: %x, %d", p, e)
	}
	mustBe(t, n, frame([]byte{6, 5}))
}

func TestConstants(t *testing.T) {
	kinds := []int{
		note.Ask, note.Reply, note.Prepare, note.Vote, note.Decide, note.Ack, note.Probe, note.Query, note.Look, note.Seen, note.Result,
		note.Prepared, note.Committed, note.Aborted, note.Swept, note.Epoch, note.Commit, note.End, note.Begin, note.Yes, note.Acked, note.Gone,
	}
	for i, kind := range kinds {
		if kind != i+1 {
			t.Errorf("the kind %s is %d", rows()[i].name, kind)
		}
	}
}

func TestName(t *testing.T) {
	for _, r := range rows() {
		if got := note.Name(r.kind); got != r.name {
			t.Errorf("Name(%d) = %q, want %q", r.kind, got, r.name)
		}
	}
	for kind := range 256 {
		if kind >= 1 && kind <= 22 {
			continue
		}
		if got := note.Name(byte(kind)); got != "" {
			t.Errorf("Name(%d) = %q", kind, got)
		}
	}
}

// TestKindsWhole: worked out by hand, each with all its fields.
func TestKindsWhole(t *testing.T) {
	const ops = " 02 01 02 02 01 02 00"
	const hits = " 02 03 c8 01 01 08 06 c9 01 01 7f"
	const parts = " 03 00 02 0e"
	const vec = " 02 05 c8 01"
	for i, want := range []string{
		"01 80 01" + ops,
		"02 80 01 05 08",
		"03 ac 02 04" + parts + ops,
		"04 ac 02 08",
		"05 ac 02 05 08",
		"06 ac 02",
		"07 ac 02",
		"08 07 09 10 80 02" + vec,
		"09 05 82 01 07 09 10 80 02" + vec,
		"0a 07 08" + hits,
		"0b 05 07 08" + hits,
		"0c ac 02 04" + parts + ops,
		"0d ac 02 05",
		"0e ac 02",
		"0f 82 01",
		"10 82 01",
		"11 ac 02 80 01 05" + parts,
		"12 ac 02",
		"13 ac 02 80 01 04 0f" + parts + ops,
		"14 ac 02 0f",
		"15 ac 02 0f",
		"16 ac 02",
	} {
		mustBe(t, full(rows()[i]), frame(fromHex(t, want)))
	}
}

// TestKindsBare: each field that a kind has is there in its bytes, though it is zero.
func TestKindsBare(t *testing.T) {
	for _, r := range rows() {
		mustBe(t, note.Note{Kind: r.kind}, frame(append([]byte{r.kind}, make([]byte, len(r.fields))...)))
		empty := note.Note{Kind: r.kind, Parts: []int{}, Ops: []api.Op{}, Vec: []int32{}, Hits: []api.Hit{}}
		mustBe(t, empty, frame(append([]byte{r.kind}, make([]byte, len(r.fields))...)))
	}
}

func TestOtherKinds(t *testing.T) {
	for kind := range 256 {
		if kind >= 1 && kind <= 22 {
			continue
		}
		n := note.Note{Kind: byte(kind)}
		mustBeWrong(t, n)
		n.Txn = 5
		mustBeWrong(t, n)
	}
}

// slight is notes with all fields, none of them zero, but as near to it as can be, from either side.
func slight() []note.Note {
	above := note.Note{
		Txn: 1, Batch: 1, Stamp: 1, After: 1, Mark: 1, Query: 1, ID: 1, K: 1, Ef: 1, Code: 1, Who: 1,
		Parts: []int{0}, Ops: []api.Op{{}}, Vec: []int32{0}, Hits: []api.Hit{{Vec: []int32{0}}},
	}
	below := above
	below.K, below.Ef, below.Code, below.Who = -1, -1, -1, -1
	below.Hits = []api.Hit{{}}
	return []note.Note{above, below, every()}
}

func TestFieldsThatAKindHasnt(t *testing.T) {
	for _, r := range rows() {
		for _, field := range names() {
			if slices.Contains(r.fields, field) {
				continue
			}
			for _, from := range slight() {
				whole, bare := full(r), note.Note{Kind: r.kind}
				put(&whole, field, from)
				put(&bare, field, from)
				mustBeWrong(t, whole)
				mustBeWrong(t, bare)
			}
		}
	}
}

// TestFields: what each field may be and may not, in each kind that has it, packed and as bytes.
func TestFields(t *testing.T) {
	for _, r := range rows() {
		for _, v := range variants() {
			if !slices.Contains(r.fields, v.field) {
				continue
			}
			for _, n := range []note.Note{full(r), {Kind: r.kind}} {
				put(&n, v.field, v.from)
				p := frame(carried(n, r.fields))
				if v.right {
					mustBe(t, n, p)
				} else {
					mustBeWrong(t, n)
					mustRefuse(t, p, api.ErrForm)
				}
			}
		}
	}
}

// TestLongest: all fields at once as long as they may be.
func TestLongest(t *testing.T) {
	long := note.Note{
		Txn: math.MaxUint64, Batch: math.MaxUint64, Stamp: api.MaxStamp, After: api.MaxStamp, Mark: api.MaxStamp, Query: math.MaxUint64,
		ID: api.MaxID, K: api.MaxK, Ef: api.MaxEf, Code: api.ErrText, Who: 15, Parts: []int{12, 13, 14, 15},
		Ops: manyOps(16), Vec: edgeVecs()[5], Hits: manyHits(16),
	}
	for _, r := range rows() {
		n := only(r.kind, r.fields, long)
		mustBe(t, n, frame(carried(n, r.fields)))
	}
}

// differing is, of each field, values that are all unlike one another.
func differing() map[string][]note.Note {
	hit := func(id, dist uint64, v ...int32) note.Note {
		return note.Note{Hits: []api.Hit{{ID: id, Dist: dist, Vec: v}}}
	}
	op := func(id uint64, v ...int32) note.Note {
		return note.Note{Ops: []api.Op{{ID: id, Vec: v}}}
	}
	two := func(a, b note.Note) note.Note {
		return note.Note{Ops: append(a.Ops, b.Ops...), Hits: append(a.Hits, b.Hits...)}
	}
	const top = 1 << 63
	return map[string][]note.Note{
		"Kind":  {{}, {Kind: 1}, {Kind: 2}, {Kind: 23}, {Kind: 255}},
		"Txn":   {{}, {Txn: 1}, {Txn: top}},
		"Batch": {{}, {Batch: 1}, {Batch: top}},
		"Stamp": {{}, {Stamp: 1}, {Stamp: top}},
		"After": {{}, {After: 1}, {After: top}},
		"Mark":  {{}, {Mark: 1}, {Mark: top}},
		"Query": {{}, {Query: 1}, {Query: top}},
		"ID":    {{}, {ID: 1}, {ID: top}},
		"K":     {{}, {K: 1}, {K: -1}, {K: math.MinInt}},
		"Ef":    {{}, {Ef: 1}, {Ef: -1}, {Ef: math.MinInt}},
		"Code":  {{}, {Code: 1}, {Code: -1}, {Code: math.MinInt}},
		"Who":   {{}, {Who: 1}, {Who: -1}, {Who: math.MinInt}},
		"Parts": {{}, {Parts: []int{0}}, {Parts: []int{1}}, {Parts: []int{0, 1}}, {Parts: []int{1, 0}}, {Parts: []int{0, 1, 0}}, {Parts: []int{-1}}},
		"Ops":   {{}, op(0), op(1), op(0, 0), op(0, 1), op(0, 1, 0), op(0, 0, 1), two(op(0), op(1)), two(op(1), op(0)), two(op(0), op(0))},
		"Vec":   {{}, {Vec: []int32{0}}, {Vec: []int32{1}}, {Vec: []int32{0, 1}}, {Vec: []int32{1, 0}}, {Vec: []int32{0, 1, 0}}, {Vec: []int32{-1}}},
		"Hits": {
			{}, hit(0, 0), hit(1, 0), hit(0, 1), hit(1, 1), hit(0, 0, 0), hit(0, 0, 1), hit(0, 0, 1, 0), hit(0, 0, 0, 1),
			two(hit(0, 1), hit(1, 0)), two(hit(1, 0), hit(0, 1)), two(hit(0, 0), hit(0, 0)),
		},
	}
}

// TestSame: also of notes that aren't right.
func TestSame(t *testing.T) {
	bases := []note.Note{{}, every(), {Kind: 255, Txn: 1, K: -5, Parts: []int{3, 3}}}
	for _, r := range rows() {
		bases = append(bases, full(r))
	}
	for _, base := range bases {
		for field, l := range differing() {
			for i, from := range l {
				for j, other := range l {
					a, b := base, base
					if field == "Kind" {
						a.Kind, b.Kind = from.Kind, other.Kind
					} else {
						put(&a, field, from)
						put(&b, field, other)
					}
					if got := note.Same(a, b); got != (i == j) {
						t.Fatalf("Same(%v, %v) = %t", a, b, got)
					}
				}
			}
		}
	}
}

func TestSameOfEmptyLists(t *testing.T) {
	a := note.Note{Kind: note.Ack, Ops: []api.Op{{ID: 1}}, Hits: []api.Hit{{ID: 1}}}
	b := note.Note{Kind: note.Ack, Ops: []api.Op{{ID: 1, Vec: []int32{}}}, Hits: []api.Hit{{ID: 1, Vec: []int32{}}}, Parts: []int{}, Vec: []int32{}}
	c := note.Note{Kind: note.Ack}
	d := note.Note{Kind: note.Ack, Ops: []api.Op{}, Hits: []api.Hit{}, Parts: []int{}, Vec: []int32{}}
	if !note.Same(a, b) || !note.Same(b, a) || !note.Same(c, d) || !note.Same(d, c) {
		t.Error("nil and empty lists aren't the same")
	}
	if note.Same(a, c) || note.Same(d, b) {
		t.Error("lists and none are the same")
	}
}

// TestSameOfOthersMemory: the same values, whoever keeps them.
func TestSameOfOthersMemory(t *testing.T) {
	if !note.Same(every(), every()) {
		t.Error("two notes of the same values aren't the same")
	}
}
