package note_test

import (
	"encoding/binary"
	"fmt"
	"hash/crc32"
	"math"
	"strings"

	"armillary/api"
	"armillary/note"
)

// row is a line of the chapter's table.
type row struct {
	kind   byte
	name   string
	fields []string // in the order of the type, which is the table's
}

// rows is the chapter's table, written off word by word.
func rows() []row {
	lines := []string{
		"Ask: Batch, Ops",
		"Reply: Batch, Stamp, Code",
		"Prepare: Txn, After, Parts, Ops",
		"Vote: Txn, Code",
		"Decide: Txn, Stamp, Code",
		"Ack: Txn",
		"Probe: Txn",
		"Query: Query, ID, K, Ef, Vec",
		"Look: Stamp, Mark, Query, ID, K, Ef, Vec",
		"Seen: Query, Code, Hits",
		"Result: Stamp, Query, Code, Hits",
		"Prepared: Txn, After, Parts, Ops",
		"Committed: Txn, Stamp",
		"Aborted: Txn",
		"Swept: Mark",
		"Epoch: Mark",
		"Commit: Txn, Batch, Stamp, Parts",
		"End: Txn",
		"Begin: Txn, Batch, After, Who, Parts, Ops",
		"Yes: Txn, Who",
		"Acked: Txn, Who",
		"Gone: Txn",
	}
	var table []row
	for i, line := range lines {
		name, fields, _ := strings.Cut(line, ": ")
		table = append(table, row{byte(i + 1), name, strings.Split(fields, ", ")})
	}
	return table
}

// names is the fields of the type, but Kind.
func names() []string {
	return strings.Fields("Txn Batch Stamp After Mark Query ID K Ef Code Who Parts Ops Vec Hits")
}

// put makes a field of a note what that field of another one is.
func put(n *note.Note, field string, from note.Note) {
	switch field {
	case "Txn":
		n.Txn = from.Txn
	case "Batch":
		n.Batch = from.Batch
	case "Stamp":
		n.Stamp = from.Stamp
	case "After":
		n.After = from.After
	case "Mark":
		n.Mark = from.Mark
	case "Query":
		n.Query = from.Query
	case "ID":
		n.ID = from.ID
	case "K":
		n.K = from.K
	case "Ef":
		n.Ef = from.Ef
	case "Code":
		n.Code = from.Code
	case "Who":
		n.Who = from.Who
	case "Parts":
		n.Parts = from.Parts
	case "Ops":
		n.Ops = from.Ops
	case "Vec":
		n.Vec = from.Vec
	case "Hits":
		n.Hits = from.Hits
	default:
		panic("no field " + field)
	}
}

// only is a note of a kind, with those fields of another one.
func only(kind byte, fields []string, from note.Note) note.Note {
	n := note.Note{Kind: kind}
	for _, field := range fields {
		put(&n, field, from)
	}
	return n
}

// every is a note with all fields, which no kind has; each field of it is right, and none is as another one.
func every() note.Note {
	return note.Note{
		Txn: 300, Batch: 128, Stamp: 5, After: 4, Mark: 130, Query: 7, ID: 9, K: 16, Ef: 256, Code: api.ErrFull, Who: 15,
		Parts: []int{0, 2, 14},
		Ops:   []api.Op{{ID: 1, Vec: []int32{1, -1}}, {ID: 2}},
		Vec:   []int32{-3, 100},
		Hits:  []api.Hit{{ID: 3, Dist: 200, Vec: []int32{4}}, {ID: 6, Dist: 201, Vec: []int32{-64}}},
	}
}

// full is a note of a kind with all that it has.
func full(r row) note.Note {
	return only(r.kind, r.fields, every())
}

// told is all that a note has, as a text: nil and empty lists are the same in it.
func told(n note.Note) string {
	return fmt.Sprintf("%v", n)
}

func appendVec(p []byte, v []int32) []byte {
	p = binary.AppendUvarint(p, uint64(len(v)))
	for _, n := range v {
		p = binary.AppendVarint(p, int64(n))
	}
	return p
}

// appendField is a field's bytes, whether it is right or not.
func appendField(p []byte, field string, n note.Note) []byte {
	switch field {
	case "Parts":
		p = binary.AppendUvarint(p, uint64(len(n.Parts)))
		for _, part := range n.Parts {
			p = binary.AppendUvarint(p, uint64(part))
		}
		return p
	case "Ops":
		p = binary.AppendUvarint(p, uint64(len(n.Ops)))
		for _, op := range n.Ops {
			p = appendVec(binary.AppendUvarint(p, op.ID), op.Vec)
		}
		return p
	case "Hits":
		p = binary.AppendUvarint(p, uint64(len(n.Hits)))
		for _, hit := range n.Hits {
			p = binary.AppendUvarint(p, hit.ID)
			p = appendVec(binary.AppendUvarint(p, hit.Dist), hit.Vec)
		}
		return p
	case "Vec":
		return appendVec(p, n.Vec)
	}
	number := map[string]uint64{
		"Txn": n.Txn, "Batch": n.Batch, "Stamp": n.Stamp, "After": n.After, "Mark": n.Mark, "Query": n.Query, "ID": n.ID,
		"K": uint64(n.K), "Ef": uint64(n.Ef), "Code": uint64(n.Code), "Who": uint64(n.Who),
	}[field]
	return binary.AppendUvarint(p, number)
}

// carried is what the frame of a note carries, if it has these fields.
func carried(n note.Note, fields []string) []byte {
	p := []byte{n.Kind}
	for _, field := range fields {
		p = appendField(p, field, n)
	}
	return p
}

// frame is a frame of bytes.
func frame(p []byte) []byte {
	behind := append([]byte{byte(len(p)), byte(len(p) >> 8)}, p...)
	return append(binary.LittleEndian.AppendUint32(nil, crc32.ChecksumIEEE(behind)), behind...)
}

// variant is what a field may be, or may not.
type variant struct {
	field string
	right bool
	from  note.Note
}

// variants is what each field may be and may not, at its edges.
func variants() []variant {
	var l []variant
	for _, v := range [][]variant{numberVariants(), countVariants(), partsVariants(), opsVariants(), vecVariants(), hitsVariants()} {
		l = append(l, v...)
	}
	return l
}

func numberVariants() []variant {
	var l []variant
	for _, n := range []uint64{0, 1, api.MaxStamp, api.MaxStamp + 1, 1 << 63, math.MaxUint64} {
		for _, field := range []string{"Txn", "Batch", "Query"} {
			l = append(l, variant{field, true, note.Note{Txn: n, Batch: n, Query: n}})
		}
		for _, field := range []string{"Stamp", "After", "Mark"} {
			l = append(l, variant{field, n <= api.MaxStamp, note.Note{Stamp: n, After: n, Mark: n}})
		}
	}
	for _, n := range []uint64{0, 1, api.MaxID, api.MaxID + 1, math.MaxUint64} {
		l = append(l, variant{"ID", n <= api.MaxID, note.Note{ID: n}})
	}
	return l
}

// countVariants: of the fields that are whole numbers.
func countVariants() []variant {
	var l []variant
	// Numbers above 32 and above 8 bits, too, of which the lowest bits alone would be right.
	for _, n := range []int{math.MinInt, math.MinInt32, -256, -2, -1, 0, 1, 13, 14, 15, 16, 17, 255, 256, 257, 258, 1<<32 + 1, math.MaxInt} {
		l = append(l,
			variant{"K", n >= 0 && n <= 16, note.Note{K: n}},
			variant{"Ef", n >= 0 && n <= 256, note.Note{Ef: n}},
			variant{"Code", n >= 0 && n <= 13, note.Note{Code: api.Errno(n)}},
			variant{"Who", n >= 0 && n <= 15, note.Note{Who: n}},
		)
	}
	for code := api.OK; code <= api.ErrText; code++ {
		l = append(l, variant{"Code", true, note.Note{Code: code}})
	}
	return l
}

func partsVariants() []variant {
	var l []variant
	for _, parts := range [][]int{nil, {}, {0}, {1}, {15}, {0, 15}, {14, 15}, {0, 1, 2}, {3, 5, 7, 9}, {12, 13, 14, 15}} {
		l = append(l, variant{"Parts", true, note.Note{Parts: parts}})
	}
	for _, parts := range [][]int{
		{-1}, {16}, {math.MinInt}, {math.MaxInt}, {-1, 0}, {15, 16}, {1, 257},
		{1, 0}, {2, 1, 3}, {1, 3, 2}, {1, 2, 4, 3},
		{0, 0}, {2, 2}, {1, 1, 2}, {1, 2, 2}, {1, 2, 3, 3},
		{0, 1, 2, 3, 4}, {1, 2, 3, 4, 5, 6}, {1, 2, 3, 4, 4},
	} {
		l = append(l, variant{"Parts", false, note.Note{Parts: parts}})
	}
	return l
}

// edgeVecs is vectors that are right, and wrongVecs some that aren't, but empty ones.
func edgeVecs() [][]int32 {
	return [][]int32{
		{0}, {-1}, {api.MaxCoord}, {-api.MaxCoord}, {1, 2, 3, 4, 5, 6, 7, 8},
		{-api.MaxCoord, -api.MaxCoord, -api.MaxCoord, -api.MaxCoord, api.MaxCoord, api.MaxCoord, api.MaxCoord, api.MaxCoord},
	}
}

func wrongVecs() [][]int32 {
	return [][]int32{
		{api.MaxCoord + 1}, {-api.MaxCoord - 1}, {math.MaxInt32}, {math.MinInt32},
		{0, 0, 0, 0, 0, 0, 0, api.MaxCoord + 1}, make([]int32, 9), make([]int32, 300),
	}
}

func vecVariants() []variant {
	l := []variant{{"Vec", true, note.Note{}}, {"Vec", true, note.Note{Vec: []int32{}}}}
	for _, v := range edgeVecs() {
		l = append(l, variant{"Vec", true, note.Note{Vec: v}})
	}
	for _, v := range wrongVecs() {
		l = append(l, variant{"Vec", false, note.Note{Vec: v}})
	}
	return l
}

// manyOps is so many ops, all of one ID, as long as they may be.
func manyOps(count int) []api.Op {
	var ops []api.Op
	for range count {
		ops = append(ops, api.Op{ID: api.MaxID, Vec: edgeVecs()[5]})
	}
	return ops
}

func opsVariants() []variant {
	var l []variant
	add := func(right bool, ops ...api.Op) {
		l = append(l, variant{"Ops", right, note.Note{Ops: ops}})
	}
	add(true)
	for _, count := range []int{1, 15, 16, 17, 18} {
		add(count <= 16, manyOps(count)...)
		add(count <= 16, make([]api.Op, count)...)
	}
	for _, id := range []uint64{0, api.MaxID, api.MaxID + 1, math.MaxUint64} {
		add(id <= api.MaxID, api.Op{ID: id})
		add(id <= api.MaxID, api.Op{ID: 1, Vec: []int32{1}}, api.Op{ID: id, Vec: []int32{1}})
		add(id <= api.MaxID, api.Op{ID: id, Vec: []int32{1}}, api.Op{ID: 1})
	}
	for _, v := range append(edgeVecs(), nil, []int32{}) {
		add(true, api.Op{ID: 1, Vec: v})
		add(true, api.Op{ID: 1, Vec: v}, api.Op{ID: 0, Vec: []int32{1, 2, 3}}, api.Op{ID: 1, Vec: v})
	}
	for _, v := range wrongVecs() {
		add(false, api.Op{ID: 1, Vec: v})
		add(false, api.Op{ID: 1}, api.Op{ID: 2, Vec: v})
		add(false, api.Op{ID: 1, Vec: v}, api.Op{ID: 2})
	}
	return l
}

// manyHits is so many hits, all alike, as long as they may be.
func manyHits(count int) []api.Hit {
	var hits []api.Hit
	for range count {
		hits = append(hits, api.Hit{ID: api.MaxID, Dist: math.MaxUint64, Vec: edgeVecs()[5]})
	}
	return hits
}

func hitsVariants() []variant {
	var l []variant
	add := func(right bool, hits ...api.Hit) {
		l = append(l, variant{"Hits", right, note.Note{Hits: hits}})
	}
	good := api.Hit{ID: 1, Dist: 2, Vec: []int32{3}}
	add(true)
	for _, count := range []int{1, 15, 16, 17, 18} {
		add(count <= 16, manyHits(count)...)
	}
	for _, id := range []uint64{0, api.MaxID, api.MaxID + 1, math.MaxUint64} {
		add(id <= api.MaxID, api.Hit{ID: id, Vec: []int32{1}})
		add(id <= api.MaxID, good, api.Hit{ID: id, Vec: []int32{1}})
		add(id <= api.MaxID, api.Hit{ID: id, Vec: []int32{1}}, good)
	}
	for _, v := range edgeVecs() {
		add(true, api.Hit{ID: 1, Vec: v}, good, api.Hit{ID: 0, Dist: 1, Vec: v})
	}
	for _, v := range append(wrongVecs(), nil, []int32{}) {
		add(false, api.Hit{ID: 1, Vec: v})
		add(false, good, api.Hit{ID: 2, Vec: v})
		add(false, api.Hit{ID: 2, Vec: v}, good)
	}
	return l
}
