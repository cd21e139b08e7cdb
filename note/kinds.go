package note

import (
	"math"

	"armillary/api"
)

// fields is a set of a note's fields, a bit each.
type fields uint16

// The fields in the order of the type, in which they are written, too: first those that are numbers.
const (
	hasTxn fields = 1 << iota
	hasBatch
	hasStamp
	hasAfter
	hasMark
	hasQuery
	hasID
	hasK
	hasEf
	hasCode
	hasWho
	hasParts
	hasOps
	hasVec
	hasHits
)

// row is what the table of kinds says of one.
type row struct {
	name string
	has  fields
}

// kinds is the kinds by their numbers; of number 0 there is none.
var kinds = [Gone + 1]row{
	Ask:       {"Ask", hasBatch | hasOps},
	Reply:     {"Reply", hasBatch | hasStamp | hasCode},
	Prepare:   {"Prepare", hasTxn | hasAfter | hasParts | hasOps},
	Vote:      {"Vote", hasTxn | hasCode},
	Decide:    {"Decide", hasTxn | hasStamp | hasCode},
	Ack:       {"Ack", hasTxn},
	Probe:     {"Probe", hasTxn},
	Query:     {"Query", hasQuery | hasID | hasK | hasEf | hasVec},
	Look:      {"Look", hasStamp | hasMark | hasQuery | hasID | hasK | hasEf | hasVec},
	Seen:      {"Seen", hasQuery | hasCode | hasHits},
	Result:    {"Result", hasStamp | hasQuery | hasCode | hasHits},
	Prepared:  {"Prepared", hasTxn | hasAfter | hasParts | hasOps},
	Committed: {"Committed", hasTxn | hasStamp},
	Aborted:   {"Aborted", hasTxn},
	Swept:     {"Swept", hasMark},
	Epoch:     {"Epoch", hasMark},
	Commit:    {"Commit", hasTxn | hasBatch | hasStamp | hasParts},
	End:       {"End", hasTxn},
	Begin:     {"Begin", hasTxn | hasBatch | hasAfter | hasWho | hasParts | hasOps},
	Yes:       {"Yes", hasTxn | hasWho},
	Acked:     {"Acked", hasTxn | hasWho},
	Gone:      {"Gone", hasTxn},
}

// mostNode is the greatest number of a node.
const mostNode = 15

// numbers is how many of the fields are numbers.
const numbers = 11

// most is the greatest that each number may be.
var most = [numbers]uint64{
	math.MaxUint64,      // Txn
	math.MaxUint64,      // Batch
	api.MaxStamp,        // Stamp
	api.MaxStamp,        // After
	api.MaxStamp,        // Mark
	math.MaxUint64,      // Query
	api.MaxID,           // ID
	api.MaxK,            // K
	api.MaxEf,           // Ef
	uint64(api.ErrText), // Code
	mostNode,            // Who
}

// known: is there such a kind?
func known(kind byte) bool {
	return kind >= Ask && kind <= Gone
}

// used is the fields of a note that aren't zero.
func used(n Note) fields {
	var set fields
	for i, number := range numbersOf(n) {
		if number != 0 {
			set |= 1 << i
		}
	}
	if len(n.Parts) > 0 {
		set |= hasParts
	}
	if len(n.Ops) > 0 {
		set |= hasOps
	}
	if len(n.Vec) > 0 {
		set |= hasVec
	}
	if len(n.Hits) > 0 {
		set |= hasHits
	}
	return set
}

// numbersOf is a note's numbers. One below 0 wraps round to one that is greater than any that may be.
func numbersOf(n Note) [numbers]uint64 {
	return [numbers]uint64{
		n.Txn, n.Batch, n.Stamp, n.After, n.Mark, n.Query, n.ID,
		uint64(n.K), uint64(n.Ef), uint64(n.Code), uint64(n.Who),
	}
}

// ofNumbers is a note of these numbers alone: numbersOf's way back.
func ofNumbers(l [numbers]uint64) Note {
	return Note{
		Txn: l[0], Batch: l[1], Stamp: l[2], After: l[3], Mark: l[4], Query: l[5], ID: l[6],
		K: int(l[7]), Ef: int(l[8]), Code: api.Errno(l[9]), Who: int(l[10]),
	}
}
