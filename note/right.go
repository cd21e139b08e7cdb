package note

import (
	"slices"

	"armillary/api"
	"armillary/vec"
)

func rightNumbers(n Note) bool {
	for i, number := range numbersOf(n) {
		if number > most[i] {
			return false
		}
	}
	return true
}

func rightParts(parts []int) bool {
	if len(parts) > api.MaxShards {
		return false
	}
	last := -1
	for _, part := range parts {
		if part <= last || part > mostNode {
			return false
		}
		last = part
	}
	return true
}

func rightOps(ops []api.Op) bool {
	return len(ops) <= api.MaxOps && !slices.ContainsFunc(ops, func(op api.Op) bool {
		return op.ID > api.MaxID || !rightVec(op.Vec)
	})
}

func rightHits(hits []api.Hit) bool {
	return len(hits) <= api.MaxK && !slices.ContainsFunc(hits, func(hit api.Hit) bool {
		return hit.ID > api.MaxID || !vec.Right(hit.Vec)
	})
}

// rightVec: may it be the vector of a note, or of an op, which may have no numbers?
func rightVec(v []int32) bool {
	return len(v) == 0 || vec.Right(v)
}
