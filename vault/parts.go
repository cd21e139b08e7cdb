package vault

import (
	"maps"
	"slices"

	"armillary/api"
	"armillary/chain"
)

// own is the intent with ops and vectors of its own.
func (i Intent) own() Intent {
	ops := make([]api.Op, 0, len(i.Ops))
	for _, op := range i.Ops {
		op.Vec = append([]int32(nil), op.Vec...)
		ops = append(ops, op)
	}
	i.Ops = ops
	return i
}

// held: does an intent hold the op's ID?
func (v *Vault) held(op api.Op) bool {
	_, held := v.holders[op.ID]
	return held
}

// drop takes an intent away, so that nobody holds its IDs.
func (v *Vault) drop(i Intent) {
	for _, op := range i.Ops {
		delete(v.holders, op.ID)
	}
	delete(v.intents, i.Txn)
}

// reached: has one of the ops' IDs a version at that stamp, or above?
func (v *Vault) reached(stamp uint64, ops []api.Op) bool {
	return slices.ContainsFunc(ops, func(op api.Op) bool {
		return v.chains[op.ID].Last() >= stamp
	})
}

// put makes an op a version. Lock and Apply have asked all that the chain asks, so that it doesn't refuse it.
func (v *Vault) put(op api.Op, stamp uint64) {
	c := v.chains[op.ID]
	if c == nil {
		c, _ = chain.New()
		v.chains[op.ID] = c
	}
	c.Put(chain.Version{Stamp: stamp, Vec: op.Vec})
}

// refuse is why nobody may ask as of a stamp for these IDs, or, if there are none of them, for all.
func (v *Vault) refuse(stamp uint64, ids ...uint64) api.Errno {
	switch {
	case v == nil:
		return api.ErrNone
	case v.Blocked(stamp, ids...):
		return api.ErrLocked
	case stamp < v.mark:
		return api.ErrLate
	}
	return api.OK
}

// pending: is there an intent whose After is below stamp?
func (v *Vault) pending(stamp uint64) bool {
	for _, i := range v.intents {
		if i.After < stamp {
			return true
		}
	}
	return false
}

// ids is the IDs that have a chain, rising.
func (v *Vault) ids() []uint64 {
	return slices.Sorted(maps.Keys(v.chains))
}

// chained is the entries' chains by their IDs; false: one of the entries isn't right.
func chained(dim int, l []Entry) (map[uint64]*chain.Chain, bool) {
	chains := make(map[uint64]*chain.Chain, len(l))
	for _, entry := range l {
		c, e := chain.New(entry.Versions...)
		if e != api.OK || c.Len() == 0 || entry.ID > api.MaxID || !fit(dim, entry.Versions) || chains[entry.ID] != nil {
			return nil, false
		}
		chains[entry.ID] = c
	}
	return chains, true
}

// fit: have all vectors dim numbers? One that is none has no numbers, and fits.
func fit(dim int, l []chain.Version) bool {
	return !slices.ContainsFunc(l, func(version chain.Version) bool {
		return len(version.Vec) != 0 && len(version.Vec) != dim
	})
}
