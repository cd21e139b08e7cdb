package judge_test

import (
	"bytes"
	"encoding/hex"
	"math/rand"
	"slices"
	"strings"
	"testing"

	"armillary/api"
	"armillary/judge"
	"armillary/note"
)

func fromHex(t *testing.T, s string) []byte {
	t.Helper()
	p, err := hex.DecodeString(strings.ReplaceAll(s, " ", ""))
	if err != nil {
		t.Fatal(err)
	}
	return p
}

// whole is a judge, and its bytes, worked out by hand.
func whole(t *testing.T) (*judge.Judge, *model, []byte) {
	t.Helper()
	j, m := with(t,
		commit(9, 300, 200, 1, 3), acked(9, 1),
		commit(8, 2, 128, 2), end(8),
		epoch(130),
		begin(300, 7, 200, 4, parts(1, 2, 3), on(1, 0)), yes(300, 2), commit(300, 7, 6, 1, 2, 3),
		begin(in(130, 1), 1, 200, 4, parts(1, 2), on(1, 0), on(2, 0)), yes(in(130, 1), 1),
		commit(1, 300, 5, 3),
	)
	return j, m, fromHex(t, "82 01"+"c8 01"+
		"03"+"02 80 01"+"07 06"+"ac 02 05"+
		"03"+"01 ac 02 05 01 03"+"09 ac 02 c8 01 02 01 03"+"ac 02 07 06 03 01 02 03")
}

func TestPack(t *testing.T) {
	if p := made(t, 2, 1).Pack(); !bytes.Equal(p, []byte{0, 0, 0, 0}) {
		t.Fatalf("Pack of nothing = %x", p)
	}
	j, m, want := whole(t)
	for range 2 {
		if p := j.Pack(); !bytes.Equal(p, want) {
			t.Fatalf("Pack = %x, want %x", p, want)
		}
		mustHold(t, j, m)
	}
}

func TestUnpackOfPacked(t *testing.T) {
	_, m, p := whole(t)
	k := made(t, 3, 1)
	must(t, "Unpack", k.Unpack(p), api.OK)
	m = m.forgetful()
	mustHold(t, k, m)
	want := []judge.Trial{
		{Txn: 1, Batch: 300, Stamp: 5, Parts: parts(3)},
		{Txn: 9, Batch: 300, Stamp: 200, Parts: parts(1, 3)},
		{Txn: 300, Batch: 7, Stamp: 6, Parts: parts(1, 2, 3)},
	}
	if got := k.Trials(); told(got) != told(want) {
		t.Fatalf("Trials = %v, want %v", got, want)
	}
	must(t, "Unpack once more", k.Unpack(p), api.ErrState)
	mustHold(t, k, m)

	// It goes on as the one that was packed, but that nobody has acknowledged.
	for _, n := range []note.Note{acked(9, 1), epoch(131), end(9), begin(in(131, 1), 1, 200, 4, parts(1), on(1, 0)), commit(in(131, 1), 1, 201, 1), acked(300, 2)} {
		apply(t, k, m, n)
		mustHold(t, k, m)
	}
	if got := k.Pack(); !bytes.Equal(got, m.pack()) {
		t.Fatalf("Pack = %x, want %x", got, m.pack())
	}

	// How many shards there are isn't in the bytes: with fewer there is no such judge.
	must(t, "Unpack", made(t, 4, 8).Unpack(p), api.OK)
	must(t, "Unpack", made(t, 2, 1).Unpack(p), api.ErrForm)
}

// TestUnpackCountsTrials: an epoch that came with the bytes had no trials, as far as is known.
func TestUnpackCountsTrials(t *testing.T) {
	for _, c := range []struct {
		bytes string
		next  uint64
	}{
		{"00 00 00 00", 1},
		{"05 00 00 00", in(5, 1)},
		{"05 09 00 01 81 80 c0 02 07 09 01 02", in(5, 1)}, // with a trial of the epoch
	} {
		j := made(t, 3, 1)
		must(t, "Unpack of "+c.bytes, j.Unpack(fromHex(t, c.bytes)), api.OK)
		if p := j.Plan(3, ask(1000, on(1, 0))); len(p.Notes) != 1 || p.Notes[0].Txn != c.next {
			t.Fatalf("behind %s the plan is %v, want Txn %d", c.bytes, p, c.next)
		}
	}
	// A number that was given isn't given once more.
	for bytes, next := range map[string]uint64{"00 00 00 00": 5, "00 03 01 07 03 00": 5, "02 00 00 00": in(2, 1)} {
		j, _ := with(t, begin(4, 9, 0, 4, parts(1), on(1, 0)), gone(4))
		must(t, "Unpack of "+bytes, j.Unpack(fromHex(t, bytes)), api.OK)
		if p := j.Plan(3, ask(1000, on(1, 0))); len(p.Notes) != 1 || p.Notes[0].Txn != next {
			t.Fatalf("behind %s the plan is %v, want Txn %d", bytes, p, next)
		}
	}
}

// eight is as many trials as there may be, from Txn 1 on.
const eight = "01 07 03 01 01  02 07 03 01 01  03 07 03 01 01  04 07 03 01 01  05 07 03 01 01  06 07 03 01 01  07 07 03 01 01  08 07 03 01 01"

// rightBytes is of judges of 3 shards that there may be; but the first they have something.
var rightBytes = []string{
	"00 00 00 00",
	// Epochs.
	"01 00 00 00", "80 80 80 80 80 20 00 00 00",
	// Last stamps, also without a batch.
	"00 01 00 00", "00 80 80 80 80 80 20 00 00",
	// Batches and stamps at their edges, stamps that come twice or fall.
	"00 03 01 07 03 00", "00 03 01 07 01 00", "00 80 80 80 80 80 20 02 00 01 ff ff ff ff ff ff ff ff ff 01 80 80 80 80 80 20 00",
	"00 03 02 07 03 08 03 00", "00 03 02 07 03 08 02 00",
	// Trials: Txns and batches at their edges, stamps at theirs; batches that weren't committed, or at another stamp, or that come twice.
	"00 03 01 07 03 01 09 07 03 01 01", "00 03 00 01 09 07 01 03 01 02 03",
	"00 80 80 80 80 80 20 00 02 00 00 01 01 03 ff ff ff ff ff ff ff ff ff 01 ff ff ff ff ff ff ff ff ff 01 80 80 80 80 80 20 02 02 03",
	"00 03 01 07 03 01 09 07 02 01 01", "00 03 01 07 03 02 09 07 02 01 01 0a 07 03 01 01", "00 03 00 02 09 07 03 01 01 0a 08 02 01 01",
	"00 03 00 08 " + eight,
	// A Txn of an epoch to come.
	"01 03 00 01 ff ff ff ff 07 07 03 01 01",
}

func TestUnpackOfRightBytes(t *testing.T) {
	for _, s := range rightBytes {
		j, p := made(t, 3, 1), fromHex(t, s)
		must(t, "Unpack of "+s, j.Unpack(p), api.OK)
		if got := j.Pack(); !bytes.Equal(got, p) {
			t.Fatalf("%x became %x", p, got)
		}
	}
	// Parts are those of as many shards as there are.
	must(t, "Unpack", made(t, 4, 1).Unpack(fromHex(t, "00 03 00 01 09 07 03 04 01 02 03 04")), api.OK)
	must(t, "Unpack", made(t, 1, 1).Unpack(fromHex(t, "00 03 00 01 09 07 03 01 01")), api.OK)
	must(t, "Unpack", made(t, 1, 1).Unpack(fromHex(t, "00 03 00 01 09 07 03 01 02")), api.ErrForm)
}

// wrongBytes is of no judge of 3 shards that there may be.
var wrongBytes = []string{
	// Not all is there, or more is; numbers in a longer form, or past 2^64 - 1.
	"", "00", "00 00", "00 00 00", "00 00 00 00 00", "80 00 00 00 00", "00 80 00 00 00", "00 00 80 00 00", "00 00 00 80 00", "00 00 00 80",
	"00 03 01 87 00 03 00", "00 03 01 ff ff ff ff ff ff ff ff ff 02 03 00", "00 03 00 01 ff ff ff ff ff ff ff ff ff 02 07 03 01 01",
	// An epoch above, a last stamp above.
	"81 80 80 80 80 20 00 00 00", "ff ff ff ff ff ff ff ff ff 01 00 00 00", "00 81 80 80 80 80 20 00 00", "00 ff ff ff ff ff ff ff ff ff 01 00 00",
	// Batches that fall, that come twice; stamps of 0, and above the last.
	"00 03 02 07 03 06 03 00", "00 03 02 07 03 07 03 00", "00 03 02 07 03 07 02 00", "00 03 02 00 03 00 03 00", "00 03 03 05 01 07 02 06 03 00",
	"00 03 01 07 00 00", "00 03 01 07 04 00", "00 00 01 07 01 00", "00 00 01 07 00 00", "00 03 02 07 03 08 00 00", "00 03 02 07 03 08 04 00", "00 03 02 07 00 08 03 00",
	"00 80 80 80 80 80 20 01 07 81 80 80 80 80 20 00",
	// Trials: Txns that fall, that come twice; stamps of 0, and above the last.
	"00 03 00 02 09 07 03 01 01 08 08 03 01 01", "00 03 00 02 09 07 03 01 01 09 08 03 01 01", "00 03 00 02 00 07 03 01 01 00 08 03 01 01",
	"00 03 00 03 05 07 03 01 01 07 08 03 01 01 06 09 03 01 01",
	"00 03 00 01 09 07 00 01 01", "00 03 00 01 09 07 04 01 01", "00 00 00 01 09 07 01 01 01", "00 00 00 01 09 07 00 01 01", "00 03 00 02 09 07 03 01 01 0a 07 00 01 01", "00 03 00 02 09 07 00 01 01 0a 07 03 01 01",
	// Parts: none, that fall, that come twice, that are none, too many.
	"00 03 00 01 09 07 03 00", "00 03 00 02 09 07 03 00 0a 07 03 01 01", "00 03 00 02 09 07 03 01 01 0a 07 03 00",
	"00 03 00 01 09 07 03 02 02 01", "00 03 00 01 09 07 03 02 02 02", "00 03 00 01 09 07 03 03 01 03 02", "00 03 00 01 09 07 03 03 01 02 02",
	"00 03 00 01 09 07 03 01 00", "00 03 00 01 09 07 03 02 00 01", "00 03 00 01 09 07 03 01 04", "00 03 00 01 09 07 03 02 01 04", "00 03 00 01 09 07 03 04 01 02 03 04",
	"00 03 00 01 09 07 03 01 0f", "00 03 00 01 09 07 03 01 10", "00 03 00 01 09 07 03 01 80 02", "00 03 00 01 09 07 03 01 81 80 80 80 10", "00 03 00 01 09 07 03 01 ff ff ff ff ff ff ff ff ff 01",
	"00 03 00 01 09 07 03 05 01 02 03 04 05", "00 03 00 01 09 07 03 04 01 02 03 03",
	// Too many trials.
	"00 03 00 09 " + eight + " 09 07 03 01 01",
	// Counts greater and less than what is there.
	"00 03 02 07 03 00", "00 03 00 07 03 00", "00 03 00 02 09 07 03 01 01", "00 03 00 00 09 07 03 01 01",
	"00 03 00 01 09 07 03 02 01", "00 03 00 01 09 07 03 01 01 02", "00 03 00 01", "00 03 00 01 09", "00 03 00 01 09 07", "00 03 00 01 09 07 03", "00 03 00 01 09 07 03 01",
	"00 03 00 08 " + eight + " 09 07 03 01 01", "00 03 00 07 " + eight,
	// Counts beyond all.
	"00 03 ff ff ff ff ff ff ff ff ff 01 00", "00 03 ff ff ff ff ff ff ff ff 7f 07 03 00", "00 03 ff ff ff ff 0f 07 03 00",
	"00 03 00 ff ff ff ff ff ff ff ff ff 01", "00 03 00 ff ff ff ff 0f 09 07 03 01 01", "00 03 00 01 09 07 03 ff ff ff ff ff ff ff ff ff 01 01",
}

// mustRefuse asks that bytes are refused, and leave a judge as it was.
func mustRefuse(t *testing.T, p []byte) {
	t.Helper()
	j, m := with(t)
	if e := j.Unpack(p); e != api.ErrForm {
		t.Fatalf("Unpack of %x = %d, want %d", p, e, api.ErrForm)
	}
	mustHold(t, j, m)
	_, m, right := whole(t)
	m = m.forgetful()
	must(t, "Unpack of right bytes behind wrong ones", j.Unpack(right), api.OK)
	mustHold(t, j, m)
	must(t, "Unpack of wrong bytes, not empty", j.Unpack(p), api.ErrForm)
	mustHold(t, j, m)
}

func TestUnpackOfWrongBytes(t *testing.T) {
	for _, s := range wrongBytes {
		mustRefuse(t, fromHex(t, s))
	}
	mustRefuse(t, nil)
	_, _, p := whole(t)
	for cut := range p {
		mustRefuse(t, p[:cut])
	}
	for last := range 256 {
		mustRefuse(t, append(slices.Clone(p), byte(last)))
	}
	mustRefuse(t, slices.Concat(p, p))
}

// TestUnpackOfManyBytes: however much is said to be there, it ends.
func TestUnpackOfManyBytes(t *testing.T) {
	for _, head := range []string{"00 03", "00 03 00", "00 03 00 01 09 07 03"} {
		for _, filler := range []byte{0, 1, 0x7f, 0x80, 0xff} {
			for _, count := range [][]byte{{0xa0, 0x8d, 0x06}, {0x80, 0x80, 0x08}, {0xff, 0xff, 0xff, 0x7f}} {
				p := slices.Concat(fromHex(t, head), count, bytes.Repeat([]byte{filler}, 100000))
				must(t, "Unpack", made(t, 2, 1).Unpack(p), api.ErrForm)
			}
		}
	}
}

// TestUnpackOfManyBatches: there may be as many as there is room for.
func TestUnpackOfManyBatches(t *testing.T) {
	p := nums(nil, 1, 200000, 100000)
	for i := range uint64(100000) {
		p = nums(p, 3*i, 200000-i)
	}
	p = append(p, 0)
	j := made(t, 2, 1)
	must(t, "Unpack", j.Unpack(p), api.OK)
	if stamp, done := j.Done(3 * 777); stamp != 200000-777 || !done || !bytes.Equal(j.Pack(), p) {
		t.Fatalf("Done = %d, %t", stamp, done)
	}
}

// TestUnpackNotEmpty: each thing that a judge may have makes it one that isn't empty.
func TestUnpackNotEmpty(t *testing.T) {
	for _, s := range rightBytes[1:] {
		j, p := made(t, 3, 1), fromHex(t, s)
		must(t, "Unpack of "+s, j.Unpack(p), api.OK)
		mustStay(t, j, p)
	}
	for _, l := range [][]note.Note{
		{epoch(1)},
		{begin(1, 1, 0, 4, parts(1), on(1, 0))},
		{commit(1, 1, 1, 1)},
		{commit(1, 1, 1, 1), end(1)},
	} {
		j, m := with(t, l...)
		mustStay(t, j, m.pack())
		mustHold(t, j, m)
	}
	// Where all is gone it is empty again.
	j, _ := with(t, begin(1, 1, 0, 4, parts(1), on(1, 0)), gone(1))
	_, m, p := whole(t)
	must(t, "Unpack of nothing", j.Unpack([]byte{0, 0, 0, 0}), api.OK)
	must(t, "Unpack", j.Unpack(p), api.OK)
	mustHold(t, j, m.forgetful())
}

// mustStay asks that nothing is unpacked into a judge that has these bytes.
func mustStay(t *testing.T, j *judge.Judge, p []byte) {
	t.Helper()
	for _, right := range rightBytes {
		must(t, "Unpack of "+right, j.Unpack(fromHex(t, right)), api.ErrState)
	}
	for _, wrong := range wrongBytes {
		must(t, "Unpack of "+wrong, j.Unpack(fromHex(t, wrong)), api.ErrForm)
	}
	if got := j.Pack(); !bytes.Equal(got, p) {
		t.Fatalf("%x became %x", p, got)
	}
}

// TestUnpackOfAnything: whatever the bytes are, they are refused, or they are those of what was made of them.
func TestUnpackOfAnything(t *testing.T) {
	r := rand.New(rand.NewSource(16))
	_, _, sample := whole(t)
	taken := 0
	for range 100000 {
		p := someBytes(r, sample)
		j := made(t, 3, 1)
		switch e := j.Unpack(p); e {
		case api.OK:
			taken++
			if got := j.Pack(); !bytes.Equal(got, p) {
				t.Fatalf("%x became %x", p, got)
			}
			for _, trial := range j.Trials() {
				if len(trial.Parts) == 0 || trial.Parts[0] < 1 || trial.Parts[len(trial.Parts)-1] > 3 || trial.Stamp < 1 || trial.Stamp > j.Last() {
					t.Fatalf("%x became %v", p, j.Trials())
				}
			}
		case api.ErrForm:
			if got := j.Pack(); !bytes.Equal(got, []byte{0, 0, 0, 0}) {
				t.Fatalf("%x was refused and became %x", p, got)
			}
		default:
			t.Fatalf("Unpack of %x = %d", p, e)
		}
	}
	if taken < 1000 {
		t.Fatalf("of the bytes only %d were a judge's", taken)
	}
}

// someBytes is few small ones, or the sample's, harmed.
func someBytes(r *rand.Rand, sample []byte) []byte {
	var p []byte
	if r.Intn(2) == 0 {
		for range 4 + r.Intn(8) {
			p = append(p, byte(r.Intn(3)))
		}
		return p
	}
	p = slices.Clone(sample)
	for range 1 + r.Intn(2) {
		switch at := r.Intn(len(p)); r.Intn(3) {
		case 0:
			p[at] = byte(r.Intn(256))
		case 1:
			p = slices.Insert(p, at, byte(r.Intn(256)))
		default:
			p = slices.Delete(p, at, at+1)
		}
	}
	return p
}
