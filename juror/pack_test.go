package juror_test

import (
	"bytes"
	"encoding/hex"
	"math/rand"
	"slices"
	"strings"
	"testing"

	"armillary/api"
	"armillary/juror"
	"armillary/note"
)

func fromHex(t *testing.T, s string) []byte {
	t.Helper()
	p, err := hex.DecodeString(strings.ReplaceAll(s, " ", ""))
	if err != nil {
		t.Fatal(err)
	}
	return p
}

// whole is a juror's records and its bytes, worked out by hand.
func whole(t *testing.T) (*juror.Juror, *model, []byte) {
	t.Helper()
	j, m := with(t,
		prepared(300, 0, []int{2}, op(5, 9)), committed(300, 3),
		prepared(2, 0, nil, op(300, -1), op(0)), committed(2, 5),
		prepared(10, 0, nil, op(5)), committed(10, 128),
		swept(4),
		prepared(8, 0, nil, op(1)),
		prepared(7, 200, []int{0, 1, 2, 15}, op(9, 3), op(8)),
	)
	return j, m, fromHex(t, "04"+
		"03"+"00 01  05 00"+"05 02  03 01 12  80 01 00"+"ac 02 01  05 01 01"+
		"02"+"07 c8 01  04 00 01 02 0f  02 09 01 06 08 00"+"08 00  00  01 01 00"+
		"03"+"02 05"+"0a 80 01"+"ac 02 03")
}

func TestPack(t *testing.T) {
	if p := made(t, 2, 1).Pack(); !bytes.Equal(p, []byte{0, 0, 0, 0}) {
		t.Fatalf("Pack of nothing = %x", p)
	}
	j, m, want := whole(t)
	for range 2 {
		if p := j.Pack(); !bytes.Equal(p, want) {
			t.Fatalf("Pack = %x, want %x", p, want)
		}
		mustHold(t, j, m)
	}
}

func TestUnpackOfPacked(t *testing.T) {
	_, m, p := whole(t)
	k := made(t, 2, 1)
	must(t, "Unpack", k.Unpack(p), api.OK)
	mustHold(t, k, m)
	must(t, "Unpack once more", k.Unpack(p), api.ErrState)
	mustHold(t, k, m)

	// It goes on as the one that was packed.
	for _, n := range []note.Note{committed(7, 201), aborted(8), prepared(8, 0, nil, op(8, 4)), committed(8, 202), swept(300)} {
		must(t, told(n), k.Apply(n), api.OK)
		must(t, told(n), m.apply(n), api.OK)
		mustHold(t, k, m)
	}

	// Its number isn't in the bytes: another juror asks others.
	other := made(t, 15, 1)
	must(t, "Unpack", other.Unpack(p), api.OK)
	if got, want := told(other.Wake()), told(slices.Concat(mail(0, probe(7)), mail(1, probe(7)), mail(2, probe(7)), mail(0, probe(8)))); got != want {
		t.Fatalf("Wake = %s, want %s", got, want)
	}
	// Nor is its dim: there may be no such juror.
	must(t, "Unpack", made(t, 2, 2).Unpack(p), api.ErrForm)
}

// rightBytes is of jurors that there may be.
var rightBytes = []string{
	"00 00 00 00",
	// Marks.
	"01 00 00 00", "80 80 80 80 80 20 00 00 00",
	// Chains: IDs at their edges, stamps at theirs, deletes, versions below the mark.
	"00 01 05 01 03 01 12 00 00", "00 01 05 01 03 00 00 00",
	"00 02 00 01 03 00 80 80 80 80 80 20 01 03 01 02 00 00",
	"00 01 05 02 01 00 80 80 80 80 80 20 00 00 00",
	"09 01 05 02 03 01 12 04 01 12 00 00",
	"00 01 05 01 03 01 80 80 80 80 02 00 00", "00 01 05 01 03 01 ff ff ff ff 01 00 00",
	// Intents: Txns at their edges, Afters, Parts, ops that don't rise.
	"00 00 01 07 01 02 01 02 01 09 01 06 00", "00 00 01 07 00 00 01 09 00 00",
	"00 00 02 00 00 00 01 01 00 ff ff ff ff ff ff ff ff ff 01 00 00 01 02 00 00",
	"00 00 01 07 80 80 80 80 80 20 00 01 09 00 00",
	"00 00 01 07 00 04 00 01 0e 0f 01 09 00 00",
	"00 00 01 07 00 00 03 09 00 00 01 04 80 80 80 80 80 20 00 00",
	"00 00 01 07 00 00 10 01 00 02 00 03 00 04 00 05 00 06 00 07 00 08 00 09 00 0a 00 0b 00 0c 00 0d 00 0e 00 0f 00 10 00 00",
	// Committed ones: Txns and stamps at their edges, stamps that come twice or fall, a Txn that is an intent, too.
	"00 00 00 01 07 03", "00 00 00 02 00 01 ff ff ff ff ff ff ff ff ff 01 80 80 80 80 80 20",
	"00 00 00 02 07 03 08 03", "00 00 00 02 07 03 08 02", "00 00 01 07 00 00 01 09 00 01 07 03",
}

func TestUnpackOfRightBytes(t *testing.T) {
	for _, s := range rightBytes {
		j, p := made(t, 2, 1), fromHex(t, s)
		must(t, "Unpack of "+s, j.Unpack(p), api.OK)
		if got := j.Pack(); !bytes.Equal(got, p) {
			t.Fatalf("%x became %x", p, got)
		}
	}
}

// wrongBytes is of no juror that there may be.
var wrongBytes = []string{
	// Not all is there, or more is; numbers in a longer form, or past 2^64 - 1.
	"", "00", "00 00", "00 00 00", "00 00 00 00 00", "80 00 00 00 00", "00 80 00 00 00", "00 00 80 00 00", "00 00 00 80 00", "00 00 00 80",
	"00 00 00 01 87 00 03", "00 00 00 01 ff ff ff ff ff ff ff ff ff 02 03",
	// A mark above.
	"81 80 80 80 80 20 00 00 00", "ff ff ff ff ff ff ff ff ff 01 00 00 00",
	// Chains: IDs that fall, that come twice, that are above; no versions; stamps of 0, above, that fall, that come twice.
	"00 02 05 01 03 00 04 01 03 00 00 00", "00 02 05 01 03 00 05 01 03 00 00 00", "00 02 00 01 03 00 00 01 04 00 00 00",
	"00 03 04 01 03 00 06 01 03 00 05 01 03 00 00 00",
	"00 01 81 80 80 80 80 20 01 03 00 00 00",
	"00 01 05 00 00 00", "00 02 05 01 03 00 06 00 00 00",
	"00 01 05 01 00 01 12 00 00", "00 01 05 01 00 00 00 00", "00 01 05 01 81 80 80 80 80 20 00 00 00",
	"00 01 05 02 03 00 02 00 00 00", "00 01 05 02 03 00 03 00 00 00",
	// Vectors of another dim, that are too great, or that no int32 is.
	"00 01 05 01 03 02 12 12 00 00", "00 01 05 01 03 01 82 80 80 80 02 00 00", "00 01 05 01 03 01 81 80 80 80 02 00 00", "00 01 05 01 03 01 80 80 80 80 10 00 00",
	"00 01 05 01 03 09 02 02 02 02 02 02 02 02 02 00 00",
	// Intents: Txns that fall, that come twice; After above.
	"00 00 02 07 00 00 01 09 00 06 00 00 01 0a 00 00", "00 00 02 07 00 00 01 09 00 07 00 00 01 0a 00 00", "00 00 02 00 00 00 01 09 00 00 00 00 01 0a 00 00",
	"00 00 03 05 00 00 01 09 00 07 00 00 01 0a 00 06 00 00 01 0b 00 00",
	"00 00 01 07 81 80 80 80 80 20 00 01 09 00 00",
	// Parts that fall, that come twice, that are none, too many.
	"00 00 01 07 00 02 02 01 01 09 00 00", "00 00 01 07 00 02 02 02 01 09 00 00", "00 00 01 07 00 01 10 01 09 00 00",
	"00 00 01 07 00 01 ff ff ff ff ff ff ff ff ff 01 01 09 00 00", "00 00 01 07 00 05 01 02 03 04 05 01 09 00 00",
	// Ops: none, too many, an ID above, twice one ID, vectors that aren't right.
	"00 00 01 07 00 00 00 00",
	"00 00 01 07 00 00 11 01 00 02 00 03 00 04 00 05 00 06 00 07 00 08 00 09 00 0a 00 0b 00 0c 00 0d 00 0e 00 0f 00 10 00 11 00 00",
	"00 00 01 07 00 00 01 81 80 80 80 80 20 00 00", "00 00 01 07 00 00 02 09 00 09 00 00",
	"00 00 01 07 00 00 01 09 02 12 12 00", "00 00 01 07 00 00 01 09 01 82 80 80 80 02 00", "00 00 01 07 00 00 01 09 01 80 80 80 80 10 00",
	// Two intents that hold one ID.
	"00 00 02 07 00 00 02 09 00 0a 00 08 00 00 02 0b 00 0a 00 00",
	// Committed ones: Txns that fall, that come twice; stamps of 0, and above.
	"00 00 00 02 07 03 06 04", "00 00 00 02 07 03 07 03", "00 00 00 02 07 03 07 04", "00 00 00 02 00 03 00 03", "00 00 00 03 05 01 07 02 06 03",
	"00 00 00 01 07 00", "00 00 00 02 07 03 08 00", "00 00 00 01 00 00", "00 00 00 01 07 81 80 80 80 80 20",
	// Counts greater and less than what is there.
	"00 02 05 01 03 00 00 00", "00 00 05 01 03 00 00 00", "00 01 05 02 03 00 00 00", "00 01 05 00 03 00 00 00",
	"00 00 02 07 00 00 01 09 00 00", "00 00 00 07 00 00 01 09 00 00", "00 00 01 07 00 00 02 09 00 00", "00 00 01 07 00 01 01 09 00 00", "00 00 01 07 00 00 01 09 01 00",
	"00 00 00 02 07 03", "00 00 00 01 07 03 08 04", "00 00 00 00 07 03", "00 00 00 01", "00 00 00 01 07",
	// Counts beyond all.
	"00 ff ff ff ff ff ff ff ff ff 01 00 00", "00 01 05 ff ff ff ff ff ff ff ff ff 01 03 00 00 00", "00 00 ff ff ff ff ff ff ff ff ff 01 00",
	"00 00 01 07 00 ff ff ff ff ff ff ff ff ff 01 01 09 00 00", "00 00 01 07 00 00 ff ff ff ff ff ff ff ff ff 01 09 00 00", "00 00 00 ff ff ff ff ff ff ff ff ff 01",
	"00 01 05 01 03 ff ff ff ff ff ff ff ff ff 01 00 00", "00 00 00 ff ff ff ff ff ff ff ff 7f 07 03", "00 ff ff ff ff 0f 05 01 03 00 00 00",
}

// mustRefuse asks that bytes are refused, and leave a juror as it was.
func mustRefuse(t *testing.T, p []byte) {
	t.Helper()
	j, m := with(t)
	if e := j.Unpack(p); e != api.ErrForm {
		t.Fatalf("Unpack of %x = %d, want %d", p, e, api.ErrForm)
	}
	mustHold(t, j, m)
	_, m, right := whole(t)
	must(t, "Unpack of right bytes behind wrong ones", j.Unpack(right), api.OK)
	mustHold(t, j, m)
	must(t, "Unpack of wrong bytes, not empty", j.Unpack(p), api.ErrForm)
	mustHold(t, j, m)
}

func TestUnpackOfWrongBytes(t *testing.T) {
	for _, s := range wrongBytes {
		mustRefuse(t, fromHex(t, s))
	}
	mustRefuse(t, nil)
	_, _, p := whole(t)
	for cut := range p {
		mustRefuse(t, p[:cut])
	}
	for last := range 256 {
		mustRefuse(t, append(slices.Clone(p), byte(last)))
	}
	mustRefuse(t, slices.Concat(p, p))
}

// TestUnpackOfManyBytes: however much is said to be there, it ends.
func TestUnpackOfManyBytes(t *testing.T) {
	for _, head := range []string{"00", "00 01 05", "00 00", "00 00 01 07 00 00", "00 00 00"} {
		for _, filler := range []byte{0, 1, 0x7f, 0x80, 0xff} {
			for _, count := range [][]byte{{0xa0, 0x8d, 0x06}, {0x80, 0x80, 0x08}, {0xff, 0xff, 0xff, 0x7f}} {
				p := slices.Concat(fromHex(t, head), count, bytes.Repeat([]byte{filler}, 100000))
				must(t, "Unpack", made(t, 2, 1).Unpack(p), api.ErrForm)
			}
		}
	}
}

// TestUnpackNotEmpty: each thing that a juror may have makes it one that isn't empty.
func TestUnpackNotEmpty(t *testing.T) {
	for _, s := range rightBytes[1:] {
		j, p := made(t, 2, 1), fromHex(t, s)
		must(t, "Unpack of "+s, j.Unpack(p), api.OK)
		for _, right := range rightBytes {
			must(t, "Unpack of "+right+" behind "+s, j.Unpack(fromHex(t, right)), api.ErrState)
		}
		for _, wrong := range wrongBytes {
			must(t, "Unpack of "+wrong+" behind "+s, j.Unpack(fromHex(t, wrong)), api.ErrForm)
		}
		if got := j.Pack(); !bytes.Equal(got, p) {
			t.Fatalf("%x became %x", p, got)
		}
	}
	// Where all is gone it is empty again.
	j, _ := with(t, prepared(7, 1, []int{1}, op(3, 9)), aborted(7), swept(0))
	_, m, p := whole(t)
	must(t, "Unpack of nothing", j.Unpack([]byte{0, 0, 0, 0}), api.OK)
	must(t, "Unpack", j.Unpack(p), api.OK)
	mustHold(t, j, m)
}

// TestUnpackOfAnything: whatever the bytes are, they are refused, or they are those of what was made of them.
func TestUnpackOfAnything(t *testing.T) {
	r := rand.New(rand.NewSource(16))
	_, _, sample := whole(t)
	taken := 0
	for range 100000 {
		p := someBytes(r, sample)
		j := made(t, 2, 1)
		switch e := j.Unpack(p); e {
		case api.OK:
			taken++
			if got := j.Pack(); !bytes.Equal(got, p) {
				t.Fatalf("%x became %x", p, got)
			}
		case api.ErrForm:
			if got := j.Pack(); !bytes.Equal(got, []byte{0, 0, 0, 0}) {
				t.Fatalf("%x was refused and became %x", p, got)
			}
		default:
			t.Fatalf("Unpack of %x = %d", p, e)
		}
	}
	if taken < 1000 {
		t.Fatalf("of the bytes only %d were a juror's", taken)
	}
}

// someBytes is few small ones, or the sample's, harmed.
func someBytes(r *rand.Rand, sample []byte) []byte {
	var p []byte
	if r.Intn(2) == 0 {
		for range 4 + r.Intn(8) {
			p = append(p, byte(r.Intn(3)))
		}
		return p
	}
	p = slices.Clone(sample)
	for range 1 + r.Intn(2) {
		switch at := r.Intn(len(p)); r.Intn(3) {
		case 0:
			p[at] = byte(r.Intn(256))
		case 1:
			p = slices.Insert(p, at, byte(r.Intn(256)))
		default:
			p = slices.Delete(p, at, at+1)
		}
	}
	return p
}
