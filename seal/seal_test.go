package seal_test

import (
	"bytes"
	"hash/crc32"
	"math/rand"
	"testing"

	"armillary/api"
	"armillary/seal"
)

// mustFrame is a frame of parts that are short enough.
func mustFrame(t *testing.T, parts ...[]byte) []byte {
	t.Helper()
	p, e := seal.Frame(parts...)
	if e != api.OK {
		t.Fatalf("Frame: error %d", e)
	}
	return p
}

// sealed is bytes with the right sum in front, whatever they say of their size.
func sealed(behind ...byte) []byte {
	s := crc32.ChecksumIEEE(behind)
	return append([]byte{byte(s), byte(s >> 8), byte(s >> 16), byte(s >> 24)}, behind...)
}

func join(parts ...[]byte) []byte {
	return bytes.Join(parts, nil)
}

func TestSumExamples(t *testing.T) {
	for _, c := range []struct {
		parts [][]byte
		want  uint32
	}{
		{[][]byte{[]byte("123456789")}, 0xcbf43926},
		{[][]byte{[]byte("1"), nil, []byte("2345678"), {}, []byte("9")}, 0xcbf43926},
		{[][]byte{{0, 0}}, 0x41d912ff},
		{nil, 0},
		{[][]byte{nil, {}}, 0},
	} {
		if got := seal.Sum(c.parts...); got != c.want {
			t.Errorf("Sum(%q) = %x, want %x", c.parts, got, c.want)
		}
	}
}

func TestSumIsCRC32(t *testing.T) {
	for b := range 256 {
		p := []byte{byte(b)}
		if got, want := seal.Sum(p), crc32.ChecksumIEEE(p); got != want {
			t.Fatalf("Sum(%x) = %x, want %x", p, got, want)
		}
	}
	r := rand.New(rand.NewSource(1))
	for range 500 {
		p := make([]byte, r.Intn(300))
		r.Read(p)
		cut := r.Intn(len(p) + 1)
		if got, want := seal.Sum(p[:cut], p[cut:]), crc32.ChecksumIEEE(p); got != want {
			t.Fatalf("Sum(%x) cut at %d = %x, want %x", p, cut, got, want)
		}
	}
}

func TestFrameExamples(t *testing.T) {
	empty := []byte{0xff, 0x12, 0xd9, 0x41, 0, 0}
	for _, parts := range [][][]byte{nil, {nil}, {{}, nil, {}}} {
		if got := mustFrame(t, parts...); !bytes.Equal(got, empty) {
			t.Errorf("Frame(%q) = %x, want %x", parts, got, empty)
		}
	}
	want := sealed(3, 0, 'a', 'b', 'c')
	if got := mustFrame(t, []byte("ab"), nil, []byte("c")); !bytes.Equal(got, want) {
		t.Errorf("Frame(ab, c) = %x, want %x", got, want)
	}
	long := bytes.Repeat([]byte{7}, 0x1234-0x1000)
	want = sealed(append([]byte{0x34, 0x02}, long...)...)
	if got := mustFrame(t, long); !bytes.Equal(got, want) {
		t.Errorf("Frame of %d bytes begins with %x, want %x", len(long), got[:6], want[:6])
	}
}

func TestFrameMost(t *testing.T) {
	most := make([]byte, api.MaxFrame)
	p := mustFrame(t, most)
	if len(p) != api.MaxFrame+6 || p[4] != 0 || p[5] != 16 {
		t.Fatalf("a frame of MaxFrame bytes: %d bytes, size %x", len(p), p[4:6])
	}
	if got, e := seal.Open(p); e != api.OK || !bytes.Equal(got, most) {
		t.Fatalf("Open of it: %d bytes, error %d", len(got), e)
	}
	if p := mustFrame(t, most[:4000], most[:96], nil); len(p) != api.MaxFrame+6 {
		t.Fatalf("MaxFrame bytes in two parts: %d bytes", len(p))
	}
	for _, parts := range [][][]byte{
		{make([]byte, api.MaxFrame+1)},
		{most, {1}},
		{{1}, most},
		{most[:4000], most[:97]},
		{most, most, most},
		{make([]byte, 1<<16)},
		{make([]byte, 1<<16), {}},
	} {
		if p, e := seal.Frame(parts...); e != api.ErrLong || len(p) != 0 {
			t.Errorf("Frame of too much: %d bytes, error %d", len(p), e)
		}
	}
}

func TestNext(t *testing.T) {
	a, b, tail := mustFrame(t, []byte("abc")), mustFrame(t), []byte{1, 2, 3}
	carried, behind, e := seal.Next(join(a, b, tail))
	if e != api.OK || string(carried) != "abc" || !bytes.Equal(behind, join(b, tail)) {
		t.Fatalf("Next: %q, %x, error %d", carried, behind, e)
	}
	carried, behind, e = seal.Next(behind)
	if e != api.OK || len(carried) != 0 || !bytes.Equal(behind, tail) {
		t.Fatalf("Next of no bytes: %q, %x, error %d", carried, behind, e)
	}
	carried, behind, e = seal.Next(a)
	if e != api.OK || string(carried) != "abc" || len(behind) != 0 {
		t.Fatalf("Next of just a frame: %q, %x, error %d", carried, behind, e)
	}
}

// wrong are bytes with no frame in front, and what is told of them; Open tells the same.
func wrong(t *testing.T) []struct {
	name string
	p    []byte
	want api.Errno
} {
	good := mustFrame(t, []byte("abc"))
	turned := func(at int) []byte {
		p := bytes.Clone(good)
		p[at] ^= 0x10
		return p
	}
	full := mustFrame(t, make([]byte, api.MaxFrame))
	full[len(full)-1] ^= 1
	return []struct {
		name string
		p    []byte
		want api.Errno
	}{
		{"nil", nil, api.ErrShort},
		{"none", []byte{}, api.ErrShort},
		{"one byte", good[:1], api.ErrShort},
		{"five bytes", good[:5], api.ErrShort},
		{"five bytes that would say too much", []byte{0, 0, 0, 0, 255}, api.ErrShort},
		{"six bytes of nine", good[:6], api.ErrShort},
		{"eight bytes of nine", good[:8], api.ErrShort},
		{"short, and a wrong sum", turned(0)[:8], api.ErrShort},
		{"MaxFrame said, and not there", []byte{0, 0, 0, 0, 0, 16}, api.ErrShort},
		{"one more than MaxFrame said, and not there", []byte{0, 0, 0, 0, 1, 16}, api.ErrLong},
		{"most said, and not there", []byte{0, 0, 0, 0, 255, 255}, api.ErrLong},
		{"one more than MaxFrame, all there, a right sum", sealed(append([]byte{1, 16}, make([]byte, api.MaxFrame+1)...)...), api.ErrLong},
		{"one more than MaxFrame, all there, a wrong sum", append([]byte{0, 0, 0, 0, 1, 16}, make([]byte, api.MaxFrame+1)...), api.ErrLong},
		{"the sum's first byte turned", turned(0), api.ErrSum},
		{"the sum's last byte turned", turned(3), api.ErrSum},
		{"a byte turned", turned(6), api.ErrSum},
		{"the last byte turned", turned(8), api.ErrSum},
		{"a lesser size", []byte{good[0], good[1], good[2], good[3], 2, 0, 'a', 'b'}, api.ErrSum},
		{"MaxFrame bytes, the last turned", full, api.ErrSum},
		{"noughts", make([]byte, 6), api.ErrSum},
		{"the sum without the size", append([]byte{0xc2, 0x41, 0x24, 0x35, 3, 0}, "abc"...), api.ErrSum},
	}
}

func TestNextWrong(t *testing.T) {
	for _, c := range wrong(t) {
		if a, b, e := seal.Next(c.p); e != c.want || len(a) != 0 || len(b) != 0 {
			t.Errorf("%s: Next: %d and %d bytes, error %d, want %d", c.name, len(a), len(b), e, c.want)
		}
		if a, e := seal.Open(c.p); e != c.want || len(a) != 0 {
			t.Errorf("%s: Open: %d bytes, error %d, want %d", c.name, len(a), e, c.want)
		}
		if l, at := seal.All(c.p); len(l) != 0 || at != 0 {
			t.Errorf("%s: All: %d frames, up to %d", c.name, len(l), at)
		}
	}
}

func TestNextFindsEachTurnedBit(t *testing.T) {
	good := mustFrame(t, []byte("armillary"))
	for bit := range 8 * len(good) {
		p := bytes.Clone(good)
		p[bit/8] ^= 1 << (bit % 8)
		if _, _, e := seal.Next(p); e == api.OK {
			t.Errorf("bit %d turned, and nothing is said", bit)
		}
	}
}

func TestOpen(t *testing.T) {
	p := mustFrame(t, []byte("abc"))
	if got, e := seal.Open(p); e != api.OK || string(got) != "abc" {
		t.Fatalf("Open: %q, error %d", got, e)
	}
	if got, e := seal.Open(mustFrame(t)); e != api.OK || len(got) != 0 {
		t.Fatalf("Open of no bytes: %q, error %d", got, e)
	}
	for _, behind := range [][]byte{{0}, p, make([]byte, 5000)} {
		if got, e := seal.Open(join(p, behind)); e != api.ErrForm || len(got) != 0 {
			t.Errorf("Open with %d bytes behind: %q, error %d", len(behind), got, e)
		}
	}
	p[8] ^= 1
	if got, e := seal.Open(join(p, []byte{0})); e != api.ErrSum || len(got) != 0 {
		t.Errorf("Open of no frame with a byte behind: %q, error %d", got, e)
	}
}

func TestAll(t *testing.T) {
	a, b, c := mustFrame(t, []byte("abc")), mustFrame(t), mustFrame(t, make([]byte, api.MaxFrame))
	turned := bytes.Clone(a)
	turned[7] ^= 1
	for _, x := range []struct {
		name string
		p    []byte
		want []string
		at   int
	}{
		{"nil", nil, nil, 0},
		{"junk", []byte("junk and more of it"), nil, 0},
		{"one", a, []string{"abc"}, 9},
		{"three", join(a, b, c), []string{"abc", "", string(make([]byte, api.MaxFrame))}, 9 + 6 + 4102},
		{"a tail", join(a, b, []byte{1, 2, 3}), []string{"abc", ""}, 15},
		{"a frame that isn't all there", join(b, a, c[:4101]), []string{"", "abc"}, 15},
		{"a wrong sum, and a frame behind", join(a, turned, b), []string{"abc"}, 9},
		{"too long", join(b, []byte{0, 0, 0, 0, 1, 16}, b), []string{""}, 6},
	} {
		l, at := seal.All(x.p)
		if at != x.at || len(l) != len(x.want) {
			t.Errorf("%s: %d frames up to %d, want %d up to %d", x.name, len(l), at, len(x.want), x.at)
			continue
		}
		for i := range l {
			if string(l[i]) != x.want[i] {
				t.Errorf("%s: frame %d is %q, want %q", x.name, i, l[i], x.want[i])
			}
		}
	}
}

func TestAllOfManyFrames(t *testing.T) {
	const count = 200000
	p := bytes.Repeat(mustFrame(t, []byte{5}), count)
	if l, at := seal.All(p); len(l) != count || at != len(p) {
		t.Fatalf("%d frames up to %d", len(l), at)
	}
}

// fill writes over a list and its spare room.
func fill(p []byte) {
	p = p[:cap(p)]
	for i := range p {
		p[i] = 0xee
	}
}

// roomy is a text with spare room behind it.
func roomy(text string) []byte {
	return append(make([]byte, 0, len(text)+32), text...)
}

func TestArgumentsStay(t *testing.T) {
	a, b := roomy("ab"), roomy("c")
	wholeA, wholeB := bytes.Clone(a[:cap(a)]), bytes.Clone(b[:cap(b)])
	p := mustFrame(t, a, b)
	seal.Sum(a, b)
	fill(p)
	if !bytes.Equal(a[:cap(a)], wholeA) || !bytes.Equal(b[:cap(b)], wholeB) {
		t.Error("Frame or Sum has changed what was handed in")
	}
	q := roomy(string(join(mustFrame(t, []byte("abc")), mustFrame(t, []byte("de")))))
	one := roomy(string(mustFrame(t, []byte("abc"))))
	wholeQ, wholeOne := bytes.Clone(q[:cap(q)]), bytes.Clone(one[:cap(one)])
	carried, behind, _ := seal.Next(q)
	opened, _ := seal.Open(one)
	l, _ := seal.All(q)
	fill(carried)
	fill(behind)
	fill(opened)
	for _, x := range l {
		fill(x)
	}
	if !bytes.Equal(q[:cap(q)], wholeQ) || !bytes.Equal(one[:cap(one)], wholeOne) {
		t.Error("Next, Open or All share what was handed in")
	}
}

func TestAnswersAreTheirOwn(t *testing.T) {
	part := []byte("abc")
	p := mustFrame(t, part)
	q := join(p, mustFrame(t, []byte("de")))
	carried, behind, _ := seal.Next(q)
	opened, _ := seal.Open(p)
	l, _ := seal.All(q)
	want := bytes.Clone(p)
	fill(part)
	fill(q)
	if !bytes.Equal(p, want) || string(carried) != "abc" || string(opened) != "abc" || len(behind) != 8 || string(behind[6:]) != "de" {
		t.Error("an answer shares what was handed in")
	}
	if len(l) != 2 || string(l[0]) != "abc" || string(l[1]) != "de" {
		t.Fatal("All shares what was handed in")
	}
	fill(p)
	fill(carried)
	fill(l[0])
	if string(opened) != "abc" || string(behind[6:]) != "de" || string(l[1]) != "de" {
		t.Error("two answers share memory")
	}
}

func TestAnyBytes(t *testing.T) {
	r := rand.New(rand.NewSource(2))
	for range 2000 {
		p := make([]byte, r.Intn(40))
		r.Read(p)
		if len(p) > 5 && r.Intn(2) == 0 {
			p[4], p[5] = byte(len(p)-6), 0
			copy(p, sealed(p[4:]...))
		}
		carried, behind, e := seal.Next(p)
		opened, e2 := seal.Open(p)
		if e != e2 && e2 != api.ErrForm {
			t.Fatalf("%x: Next answers %d, Open %d", p, e, e2)
		}
		if e == api.OK && !bytes.Equal(join(mustFrame(t, carried), behind), p) {
			t.Fatalf("%x: Next tells %x, %x", p, carried, behind)
		}
		if e2 == api.OK && !bytes.Equal(mustFrame(t, opened), p) {
			t.Fatalf("%x: Open tells %x", p, opened)
		}
		l, at := seal.All(p)
		var all []byte
		for _, x := range l {
			all = append(all, mustFrame(t, x)...)
		}
		if !bytes.Equal(all, p[:at]) {
			t.Fatalf("%x: All tells %x up to %d", p, l, at)
		}
		if _, _, e := seal.Next(p[at:]); e == api.OK {
			t.Fatalf("%x: All ends at %d, ahead of a frame", p, at)
		}
	}
}
