package scroll_test

import (
	"bytes"
	"encoding/binary"
	"math"
	"math/big"
	"math/rand"
	"slices"
	"testing"

	"armillary/api"
	"armillary/scroll"
)

func written() *scroll.Writer {
	return &scroll.Writer{}
}

// long is a byte, many times, and others behind.
func long(b byte, count int, behind ...byte) []byte {
	return append(bytes.Repeat([]byte{b}, count), behind...)
}

func TestNums(t *testing.T) {
	for _, c := range []struct {
		nums []uint64
		want []byte
	}{
		{nil, nil},
		{[]uint64{5, 300}, []byte{5, 0xac, 2}},
		{[]uint64{0}, []byte{0}},
		{[]uint64{127, 128}, []byte{0x7f, 0x80, 1}},
		{[]uint64{16383, 16384}, []byte{0xff, 0x7f, 0x80, 0x80, 1}},
		{[]uint64{1 << 63}, long(0x80, 9, 1)},
		{[]uint64{math.MaxUint64}, long(0xff, 9, 1)},
	} {
		if got := written().Nums(c.nums...).Bytes(); !bytes.Equal(got, c.want) {
			t.Errorf("Nums(%d) = %x, want %x", c.nums, got, c.want)
		}
	}
}

func TestNumsAreVarints(t *testing.T) {
	for shift := range 64 {
		for _, n := range []uint64{1<<shift - 1, 1 << shift, 1<<shift + 1} {
			want := binary.AppendUvarint(nil, n)
			got := written().Nums(n).Bytes()
			if !bytes.Equal(got, want) {
				t.Fatalf("Nums(%d) = %x, want %x", n, got, want)
			}
			r := scroll.NewReader(got)
			if m := r.Num(n); m != n || r.End() != api.OK || r.Left() != 0 {
				t.Fatalf("Num of %x = %d, End %d", got, m, r.End())
			}
		}
	}
}

func TestText(t *testing.T) {
	long := bytes.Repeat([]byte("x"), 130)
	for _, c := range []struct {
		texts [][]byte
		want  []byte
	}{
		{nil, nil},
		{[][]byte{nil}, []byte{0}},
		{[][]byte{{}, []byte("hi"), nil, {0x80}}, []byte{0, 2, 'h', 'i', 0, 1, 0x80}},
		{[][]byte{long}, append([]byte{0x82, 1}, long...)},
	} {
		if got := written().Text(c.texts...).Bytes(); !bytes.Equal(got, c.want) {
			t.Errorf("Text(%q) = %x, want %x", c.texts, got, c.want)
		}
	}
}

func TestVecs(t *testing.T) {
	for _, c := range []struct {
		vectors [][]int32
		want    []byte
	}{
		{nil, nil},
		{[][]int32{nil, {}}, []byte{0, 0}},
		{[][]int32{{1, -1}}, []byte{2, 2, 1}},
		{[][]int32{{0}, {-2, 2, 63, -64, 64}}, []byte{1, 0, 5, 3, 4, 126, 127, 0x80, 1}},
		{[][]int32{{math.MaxInt32, math.MinInt32}}, []byte{2, 0xfe, 255, 255, 255, 15, 255, 255, 255, 255, 15}},
	} {
		if got := written().Vecs(c.vectors...).Bytes(); !bytes.Equal(got, c.want) {
			t.Errorf("Vecs(%d) = %x, want %x", c.vectors, got, c.want)
		}
	}
}

func TestVecsAreVarints(t *testing.T) {
	for shift := range 32 {
		for _, n := range []int32{1<<shift - 1, -1 << shift, 1 - 1<<shift} {
			want := binary.AppendVarint([]byte{1}, int64(n))
			got := written().Vecs([]int32{n}).Bytes()
			if !bytes.Equal(got, want) {
				t.Fatalf("Vecs(%d) = %x, want %x", n, got, want)
			}
			r := scroll.NewReader(got)
			if v := r.Vec(1); !slices.Equal(v, []int32{n}) || r.End() != api.OK {
				t.Fatalf("Vec of %x = %d, End %d", got, v, r.End())
			}
		}
	}
}

func TestWriterIsAnsweredAgain(t *testing.T) {
	w := written()
	if len(w.Bytes()) != 0 {
		t.Error("the zero Writer has something")
	}
	if w.Nums() != w || w.Nums(1) != w || w.Text() != w || w.Text([]byte("a")) != w || w.Vecs() != w || w.Vecs([]int32{3}) != w {
		t.Error("another Writer was answered")
	}
	if got := w.Bytes(); !bytes.Equal(got, []byte{1, 1, 'a', 1, 6}) {
		t.Errorf("Bytes: %x", got)
	}
	if got := w.Nums(7).Bytes(); !bytes.Equal(got, []byte{1, 1, 'a', 1, 6, 7}) {
		t.Errorf("Bytes of more: %x", got)
	}
}

func TestNilWriter(t *testing.T) {
	var w *scroll.Writer
	if w.Nums(1) != nil || w.Text([]byte("a")) != nil || w.Vecs([]int32{1}) != nil || len(w.Bytes()) != 0 {
		t.Error("a nil Writer has something")
	}
	if w.Nums() != nil || w.Text(nil) != nil || w.Vecs(nil).Nums(4) != nil {
		t.Error("a nil Writer is another one")
	}
}

func TestNilReader(t *testing.T) {
	var r *scroll.Reader
	if r.Num(math.MaxUint64) != 0 || len(r.Text(9)) != 0 || len(r.Vec(9)) != 0 || r.End() != api.OK || r.Left() != 0 {
		t.Error("a nil Reader isn't one of no bytes")
	}
}

func TestReaderOfNoBytes(t *testing.T) {
	for _, p := range [][]byte{nil, {}} {
		r := scroll.NewReader(p)
		if r == nil || r.End() != api.OK || r.Left() != 0 {
			t.Fatal("a Reader of no bytes isn't at its end")
		}
		asks := []func(*scroll.Reader){
			func(r *scroll.Reader) { r.Num(9) },
			func(r *scroll.Reader) { r.Text(9) },
			func(r *scroll.Reader) { r.Vec(9) },
		}
		for i, ask := range asks {
			r := scroll.NewReader(p)
			ask(r)
			if r.End() != api.ErrShort || r.Left() != 0 {
				t.Errorf("ask %d: End %d, Left %d", i, r.End(), r.Left())
			}
		}
	}
}

func TestReadsWhatWasWritten(t *testing.T) {
	p := written().Nums(5, 300).Text([]byte("hi"), nil).Vecs([]int32{1, -1, math.MinInt32}, nil).Nums(7).Bytes()
	r := scroll.NewReader(p)
	if r.Left() != len(p) || r.End() != api.ErrForm {
		t.Fatalf("at the beginning: Left %d, End %d", r.Left(), r.End())
	}
	a, b, left := r.Num(5), r.Num(300), r.Left()
	if a != 5 || b != 300 || left != len(p)-3 {
		t.Fatalf("Num: %d, %d, Left %d", a, b, left)
	}
	c, d, left := r.Text(2), r.Text(0), r.Left()
	if string(c) != "hi" || len(d) != 0 || left != len(p)-7 {
		t.Fatalf("Text: %q, %q, Left %d", c, d, left)
	}
	e, f := r.Vec(3), r.Vec(-1)
	if !slices.Equal(e, []int32{1, -1, math.MinInt32}) || len(f) != 0 || r.Left() != 1 || r.End() != api.ErrForm {
		t.Fatalf("Vec: %d, %d, Left %d, End %d", e, f, r.Left(), r.End())
	}
	if g := r.Num(9); g != 7 || r.End() != api.OK || r.Left() != 0 {
		t.Fatalf("Num: %d, Left %d, End %d", g, r.Left(), r.End())
	}
	if r.Num(9) != 0 || r.End() != api.ErrShort {
		t.Fatalf("behind the end: End %d", r.End())
	}
}

func TestNumWrong(t *testing.T) {
	for _, c := range []struct {
		name string
		p    []byte
		most uint64
		want api.Errno
	}{
		{"one more follows, and isn't there", []byte{0x80}, 10, api.ErrShort},
		{"not all there, and above most", []byte{0xff, 0xff}, 10, api.ErrShort},
		{"not all there, however long", long(0xff, 11), math.MaxUint64, api.ErrShort},
		{"80 00", []byte{0x80, 0}, 10, api.ErrForm},
		{"a nought behind", []byte{0x85, 0x80, 0}, 10, api.ErrForm},
		{"a nought behind, and above most", []byte{0xff, 0}, 10, api.ErrForm},
		{"a nought behind the most bytes", long(0xff, 10, 0), math.MaxUint64, api.ErrForm},
		{"2^64", long(0x80, 9, 2), math.MaxUint64, api.ErrForm},
		{"2^64 and above most", long(0x80, 9, 2), 10, api.ErrForm},
		{"2^64 + 1", long(0x81, 1, long(0x80, 8, 2)...), math.MaxUint64, api.ErrForm},
		{"ten bytes, far above", long(0xff, 9, 0x7f), math.MaxUint64, api.ErrForm},
		{"eleven bytes", long(0x80, 10, 1), math.MaxUint64, api.ErrForm},
		{"thirty bytes", long(0x80, 29, 1), math.MaxUint64, api.ErrForm},
		{"one above most", []byte{11}, 10, api.ErrLong},
		{"1 above 0", []byte{1}, 0, api.ErrLong},
		{"2^64 - 1 above 2^64 - 2", long(0xff, 9, 1), math.MaxUint64 - 1, api.ErrLong},
	} {
		r := scroll.NewReader(c.p)
		n := r.Num(c.most)
		if n != 0 || r.End() != c.want || r.Left() != len(c.p) {
			t.Errorf("%s: Num: %d, End %d, want %d, Left %d of %d", c.name, n, r.End(), c.want, r.Left(), len(c.p))
		}
	}
}

func TestTextWrong(t *testing.T) {
	for _, c := range []struct {
		name string
		p    []byte
		most int
		want api.Errno
	}{
		{"no bytes of one", []byte{1}, 9, api.ErrShort},
		{"two bytes of three", []byte{3, 'a', 'b'}, 9, api.ErrShort},
		{"very many said", long(0xff, 9, 1, 'a'), math.MaxInt, api.ErrLong},
		{"very many said that are allowed", long(0xff, 8, 0x7f, 'a'), math.MaxInt, api.ErrShort},
		{"how many isn't all there", []byte{0x83}, 9, api.ErrShort},
		{"how many has a nought behind", []byte{0x81, 0, 'a'}, 9, api.ErrForm},
		{"how many is above 2^64 - 1", long(0x80, 9, 2), 9, api.ErrForm},
		{"one more than most", []byte{3, 'a', 'b', 'c'}, 2, api.ErrLong},
		{"more than most is met ahead of what isn't there", []byte{3, 'a'}, 2, api.ErrLong},
		{"one of none", []byte{1, 'a'}, 0, api.ErrLong},
		{"one, most below 0", []byte{1, 'a'}, -1, api.ErrLong},
		{"one, most far below 0", []byte{1, 'a'}, math.MinInt, api.ErrLong},
	} {
		r := scroll.NewReader(c.p)
		text := r.Text(c.most)
		if len(text) != 0 || r.End() != c.want || r.Left() != len(c.p) {
			t.Errorf("%s: Text: %q, End %d, want %d, Left %d of %d", c.name, text, r.End(), c.want, r.Left(), len(c.p))
		}
	}
}

func TestVecWrong(t *testing.T) {
	for _, c := range []struct {
		name string
		p    []byte
		most int
		want api.Errno
	}{
		{"no numbers of one", []byte{1}, 9, api.ErrShort},
		{"two numbers of three", []byte{3, 0, 1}, 9, api.ErrShort},
		{"half a number", []byte{2, 0, 0x80}, 9, api.ErrShort},
		{"very many said that are allowed", long(0xff, 8, 0x7f, 1), math.MaxInt, api.ErrShort},
		{"very many said", long(0xff, 9, 1, 1), math.MaxInt, api.ErrLong},
		{"how many isn't all there", []byte{0x82}, 9, api.ErrShort},
		{"how many has a nought behind", []byte{0x81, 0, 1}, 9, api.ErrForm},
		{"a number has a nought behind", []byte{2, 0, 0x82, 0}, 9, api.ErrForm},
		{"2^31", []byte{1, 0x80, 0x80, 0x80, 0x80, 0x10}, 9, api.ErrForm},
		{"-2^31 - 1", []byte{1, 0x81, 0x80, 0x80, 0x80, 0x10}, 9, api.ErrForm},
		{"2^64 - 1 folded", append([]byte{1}, long(0xff, 9, 1)...), 9, api.ErrForm},
		{"2^64 folded", append([]byte{1}, long(0x80, 9, 2)...), 9, api.ErrForm},
		{"no int32 is met ahead of what isn't there", []byte{3, 0x80, 0x80, 0x80, 0x80, 0x10, 0}, 9, api.ErrForm},
		{"one more than most", []byte{3, 0, 0, 0}, 2, api.ErrLong},
		{"more than most is met ahead of what isn't there", []byte{3, 0}, 2, api.ErrLong},
		{"more than most is met ahead of the form", []byte{3, 0x80, 0, 0, 0}, 2, api.ErrLong},
		{"one of none", []byte{1, 0}, 0, api.ErrLong},
		{"one, most below 0", []byte{1, 0}, -7, api.ErrLong},
	} {
		r := scroll.NewReader(c.p)
		v := r.Vec(c.most)
		if len(v) != 0 || r.End() != c.want || r.Left() != len(c.p) {
			t.Errorf("%s: Vec: %d, End %d, want %d, Left %d of %d", c.name, v, r.End(), c.want, r.Left(), len(c.p))
		}
	}
}

func TestMostCounts(t *testing.T) {
	r := scroll.NewReader([]byte{10, 3, 'a', 'b', 'c', 2, 4, 3, 0, 0})
	n, text, v := r.Num(10), r.Text(3), r.Vec(2)
	if n != 10 || string(text) != "abc" || !slices.Equal(v, []int32{2, -2}) {
		t.Fatalf("just most: %d, %q, %d", n, text, v)
	}
	if len(r.Text(-1)) != 0 || len(r.Vec(math.MinInt)) != 0 || r.End() != api.OK {
		t.Fatalf("nothing, most below 0: End %d", r.End())
	}
}

func TestNothingIsToldBehindAFault(t *testing.T) {
	for _, c := range []struct {
		p    []byte
		ask  func(*scroll.Reader)
		want api.Errno
	}{
		{[]byte{7, 9, 1, 'a', 1, 2}, func(r *scroll.Reader) { r.Num(8) }, api.ErrLong},
		{[]byte{7, 0x80, 0, 1, 'a', 1, 2}, func(r *scroll.Reader) { r.Num(8) }, api.ErrForm},
		{[]byte{7, 9, 1, 1, 1, 2}, func(r *scroll.Reader) { r.Text(9) }, api.ErrShort},
		{[]byte{7, 2, 'a', 'b', 1, 2}, func(r *scroll.Reader) { r.Text(1) }, api.ErrLong},
		{[]byte{7, 2, 0x80, 0, 1, 2}, func(r *scroll.Reader) { r.Vec(2) }, api.ErrForm},
		{[]byte{7, 5, 1, 1, 1, 2}, func(r *scroll.Reader) { r.Vec(5) }, api.ErrShort},
	} {
		r := scroll.NewReader(c.p)
		if r.Num(8) != 7 {
			t.Fatalf("%x: the first isn't there", c.p)
		}
		c.ask(r)
		for range 2 {
			if r.End() != c.want || r.Left() != len(c.p)-1 {
				t.Errorf("%x: End %d, want %d, Left %d", c.p, r.End(), c.want, r.Left())
			}
			if n, text, v := r.Num(math.MaxUint64), r.Text(9), r.Vec(9); n != 0 || len(text) != 0 || len(v) != 0 {
				t.Errorf("%x: behind it %d, %q, %d", c.p, n, text, v)
			}
		}
	}
}

func TestExampleOfTheForm(t *testing.T) {
	r := scroll.NewReader([]byte{0x80, 0})
	if n := r.Num(math.MaxUint64); n != 0 || r.End() != api.ErrForm {
		t.Fatalf("80 00: %d, End %d", n, r.End())
	}
}

func TestWriterKeepsNothing(t *testing.T) {
	text := append(make([]byte, 0, 16), "hi"...)
	v := append(make([]int32, 0, 16), 1, 2)
	nums := append(make([]uint64, 0, 16), 3)
	w := written().Text(text).Vecs(v).Nums(nums...)
	if text[:3][2] != 0 || v[:3][2] != 0 || nums[:2][1] != 0 || string(text) != "hi" || v[0] != 1 || nums[0] != 3 {
		t.Fatal("the Writer has changed what was handed in")
	}
	text[0], v[0], nums[0] = 'x', 9, 9
	want := []byte{2, 'h', 'i', 2, 2, 4, 3}
	first := w.Bytes()
	if !bytes.Equal(first, want) {
		t.Fatalf("the Writer keeps what was handed in: %x", first)
	}
	second := w.Bytes()
	_ = append(first, 0xee)
	first[0] = 0xee
	w.Nums(5)
	if !bytes.Equal(second, want) || !bytes.Equal(w.Bytes(), append(want, 5)) {
		t.Fatalf("Bytes are shared: %x, %x", second, w.Bytes())
	}
}

func TestReaderKeepsNothing(t *testing.T) {
	p := []byte{2, 'h', 'i', 2, 'h', 'o', 1, 4, 9}
	whole := bytes.Clone(p)
	r := scroll.NewReader(p)
	first := r.Text(9)
	first[0] = 'x'
	_ = append(first, 0xee, 0xee)
	if !bytes.Equal(p, whole) {
		t.Fatal("Text shares what was handed in")
	}
	for i := range p {
		p[i] = 0xee
	}
	second := r.Text(9)
	if string(second) != "ho" || string(first) != "xi" {
		t.Fatalf("the Reader keeps what was handed in, or Texts share: %q, %q", first, second)
	}
	v := r.Vec(9)
	_ = append(v, 77)
	_ = append(second, 0xee, 0xee, 0xee)
	if !slices.Equal(v, []int32{2}) || r.Num(9) != 9 || r.End() != api.OK {
		t.Fatalf("a Text's room is the Reader's: %d, End %d", v, r.End())
	}
}

// model reads as the chapter's words say it, with numbers of any size: it is slow, and plain.
type model struct {
	p     []byte
	at    int
	fault api.Errno
}

// number is the number at a place, and the place behind it.
func (m *model) number(at int, most *big.Int) (*big.Int, int, api.Errno) {
	n, end := new(big.Int), at
	for {
		if end == len(m.p) {
			return nil, 0, api.ErrShort
		}
		bits := big.NewInt(int64(m.p[end] & 0x7f))
		n.Or(n, bits.Lsh(bits, uint(7*(end-at))))
		end++
		if m.p[end-1] < 0x80 {
			break
		}
	}
	fewest := max(1, (n.BitLen()+6)/7)
	switch {
	case end-at != fewest, n.BitLen() > 64:
		return nil, 0, api.ErrForm
	case n.Cmp(most) > 0:
		return nil, 0, api.ErrLong
	}
	return n, end, api.OK
}

// list is what a text's or a vector's numbers are, and the place behind it.
func (m *model) list(most int, item func(at int) (int64, int, api.Errno)) ([]int64, int, api.Errno) {
	count, at, fault := m.number(m.at, big.NewInt(int64(max(most, 0))))
	if fault != api.OK {
		return nil, 0, fault
	}
	var l []int64
	for i := big.NewInt(0); i.Cmp(count) < 0; i.Add(i, big.NewInt(1)) {
		var n int64
		if n, at, fault = item(at); fault != api.OK {
			return nil, 0, fault
		}
		l = append(l, n)
	}
	return l, at, api.OK
}

func (m *model) oneByte(at int) (int64, int, api.Errno) {
	if at == len(m.p) {
		return 0, 0, api.ErrShort
	}
	return int64(m.p[at]), at + 1, api.OK
}

func (m *model) oneWhole(at int) (int64, int, api.Errno) {
	n, end, fault := m.number(at, new(big.Int).SetUint64(math.MaxUint64))
	if fault != api.OK {
		return 0, 0, fault
	}
	if n.BitLen() > 32 {
		return 0, 0, api.ErrForm
	}
	if n.Bit(0) == 1 {
		return -(n.Int64() + 1) / 2, end, api.OK
	}
	return n.Int64() / 2, end, api.OK
}

// ask reads the next thing: 0 a number, 1 a text, 2 a vector.
func (m *model) ask(what, most int) []int64 {
	if m.fault != api.OK {
		return nil
	}
	var l []int64
	var at int
	var fault api.Errno
	switch what {
	case 0:
		var n *big.Int
		n, at, fault = m.number(m.at, new(big.Int).SetUint64(uint64(most)))
		if fault == api.OK {
			l = []int64{int64(n.Uint64())}
		}
	case 1:
		l, at, fault = m.list(most, m.oneByte)
	default:
		l, at, fault = m.list(most, m.oneWhole)
	}
	if m.fault = fault; fault == api.OK {
		m.at = at
	}
	return l
}

func (m *model) end() api.Errno {
	if m.fault == api.OK && m.at < len(m.p) {
		return api.ErrForm
	}
	return m.fault
}

// askReader is what a Reader tells of the same.
func askReader(r *scroll.Reader, what, most int) []int64 {
	var l []int64
	switch what {
	case 0:
		l = append(l, int64(r.Num(uint64(most))))
	case 1:
		for _, b := range r.Text(most) {
			l = append(l, int64(b))
		}
	default:
		for _, n := range r.Vec(most) {
			l = append(l, int64(n))
		}
	}
	return l
}

// anyBytes are such that numbers, counts and faults are all common.
func anyBytes(random *rand.Rand) []byte {
	p := make([]byte, random.Intn(40))
	kind := random.Intn(3)
	for i := range p {
		switch {
		case kind == 0 || random.Intn(6) == 0:
			p[i] = byte(random.Intn(256))
		case kind == 1:
			p[i] = byte(random.Intn(5))
		default:
			p[i] = byte(0x80 - random.Intn(2) + 0x7f*random.Intn(2))
		}
	}
	return p
}

func TestAnyBytes(t *testing.T) {
	mosts := []int{math.MinInt, -1, 0, 1, 3, 200, math.MaxInt}
	random := rand.New(rand.NewSource(3))
	for range 50000 {
		p := anyBytes(random)
		r, m := scroll.NewReader(p), &model{p: p}
		for range 4 {
			what, most := random.Intn(3), mosts[random.Intn(len(mosts))]
			got, want := askReader(r, what, most), m.ask(what, most)
			if what == 0 && m.fault != api.OK {
				want = []int64{0}
			}
			if !slices.Equal(got, want) || r.End() != m.end() || r.Left() != len(p)-m.at {
				t.Fatalf("%x, ask %d, most %d: %d, End %d, Left %d; want %d, End %d, Left %d",
					p, what, most, got, r.End(), r.Left(), want, m.end(), len(p)-m.at)
			}
		}
	}
}
