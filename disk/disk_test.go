package disk_test

import (
	"bytes"
	"fmt"
	"math"
	"reflect"
	"slices"
	"strings"
	"testing"
	"unsafe"

	"armillary/api"
	"armillary/disk"
)

// made is an empty disk with that room.
func made(t *testing.T, room int) *disk.Disk {
	t.Helper()
	d, e := disk.New(room)
	if d == nil || e != api.OK {
		t.Fatalf("New(%d) = %v, %d", room, d, e)
	}
	return d
}

// must stops the test if e isn't want.
func must(t *testing.T, what string, e, want api.Errno) {
	t.Helper()
	if e != want {
		t.Fatalf("%s answered %d, want %d", what, e, want)
	}
}

// told is a file's bytes and how many of them are loose.
type told struct {
	Bytes string
	Loose int
}

// of is the bytes that are written out, of which so many are loose.
func of(loose int, p ...byte) told {
	return told{string(p), loose}
}

// mustHold holds all that a disk that is up tells against the files that it should have.
func mustHold(t *testing.T, d *disk.Disk, want map[string]told) {
	t.Helper()
	if !d.Up() {
		t.Fatal("it is down")
	}
	mustTell(t, d, want)
	for name, w := range want {
		p, e := d.Read(name)
		if e != api.OK || string(p) != w.Bytes {
			t.Fatalf("Read(%q) = %v, %d, want %v", name, p, e, []byte(w.Bytes))
		}
	}
}

// mustTell holds what a disk tells, up or down, against the files that it should have.
func mustTell(t *testing.T, d *disk.Disk, want map[string]told) {
	t.Helper()
	var names []string
	used := 0
	for name, w := range want {
		names = append(names, name)
		used += len(w.Bytes)
	}
	slices.Sort(names)
	if got := d.Names(); !slices.Equal(got, names) {
		t.Fatalf("Names() = %q, want %q", got, names)
	}
	if got := d.Used(); got != used {
		t.Fatalf("Used() = %d, want %d", got, used)
	}
	for name, w := range want {
		if got := d.Loose(name); got != w.Loose {
			t.Fatalf("Loose(%q) = %d, want %d", name, got, w.Loose)
		}
	}
}

// mixed is a disk of which a has 1 2 3 firm and 4 5 loose, b has 6 loose, c has 7 8 firm, and e has none.
func mixed(t *testing.T) (*disk.Disk, map[string]told) {
	t.Helper()
	d := made(t, 20)
	must(t, "Write a", d.Write("a", []byte{1, 2}, []byte{3}), api.OK)
	must(t, "Write c", d.Write("c", []byte{7, 8}), api.OK)
	must(t, "Firm", d.Firm("a", "c"), api.OK)
	must(t, "Write a", d.Write("a", []byte{4, 5}), api.OK)
	must(t, "Write b", d.Write("b", []byte{6}), api.OK)
	must(t, "Write e", d.Write("e"), api.OK)
	files := map[string]told{"a": of(2, 1, 2, 3, 4, 5), "b": of(1, 6), "c": of(0, 7, 8), "e": of(0)}
	mustHold(t, d, files)
	return d, files
}

// notNames are texts that no file may have as its name.
var notNames = []string{
	"", "abcdefghi", "123456789", "A", "aB", "Z", "a b", " ", "a ", "a.b", "a/b", "a_b", "a-b", "`", "{", "/", ":", "a\x00", "\x00",
	"\xff", "a\xff", "é", "aé", "ａ", "１", "٣", "\u00e0bc", "\U0001d41a", "a\n",
}

func TestNew(t *testing.T) {
	for _, room := range []int{0, 1, 20, api.MaxDisk - 1, api.MaxDisk} {
		mustHold(t, made(t, room), nil)
	}
	for _, room := range []int{-1, math.MinInt, api.MaxDisk + 1, math.MaxInt} {
		if d, e := disk.New(room); d != nil || e != api.ErrArg {
			t.Errorf("New(%d) = %v, %d, want ErrArg", room, d, e)
		}
	}
}

func TestExample(t *testing.T) {
	d := made(t, 10)
	must(t, "Write", d.Write("a", []byte{1, 2, 3}), api.OK)
	must(t, "Firm", d.Firm("a"), api.OK)
	must(t, "Write", d.Write("a", []byte{4, 5}), api.OK)
	d.Crash(1)
	mustHold(t, d, map[string]told{"a": of(0, 1, 2, 3, 4)})
}

func TestWrite(t *testing.T) {
	d := made(t, 100)
	must(t, "Write", d.Write("a", []byte{1}, nil, []byte{2, 3}, []byte{}, []byte{4}), api.OK)
	mustHold(t, d, map[string]told{"a": of(4, 1, 2, 3, 4)})
	must(t, "Write", d.Write("a"), api.OK)
	must(t, "Write", d.Write("a", nil, []byte{}), api.OK)
	mustHold(t, d, map[string]told{"a": of(4, 1, 2, 3, 4)})
	must(t, "Firm", d.Firm("a"), api.OK)
	must(t, "Write", d.Write("a", []byte{5}), api.OK)
	must(t, "Write", d.Write("a", []byte{6, 7}), api.OK)
	mustHold(t, d, map[string]told{"a": of(3, 1, 2, 3, 4, 5, 6, 7)})
	must(t, "Write", d.Write("b"), api.OK)
	must(t, "Write", d.Write("c", nil), api.OK)
	mustHold(t, d, map[string]told{"a": of(3, 1, 2, 3, 4, 5, 6, 7), "b": of(0), "c": of(0)})
}

func TestWriteNames(t *testing.T) {
	d := made(t, 20)
	want := map[string]told{}
	for i, name := range []string{"a", "z", "0", "9", "abcdefgh", "01234567", "a1b2c3d4", "m5", "az09"} {
		must(t, "Write "+name, d.Write(name, []byte{byte(i)}), api.OK)
		want[name] = of(1, byte(i))
	}
	mustHold(t, d, want)
	for _, name := range notNames {
		must(t, "Write "+name, d.Write(name, []byte{1}), api.ErrForm)
		must(t, "Write "+name, d.Write(name), api.ErrForm)
	}
	mustHold(t, d, want)
}

func TestWriteAllLetters(t *testing.T) {
	d := made(t, 0)
	for r := rune(0); r < 0x3000; r++ {
		want := api.ErrForm
		if r >= 'a' && r <= 'z' || r >= '0' && r <= '9' {
			want = api.OK
		}
		must(t, fmt.Sprintf("Write %q", r), d.Write("q"+string(r)), want)
		if want == api.OK {
			must(t, "Drop", d.Drop("q"+string(r)), api.OK)
		}
	}
}

func TestWriteRoom(t *testing.T) {
	d := made(t, 5)
	must(t, "Write", d.Write("a", []byte{1, 2}), api.OK)
	must(t, "Firm", d.Firm("a"), api.OK)
	must(t, "Write", d.Write("a", []byte{3}), api.OK)
	want := map[string]told{"a": of(1, 1, 2, 3)}
	must(t, "Write", d.Write("a", []byte{4, 5, 6}), api.ErrFull)
	must(t, "Write", d.Write("a", []byte{4, 5}, []byte{6}), api.ErrFull)
	must(t, "Write", d.Write("b", []byte{4}, []byte{5}, nil, []byte{6}), api.ErrFull)
	mustHold(t, d, want)
	must(t, "Write", d.Write("b", []byte{4}, []byte{5}), api.OK)
	want["b"] = of(2, 4, 5)
	must(t, "Write", d.Write("b", []byte{6}), api.ErrFull)
	must(t, "Write", d.Write("c", []byte{6}), api.ErrFull)
	mustHold(t, d, want)
	must(t, "Write", d.Write("b", nil), api.OK)
	must(t, "Write", d.Write("c", nil), api.OK)
	want["c"] = of(0)
	mustHold(t, d, want)
}

func TestWriteNoRoomAtAll(t *testing.T) {
	d := made(t, 0)
	must(t, "Write", d.Write("a", []byte{1}), api.ErrFull)
	mustHold(t, d, nil)
	must(t, "Write", d.Write("a"), api.OK)
	mustHold(t, d, map[string]told{"a": of(0)})
}

func TestWriteMaxDisk(t *testing.T) {
	d := made(t, api.MaxDisk)
	must(t, "Write", d.Write("a", make([]byte, api.MaxDisk+1)), api.ErrFull)
	must(t, "Write", d.Write("a", make([]byte, api.MaxDisk-1)), api.OK)
	must(t, "Write", d.Write("b", []byte{1, 2}), api.ErrFull)
	must(t, "Write", d.Write("b", []byte{1}), api.OK)
	must(t, "Write", d.Write("a", []byte{1}), api.ErrFull)
	if d.Used() != api.MaxDisk || d.Loose("a") != api.MaxDisk-1 {
		t.Fatal(d.Used(), d.Loose("a"))
	}
	p, e := d.Read("a")
	if e != api.OK || len(p) != api.MaxDisk-1 {
		t.Fatal(len(p), e)
	}
}

// TestWriteManyParts: the parts' lengths together are far above any room.
func TestWriteManyParts(t *testing.T) {
	d := made(t, api.MaxDisk)
	part := make([]byte, api.MaxDisk)
	parts := make([][]byte, 2000)
	for i := range parts {
		parts[i] = part
	}
	must(t, "Write", d.Write("a", parts...), api.ErrFull)
	mustHold(t, d, nil)
}

func TestWriteMaxFiles(t *testing.T) {
	d := made(t, 100)
	want := map[string]told{}
	for i := range api.MaxFiles {
		name := fmt.Sprint("f", i)
		must(t, "Write "+name, d.Write(name, []byte{byte(i)}), api.OK)
		want[name] = of(1, byte(i))
	}
	must(t, "Write", d.Write("g", []byte{1}), api.ErrFull)
	must(t, "Write", d.Write("g"), api.ErrFull)
	must(t, "Write", d.Write("G"), api.ErrForm)
	mustHold(t, d, want)
	must(t, "Write", d.Write("f3", []byte{9}), api.OK)
	want["f3"] = of(2, 3, 9)
	must(t, "Swap", d.Swap("f4", "g"), api.OK)
	delete(want, "f4")
	want["g"] = of(0)
	mustHold(t, d, want)
	must(t, "Write", d.Write("f4"), api.ErrFull)
	must(t, "Drop", d.Drop("f5"), api.OK)
	delete(want, "f5")
	must(t, "Write", d.Write("h"), api.OK)
	want["h"] = of(0)
	must(t, "Write", d.Write("i"), api.ErrFull)
	mustHold(t, d, want)
}

// TestWriteErrors: of both, that name isn't one goes first.
func TestWriteErrors(t *testing.T) {
	d := made(t, 1)
	must(t, "Write", d.Write("A", []byte{1, 2}), api.ErrForm)
	must(t, "Write", d.Write("", []byte{1, 2}), api.ErrForm)
	must(t, "Write", d.Write("a", []byte{1, 2}), api.ErrFull)
	mustHold(t, d, nil)
}

// TestRoomComesBack: what is cut, dropped or lost makes room.
func TestRoomComesBack(t *testing.T) {
	d := made(t, 6)
	must(t, "Write", d.Write("a", []byte{1, 2, 3}), api.OK)
	must(t, "Write", d.Write("b", []byte{4, 5, 6}), api.OK)
	must(t, "Trim", d.Trim("a", 2), api.OK)
	must(t, "Write", d.Write("b", []byte{7, 8}), api.ErrFull)
	must(t, "Write", d.Write("b", []byte{7}), api.OK)
	must(t, "Swap", d.Swap("a", "b"), api.OK)
	mustHold(t, d, map[string]told{"b": of(0)})
	must(t, "Write", d.Write("b", []byte{1, 2, 3, 4, 5, 6, 7}), api.ErrFull)
	must(t, "Write", d.Write("b", []byte{1, 2, 3, 4, 5, 6}), api.OK)
	must(t, "Drop", d.Drop("b"), api.OK)
	must(t, "Write", d.Write("c", []byte{1, 2, 3, 4, 5, 6}), api.OK)
	d.Crash(4)
	must(t, "Write", d.Write("c", []byte{7, 8, 9}), api.ErrFull)
	must(t, "Write", d.Write("c", []byte{7, 8}), api.OK)
	mustHold(t, d, map[string]told{"c": of(2, 1, 2, 3, 4, 7, 8)})
}

func TestFirm(t *testing.T) {
	d, files := mixed(t)
	must(t, "Firm", d.Firm(), api.OK)
	must(t, "Firm", d.Firm("c", "e"), api.OK)
	mustHold(t, d, files)
	must(t, "Firm", d.Firm("a"), api.OK)
	files["a"] = of(0, 1, 2, 3, 4, 5)
	mustHold(t, d, files)
	must(t, "Firm", d.Firm("b", "a", "b", "b"), api.OK)
	files["b"] = of(0, 6)
	mustHold(t, d, files)
	d.Crash()
	mustHold(t, d, files)
}

func TestFirmNone(t *testing.T) {
	d, files := mixed(t)
	for _, names := range [][]string{{"x"}, {"a", "x"}, {"x", "a"}, {"a", "b", "x", "c"}, {"a", ""}, {"A"}, {"b", "abcdefghi"}} {
		must(t, fmt.Sprint("Firm ", names), d.Firm(names...), api.ErrNone)
	}
	mustHold(t, d, files)
}

func TestSwap(t *testing.T) {
	d, files := mixed(t)
	must(t, "Swap", d.Swap("a", "n"), api.OK)
	delete(files, "a")
	files["n"] = of(0, 1, 2, 3)
	mustHold(t, d, files)
	if p, e := d.Read("a"); p != nil || e != api.ErrNone {
		t.Fatal(p, e)
	}
	must(t, "Swap", d.Swap("n", "b"), api.OK)
	delete(files, "n")
	files["b"] = of(0, 1, 2, 3)
	mustHold(t, d, files)
	must(t, "Swap", d.Swap("e", "c"), api.OK)
	delete(files, "e")
	files["c"] = of(0)
	mustHold(t, d, files)
	must(t, "Write", d.Write("b", []byte{9}), api.OK)
	files["b"] = of(1, 1, 2, 3, 9)
	mustHold(t, d, files)
	d.Crash()
	files["b"] = of(0, 1, 2, 3)
	mustHold(t, d, files)
}

// TestSwapSame: nothing but that its loose bytes are gone.
func TestSwapSame(t *testing.T) {
	d, files := mixed(t)
	for _, name := range []string{"a", "b", "c", "e"} {
		must(t, "Swap "+name, d.Swap(name, name), api.OK)
	}
	files["a"], files["b"] = of(0, 1, 2, 3), of(0)
	mustHold(t, d, files)
	must(t, "Swap", d.Swap("x", "x"), api.ErrNone)
	must(t, "Swap", d.Swap("X", "X"), api.ErrForm)
	mustHold(t, d, files)
}

func TestSwapErrors(t *testing.T) {
	d, files := mixed(t)
	for _, name := range notNames {
		must(t, "Swap a "+name, d.Swap("a", name), api.ErrForm)
		must(t, "Swap x "+name, d.Swap("x", name), api.ErrForm)
		must(t, "Swap "+name+" a", d.Swap(name, "a"), api.ErrNone)
		must(t, "Swap "+name+" x", d.Swap(name, "x"), api.ErrNone)
	}
	must(t, "Swap", d.Swap("x", "a"), api.ErrNone)
	must(t, "Swap", d.Swap("x", "y"), api.ErrNone)
	mustHold(t, d, files)
}

func TestTrim(t *testing.T) {
	d, files := mixed(t)
	must(t, "Trim", d.Trim("a", 5), api.OK)
	must(t, "Trim", d.Trim("c", 2), api.OK)
	must(t, "Trim", d.Trim("e", 0), api.OK)
	mustHold(t, d, files)
	must(t, "Trim", d.Trim("a", 4), api.OK)
	files["a"] = of(1, 1, 2, 3, 4)
	mustHold(t, d, files)
	must(t, "Trim", d.Trim("a", 2), api.OK)
	files["a"] = of(0, 1, 2)
	mustHold(t, d, files)
	must(t, "Write", d.Write("a", []byte{9, 9}), api.OK)
	files["a"] = of(2, 1, 2, 9, 9)
	mustHold(t, d, files)
	must(t, "Trim", d.Trim("b", 0), api.OK)
	must(t, "Trim", d.Trim("c", 0), api.OK)
	files["b"], files["c"] = of(0), of(0)
	mustHold(t, d, files)
}

func TestTrimErrors(t *testing.T) {
	d, files := mixed(t)
	for name, w := range files {
		for _, size := range []int{-1, math.MinInt, len(w.Bytes) + 1, math.MaxInt} {
			must(t, fmt.Sprint("Trim ", name, " ", size), d.Trim(name, size), api.ErrArg)
		}
	}
	for _, name := range append([]string{"x", "d"}, notNames...) {
		for _, size := range []int{0, 1, -1, math.MinInt, math.MaxInt} {
			must(t, fmt.Sprint("Trim ", name, " ", size), d.Trim(name, size), api.ErrNone)
		}
	}
	mustHold(t, d, files)
}

func TestDrop(t *testing.T) {
	d, files := mixed(t)
	must(t, "Drop", d.Drop(), api.OK)
	for _, names := range [][]string{{"x"}, {"a", "x"}, {"x", "a"}, {"a", "b", "x", "c"}, {"a", ""}, {"A"}, {"b", "abcdefghi"}} {
		must(t, fmt.Sprint("Drop ", names), d.Drop(names...), api.ErrNone)
	}
	mustHold(t, d, files)
	must(t, "Drop", d.Drop("b", "a", "b"), api.OK)
	delete(files, "a")
	delete(files, "b")
	mustHold(t, d, files)
	must(t, "Drop", d.Drop("a"), api.ErrNone)
	must(t, "Write", d.Write("a", []byte{3}), api.OK)
	files["a"] = of(1, 3)
	mustHold(t, d, files)
	must(t, "Drop", d.Drop("a", "c", "e"), api.OK)
	mustHold(t, d, nil)
}

func TestReadNone(t *testing.T) {
	d, _ := mixed(t)
	for _, name := range append([]string{"x", "d", "aa"}, notNames...) {
		if p, e := d.Read(name); p != nil || e != api.ErrNone {
			t.Errorf("Read(%q) = %v, %d, want ErrNone", name, p, e)
		}
		if n := d.Loose(name); n != 0 {
			t.Errorf("Loose(%q) = %d", name, n)
		}
	}
}

// TestNames: digits go ahead of letters, and a beginning ahead of what is longer.
func TestNames(t *testing.T) {
	d := made(t, 0)
	for _, name := range []string{"b", "l10", "a", "z9", "l1", "9", "l2", "10", "aa", "a0"} {
		must(t, "Write "+name, d.Write(name), api.OK)
	}
	want := []string{"10", "9", "a", "a0", "aa", "b", "l1", "l10", "l2", "z9"}
	for range 50 {
		if got := d.Names(); !slices.Equal(got, want) {
			t.Fatalf("Names() = %q, want %q", got, want)
		}
	}
}

func TestCrash(t *testing.T) {
	for _, c := range []struct {
		keep []int
		a, b told
	}{
		{nil, of(0, 1, 2, 3), of(0)},
		{[]int{0}, of(0, 1, 2, 3), of(0)},
		{[]int{1}, of(0, 1, 2, 3, 4), of(0)},
		{[]int{2}, of(0, 1, 2, 3, 4, 5), of(0)},
		{[]int{3}, of(0, 1, 2, 3), of(0)},
		{[]int{4}, of(0, 1, 2, 3, 4), of(0)},
		{[]int{5, 1}, of(0, 1, 2, 3, 4, 5), of(0, 6)},
		{[]int{0, 1, 1, 1, 1, 1}, of(0, 1, 2, 3), of(0, 6)},
		{[]int{0, 2, 5, 5}, of(0, 1, 2, 3), of(0)},
		{[]int{-1, 3}, of(0, 1, 2, 3), of(0, 6)},
		{[]int{-2, -1, -5, -7}, of(0, 1, 2, 3), of(0)},
		{[]int{math.MinInt, math.MinInt}, of(0, 1, 2, 3), of(0)},
		{[]int{math.MaxInt, math.MaxInt}, of(0, 1, 2, 3, 4), of(0, 6)}, // 2^63 - 1 is 1 modulo 3, and modulo 2
	} {
		d, files := mixed(t)
		d.Crash(c.keep...)
		files["a"], files["b"] = c.a, c.b
		mustHold(t, d, files)
		d.Crash(1, 1, 1, 1)
		mustHold(t, d, files)
	}
}

// TestCrashOrder: which keep is whose goes by rising names, not by when files were made.
func TestCrashOrder(t *testing.T) {
	d := made(t, 30)
	for _, name := range []string{"b", "9", "ab", "a"} {
		must(t, "Write "+name, d.Write(name, []byte{1, 2, 3, 4, 5}), api.OK)
	}
	d.Crash(1, 2, 3, 4)
	mustHold(t, d, map[string]told{"9": of(0, 1), "a": of(0, 1, 2), "ab": of(0, 1, 2, 3), "b": of(0, 1, 2, 3, 4)})
}

func TestCrashOfNone(t *testing.T) {
	d := made(t, 3)
	d.Crash()
	d.Crash(1, 2, -3)
	mustHold(t, d, nil)
}

// changes are calls of each change with what it answers on the disk that mixed makes, none of which does anything.
var changes = []struct {
	what string
	call func(d *disk.Disk) api.Errno
	want api.Errno
}{
	{"Write e", func(d *disk.Disk) api.Errno { return d.Write("e") }, api.OK},
	{"Write A", func(d *disk.Disk) api.Errno { return d.Write("A") }, api.ErrForm},
	{"Write a, too much", func(d *disk.Disk) api.Errno { return d.Write("a", make([]byte, 99)) }, api.ErrFull},
	{"Firm", func(d *disk.Disk) api.Errno { return d.Firm() }, api.OK},
	{"Firm c", func(d *disk.Disk) api.Errno { return d.Firm("c") }, api.OK},
	{"Firm x", func(d *disk.Disk) api.Errno { return d.Firm("x") }, api.ErrNone},
	{"Swap c c", func(d *disk.Disk) api.Errno { return d.Swap("c", "c") }, api.OK},
	{"Swap a A", func(d *disk.Disk) api.Errno { return d.Swap("a", "A") }, api.ErrForm},
	{"Swap x a", func(d *disk.Disk) api.Errno { return d.Swap("x", "a") }, api.ErrNone},
	{"Trim c 2", func(d *disk.Disk) api.Errno { return d.Trim("c", 2) }, api.OK},
	{"Trim c 3", func(d *disk.Disk) api.Errno { return d.Trim("c", 3) }, api.ErrArg},
	{"Trim x 0", func(d *disk.Disk) api.Errno { return d.Trim("x", 0) }, api.ErrNone},
	{"Drop", func(d *disk.Disk) api.Errno { return d.Drop() }, api.OK},
	{"Drop x", func(d *disk.Disk) api.Errno { return d.Drop("x") }, api.ErrNone},
}

// TestArmCounts: each change counts, whatever it answers, and the one behind fails, whatever it would have answered.
func TestArmCounts(t *testing.T) {
	for _, c := range changes {
		for _, last := range changes {
			d, files := mixed(t)
			d.Arm(3)
			for range 3 {
				must(t, c.what, c.call(d), c.want)
			}
			mustHold(t, d, files)
			must(t, last.what, last.call(d), api.ErrDown)
			mustBeDown(t, d, files)
		}
	}
}

// mustBeDown: a disk that is down answers ErrDown, whatever else applies, and tells what it has.
func mustBeDown(t *testing.T, d *disk.Disk, files map[string]told) {
	t.Helper()
	for _, n := range []int{-1, 0, 1, 5} {
		d.Arm(n)
		if d.Up() {
			t.Fatalf("up behind Arm(%d)", n)
		}
		for _, c := range changes {
			must(t, c.what, c.call(d), api.ErrDown)
		}
		must(t, "Write n", d.Write("n", []byte{1}), api.ErrDown)
		must(t, "Drop a", d.Drop("a"), api.ErrDown)
		for _, name := range []string{"a", "e", "x", "", "A"} {
			if p, e := d.Read(name); p != nil || e != api.ErrDown {
				t.Fatalf("Read(%q) = %v, %d, want ErrDown", name, p, e)
			}
		}
	}
	mustTell(t, d, files)
}

// TestFailedChange: nothing of the change that fails happens.
func TestFailedChange(t *testing.T) {
	for what, call := range map[string]func(d *disk.Disk) api.Errno{
		"Write a": func(d *disk.Disk) api.Errno { return d.Write("a", []byte{9}) },
		"Write n": func(d *disk.Disk) api.Errno { return d.Write("n", []byte{9}) },
		"Firm":    func(d *disk.Disk) api.Errno { return d.Firm("a", "b") },
		"Swap":    func(d *disk.Disk) api.Errno { return d.Swap("a", "b") },
		"Trim":    func(d *disk.Disk) api.Errno { return d.Trim("a", 1) },
		"Drop":    func(d *disk.Disk) api.Errno { return d.Drop("a", "c") },
	} {
		d, files := mixed(t)
		d.Arm(0)
		mustHold(t, d, files)
		must(t, what, call(d), api.ErrDown)
		mustBeDown(t, d, files)
		d.Crash(2, 1)
		files["a"], files["b"] = of(0, 1, 2, 3, 4, 5), of(0, 6)
		mustHold(t, d, files)
		must(t, what, call(d), api.OK)
	}
}

// TestArm: the last Arm counts; below 0 is never.
func TestArm(t *testing.T) {
	for _, n := range []int{0, 1, 2, 7} {
		for _, earlier := range []int{-1, 0, 1, 3, 100, math.MinInt, math.MaxInt} {
			d := made(t, 5)
			d.Arm(earlier)
			d.Arm(n)
			for range n {
				must(t, "Firm", d.Firm(), api.OK)
			}
			if !d.Up() {
				t.Fatalf("down behind %d changes of %d", n, n)
			}
			must(t, "Firm", d.Firm(), api.ErrDown)
		}
	}
	for _, n := range []int{-1, -2, math.MinInt, math.MaxInt} {
		d := made(t, 5)
		d.Arm(2)
		must(t, "Firm", d.Firm(), api.OK)
		d.Arm(n)
		for range 100 {
			must(t, "Firm", d.Firm(), api.OK)
		}
	}
}

// TestArmCountsChangesAlone: what only looks doesn't count, and doesn't fail.
func TestArmCountsChangesAlone(t *testing.T) {
	d, files := mixed(t)
	d.Arm(1)
	for range 5 {
		mustHold(t, d, files)
	}
	must(t, "Firm", d.Firm(), api.OK)
	for range 5 {
		mustHold(t, d, files)
	}
	must(t, "Firm", d.Firm(), api.ErrDown)
}

// TestCrashDisarms: behind a crash no disk is down, or armed, whenever it was.
func TestCrashDisarms(t *testing.T) {
	for _, n := range []int{-1, 0, 1, 2} {
		for _, before := range []int{0, 3} {
			for _, again := range []bool{false, true} {
				d := made(t, 5)
				d.Arm(n)
				for range before {
					d.Firm()
				}
				if again {
					d.Arm(n)
				}
				d.Crash()
				if !d.Up() {
					t.Fatal("down behind a crash")
				}
				for range 10 {
					must(t, "Firm", d.Firm(), api.OK)
				}
			}
		}
	}
}

func TestNil(t *testing.T) {
	var d *disk.Disk
	for _, c := range changes {
		must(t, c.what, c.call(d), api.ErrNone)
	}
	for _, name := range []string{"a", "", "A"} {
		if p, e := d.Read(name); p != nil || e != api.ErrNone {
			t.Errorf("Read(%q) = %v, %d", name, p, e)
		}
		if n := d.Loose(name); n != 0 {
			t.Errorf("Loose(%q) = %d", name, n)
		}
	}
	for _, n := range []int{-1, 0, 3} {
		d.Arm(n)
	}
	must(t, "Firm", d.Firm(), api.ErrNone)
	d.Crash()
	d.Crash(1, -2)
	if names := d.Names(); len(names) != 0 || d.Used() != 0 || d.Up() {
		t.Errorf("Names() = %q, Used() = %d, Up() = %t", names, d.Used(), d.Up())
	}
}

// TestNilLists: nil lists are as empty ones.
func TestNilLists(t *testing.T) {
	d, files := mixed(t)
	must(t, "Write", d.Write("a", [][]byte(nil)...), api.OK)
	must(t, "Write", d.Write("a", [][]byte{}...), api.OK)
	must(t, "Firm", d.Firm([]string(nil)...), api.OK)
	must(t, "Drop", d.Drop([]string(nil)...), api.OK)
	mustHold(t, d, files)
	d.Crash([]int(nil)...)
	files["a"], files["b"] = of(0, 1, 2, 3), of(0)
	mustHold(t, d, files)
}

// TestArguments: what is handed in is neither changed nor kept.
func TestArguments(t *testing.T) {
	d := made(t, 100)
	room := []byte{1, 2, 3, 77, 77, 77}
	parts := [][]byte{room[:3], {4}, {88}}
	must(t, "Write", d.Write("a", parts[:2]...), api.OK)
	must(t, "Write", d.Write("a", []byte{5}), api.OK)
	if !bytes.Equal(room, []byte{1, 2, 3, 77, 77, 77}) || !reflect.DeepEqual(parts, [][]byte{{1, 2, 3}, {4}, {88}}) {
		t.Fatal(room, parts)
	}
	for i := range room {
		room[i] = 99
	}
	parts[1][0] = 99
	mustHold(t, d, map[string]told{"a": of(5, 1, 2, 3, 4, 5)})

	must(t, "Write", d.Write("b", []byte{6, 7}), api.OK)
	names := []string{"b", "a", "a", "x"}
	must(t, "Firm", d.Firm(names[:3]...), api.OK)
	if !slices.Equal(names, []string{"b", "a", "a", "x"}) {
		t.Fatal(names)
	}
	keep := []int{1, -1, 7}
	d.Crash(keep[:2]...)
	must(t, "Drop", d.Drop(names[:3]...), api.OK)
	if !slices.Equal(names, []string{"b", "a", "a", "x"}) || !slices.Equal(keep, []int{1, -1, 7}) {
		t.Fatal(names, keep)
	}
}

// TestNamesAreCopied: a name may be a piece of a longer text, which isn't kept.
func TestNamesAreCopied(t *testing.T) {
	d := made(t, 0)
	text := strings.Repeat("abcdefgh", 100)
	must(t, "Write", d.Write(text[:8]), api.OK)
	if unsafe.StringData(d.Names()[0]) == unsafe.StringData(text) {
		t.Fatal("Write keeps the text")
	}
	must(t, "Swap", d.Swap(text[:8], text[:7]), api.OK)
	if unsafe.StringData(d.Names()[0]) == unsafe.StringData(text) {
		t.Fatal("Swap keeps the text")
	}
}

// TestAnswers: what is answered is the caller's, spare room too.
func TestAnswers(t *testing.T) {
	d, files := mixed(t)
	for range 2 {
		must(t, "Trim", d.Trim("a", 5), api.OK)
		p, _ := d.Read("a")
		q, _ := d.Read("a")
		p = p[:cap(p)]
		for i := range p {
			p[i] = 99
		}
		if !bytes.Equal(q, []byte{1, 2, 3, 4, 5}) {
			t.Fatal(q)
		}
		names := d.Names()
		names = names[:cap(names)]
		for i := range names {
			names[i] = "zz"
		}
		mustHold(t, d, files)
	}
	before, _ := d.Read("a")
	must(t, "Trim", d.Trim("a", 1), api.OK)
	must(t, "Write", d.Write("a", []byte{9, 9, 9, 9, 9}), api.OK)
	if !bytes.Equal(before, []byte{1, 2, 3, 4, 5}) {
		t.Fatal(before)
	}
}

// TestApart: two disks have nothing in common.
func TestApart(t *testing.T) {
	d, files := mixed(t)
	other := made(t, 20)
	must(t, "Write", other.Write("a", []byte{1}), api.OK)
	other.Arm(0)
	must(t, "Write", other.Write("a", []byte{1}), api.ErrDown)
	mustHold(t, d, files)
	d.Crash()
	if other.Up() || other.Loose("a") != 1 {
		t.Fatal(other.Up(), other.Loose("a"))
	}
}

// TestSwappedApart: files that were swapped have no bytes in common.
func TestSwappedApart(t *testing.T) {
	d := made(t, 20)
	must(t, "Write", d.Write("t", []byte{1, 2, 3}), api.OK)
	must(t, "Firm", d.Firm("t"), api.OK)
	must(t, "Write", d.Write("t", []byte{4, 5}), api.OK)
	must(t, "Swap", d.Swap("t", "c"), api.OK)
	must(t, "Write", d.Write("t", []byte{7}), api.OK)
	must(t, "Write", d.Write("c", []byte{8}), api.OK)
	mustHold(t, d, map[string]told{"c": of(1, 1, 2, 3, 8), "t": of(1, 7)})
}
