package journal_test

import (
	"bytes"
	"encoding/binary"
	"fmt"
	"hash/crc32"
	"slices"
	"strings"
	"testing"

	"armillary/api"
	"armillary/disk"
	"armillary/journal"
)

// made is an empty disk with that room.
func made(t *testing.T, room int) *disk.Disk {
	t.Helper()
	d, e := disk.New(room)
	must(t, "New", e, api.OK)
	return d
}

// formatted is a disk with much room and a journal of that state.
func formatted(t *testing.T, state string) *disk.Disk {
	t.Helper()
	d := made(t, api.MaxDisk)
	must(t, "Format", journal.Format(d, []byte(state)), api.OK)
	return d
}

// opened is the journal of a disk that must have this state and these records.
func opened(t *testing.T, d *disk.Disk, state string, records ...string) *journal.Journal {
	t.Helper()
	j, found, e := journal.Open(d)
	must(t, "Open", e, api.OK)
	if string(found.State) != state || !slices.Equal(texts(found.Records), records) {
		t.Fatalf("Open found %.60q (%d), %.60q, want %.60q (%d), %.60q", found.State, len(found.State), found.Records, state, len(state), records)
	}
	if j == nil || j.Count() != len(records) || j.Broken() {
		t.Fatalf("Count() = %d, Broken() = %v behind Open of %d records", j.Count(), j.Broken(), len(records))
	}
	return j
}

// mustNotOpen asks that Open answers this error, and nothing but it, and leaves the disk as it was.
func mustNotOpen(t *testing.T, d *disk.Disk, want api.Errno) {
	t.Helper()
	before := listed(d)
	j, found, e := journal.Open(d)
	if j != nil || found.State != nil || found.Records != nil || e != want {
		t.Fatalf("Open(%v) = %v, %v, %d, want %d", before, j, found, e, want)
	}
	if after := listed(d); after != before {
		t.Fatalf("Open, which answered %d, made %s of %s", e, after, before)
	}
}

// must stops the test if e isn't want.
func must(t *testing.T, what string, e, want api.Errno) {
	t.Helper()
	if e != want {
		t.Fatalf("%s answered %d, want %d", what, e, want)
	}
}

// mustName holds the names of a disk's files against those that it should have.
func mustName(t *testing.T, d *disk.Disk, want ...string) {
	t.Helper()
	if got := d.Names(); !slices.Equal(got, want) {
		t.Fatalf("Names() = %q, want %q", got, want)
	}
}

// mustHold holds a file's bytes against those that it should have, firm and then loose ones.
func mustHold(t *testing.T, d *disk.Disk, name, firm, loose string) {
	t.Helper()
	p, e := d.Read(name)
	if e != api.OK || string(p) != firm+loose || d.Loose(name) != len(loose) {
		t.Fatalf("%s is %.60q (%d, %d of them loose), %d, want %.60q (%d) and %.60q", name, p, len(p), d.Loose(name), e, firm, len(firm), loose)
	}
}

// listed is all that a disk tells, as a text.
func listed(d *disk.Disk) string {
	var b strings.Builder
	fmt.Fprint(&b, d.Up(), d.Used())
	for _, name := range d.Names() {
		p, e := d.Read(name)
		fmt.Fprintf(&b, " %s:%x:%d:%d", name, p, e, d.Loose(name))
	}
	return b.String()
}

// lists is these texts as lists of bytes.
func lists(records ...string) [][]byte {
	var all [][]byte
	for _, record := range records {
		all = append(all, []byte(record))
	}
	return all
}

// texts is these lists of bytes as texts.
func texts(records [][]byte) []string {
	var all []string
	for _, record := range records {
		all = append(all, string(record))
	}
	return all
}

// frame is a frame of each of these, one behind the other, told by the library's own sum.
func frame(carried ...string) string {
	var all []byte
	for _, c := range carried {
		said := append(binary.LittleEndian.AppendUint16(nil, uint16(len(c))), c...)
		all = binary.LittleEndian.AppendUint32(all, crc32.ChecksumIEEE(said))
		all = append(all, said...)
	}
	return string(all)
}

// long is a text of so many bytes, of which no two beginnings of MaxFrame are the same.
func long(size int) string {
	p := make([]byte, size)
	for i := range p {
		p[i] = byte(i*7 + i/256 + i/api.MaxFrame)
	}
	return string(p)
}

// stateSizes are how many bytes the states of the tests have, each with the frames that a file holds of it.
var stateSizes = []struct{ size, frames int }{
	{0, 1}, {1, 2}, {5, 2}, {api.MaxFrame - 1, 2}, {api.MaxFrame, 2}, {api.MaxFrame + 1, 3},
	{2*api.MaxFrame - 1, 3}, {2 * api.MaxFrame, 3}, {2*api.MaxFrame + 1, 4}, {10*api.MaxFrame + 77, 12},
}

// stateBytes is the file of a state.
func stateBytes(state string) string {
	file := ""
	for len(state) > api.MaxFrame {
		file += frame(state[:api.MaxFrame])
		state = state[api.MaxFrame:]
	}
	if state != "" {
		file += frame(state)
	}
	return file + frame("")
}

// raw is a disk with these files, by hand: name and bytes, and so on, all of them firm.
func raw(t *testing.T, files ...string) *disk.Disk {
	t.Helper()
	d := made(t, api.MaxDisk)
	for i := 0; i < len(files); i += 2 {
		must(t, "Write "+files[i], d.Write(files[i], []byte(files[i+1])), api.OK)
		must(t, "Firm "+files[i], d.Firm(files[i]), api.OK)
	}
	return d
}

func TestExample(t *testing.T) {
	d := formatted(t, "")
	j := opened(t, d, "")
	must(t, "Put", j.Put(lists("a", "b")...), api.OK)
	must(t, "Force", j.Force(), api.OK)
	must(t, "Put", j.Put(lists("c")...), api.OK)
	d.Crash()
	opened(t, d, "", "a", "b")
	mustName(t, d, "c0", "l0")
}

func TestFormat(t *testing.T) {
	for _, s := range stateSizes {
		state := long(s.size)
		// Just as much room as the file needs.
		d := made(t, s.size+6*s.frames)
		must(t, "Format", journal.Format(d, []byte(state)), api.OK)
		mustName(t, d, "c0")
		mustHold(t, d, "c0", stateBytes(state), "")
		d.Crash()
		mustHold(t, d, "c0", stateBytes(state), "")
		if j := opened(t, d, state); j.Generation() != 0 {
			t.Fatalf("Generation() = %d behind Format", j.Generation())
		}
		mustName(t, d, "c0")
	}
}

func TestFormatOfNone(t *testing.T) {
	for _, state := range [][]byte{nil, {}} {
		d := made(t, 6)
		must(t, "Format", journal.Format(d, state), api.OK)
		mustHold(t, d, "c0", "\xff\x12\xd9\x41\x00\x00", "")
		opened(t, d, "")
	}
}

func TestFormatErrors(t *testing.T) {
	must(t, "Format of no disk", journal.Format(nil, []byte("s")), api.ErrNone)
	must(t, "Format of no disk", journal.Format(nil, nil), api.ErrNone)
	for _, name := range []string{"c0", "l0", "t", "x", "0"} {
		d := raw(t, name, "")
		before := listed(d)
		must(t, "Format beside "+name, journal.Format(d, []byte("s")), api.ErrExists)
		must(t, "Format beside "+name, journal.Format(d, make([]byte, api.MaxDisk)), api.ErrExists)
		if listed(d) != before {
			t.Fatalf("Format made %s of %s", listed(d), before)
		}
		d.Arm(0)
		must(t, "Drop", d.Drop(name), api.ErrDown)
		must(t, "Format beside "+name+", down", journal.Format(d, nil), api.ErrExists)
	}
	d := formatted(t, "s")
	must(t, "Format again", journal.Format(d, []byte("s")), api.ErrExists)
	mustHold(t, d, "c0", stateBytes("s"), "")
}

func TestFormatFull(t *testing.T) {
	for _, s := range stateSizes {
		d := made(t, s.size+6*s.frames-1)
		must(t, "Format", journal.Format(d, []byte(long(s.size))), api.ErrFull)
		mustName(t, d)
		mustNotOpen(t, d, api.ErrForm)
	}
	must(t, "Format", journal.Format(made(t, api.MaxDisk), make([]byte, 3*api.MaxDisk)), api.ErrFull)
}

func TestFormatDown(t *testing.T) {
	d := made(t, 100)
	d.Arm(0)
	must(t, "Format", journal.Format(d, []byte("s")), api.ErrDown)
	must(t, "Format", journal.Format(d, make([]byte, 200)), api.ErrDown)
	mustName(t, d)
	d.Crash()
	must(t, "Format", journal.Format(d, []byte("s")), api.OK)
	opened(t, d, "s")
}

func TestOpenNothingToMend(t *testing.T) {
	d := raw(t, "c3", stateBytes("s"), "l3", frame("a", "b"))
	for range 3 {
		// Without a change, for the next one would fail.
		d.Arm(0)
		if j := opened(t, d, "s", "a", "b"); j.Generation() != 3 {
			t.Fatalf("Generation() = %d", j.Generation())
		}
		if !d.Up() {
			t.Fatal("Open has made a change")
		}
	}
}

func TestOpenErrors(t *testing.T) {
	mustNotOpen(t, nil, api.ErrNone)
	for _, d := range []*disk.Disk{made(t, 0), made(t, 10), raw(t, "c0", stateBytes("s")), raw(t, "x", "")} {
		d.Arm(0)
		must(t, "Firm", d.Firm(), api.ErrDown)
		mustNotOpen(t, d, api.ErrDown)
	}
	mustNotOpen(t, made(t, 0), api.ErrForm)
	mustNotOpen(t, made(t, api.MaxDisk), api.ErrForm)
	d := raw(t, "c0", stateBytes("s"))
	d.Arm(0)
	must(t, "Firm", d.Firm(), api.ErrDown)
	d.Crash()
	opened(t, d, "s")
}

func TestOpenNames(t *testing.T) {
	good := stateBytes("s")
	for _, name := range []string{"c", "c00", "c01", "c0000000", "c0000001", "cx", "c0x", "c0c", "1", "1c", "cc0", "t", "l0", "l1", "d0", "xc0"} {
		d := raw(t, name, good, "l7", frame("a"))
		mustNotOpen(t, d, api.ErrForm)
		// They don't count beside one that does, either.
		must(t, "Write", d.Write("c0", []byte(good)), api.OK)
		if j := opened(t, d, "s", map[string][]string{"l0": {"s"}}[name]...); j.Generation() != 0 {
			t.Fatalf("Generation() = %d beside %s", j.Generation(), name)
		}
	}
	// A number of more digits is no file's name at all.
	d := made(t, 100)
	must(t, "Write", d.Write("c10000000", []byte(good)), api.ErrForm)
	mustNotOpen(t, d, api.ErrForm)
}

func TestOpenNewest(t *testing.T) {
	for _, c := range []struct {
		numbers []string
		want    int
	}{
		{[]string{"0"}, 0}, {[]string{"1"}, 1}, {[]string{"0", "1"}, 1}, {[]string{"9", "10"}, 10}, {[]string{"2", "10", "1"}, 10},
		{[]string{"9999999"}, 9999999}, {[]string{"9999999", "1000000", "999999"}, 9999999}, {[]string{"99", "100", "0099"}, 100},
	} {
		d := made(t, 10000)
		for _, n := range c.numbers {
			must(t, "Write", d.Write("c"+n, []byte(stateBytes("s"+n))), api.OK)
			must(t, "Write", d.Write("l"+n, []byte(frame("r"+n))), api.OK)
		}
		want := fmt.Sprint(c.want)
		j := opened(t, d, "s"+want, "r"+want)
		if j.Generation() != c.want {
			t.Fatalf("Generation() = %d of %q", j.Generation(), c.numbers)
		}
		left := []string{"c" + want, "l" + want}
		if slices.Contains(c.numbers, "0099") {
			left = []string{"c0099", "c100", "l0099", "l100"}
		}
		mustName(t, d, left...)
	}
}

func TestOpenDrops(t *testing.T) {
	good := stateBytes("s")
	d := raw(t, "c2", good, "l2", frame("a"), "t", "x", "c1", good, "l1", frame("b"), "l0", "", "l3", frame("c"), "l9999999", "z")
	for _, name := range []string{"c", "l", "tt", "c02", "l02", "u", "t2"} {
		must(t, "Write", d.Write(name, []byte(name)), api.OK)
	}
	opened(t, d, "s", "a")
	mustName(t, d, "c", "c02", "c2", "l", "l02", "l2", "t2", "tt", "u")
	mustHold(t, d, "l2", frame("a"), "")
	mustHold(t, d, "tt", "", "tt")
	d.Arm(0)
	opened(t, d, "s", "a")
}

func TestOpenWrongState(t *testing.T) {
	full, more := long(api.MaxFrame), long(api.MaxFrame-1)
	good := stateBytes("state")
	wrong := []string{
		"", "x", frame("a"), frame(full), frame("a", "b"), frame("a", "b", ""), frame(more, "b", ""), frame(full, more, full, ""),
		frame("", ""), frame("", "a"), frame("", "a", ""), frame("a", "", ""), frame("a", "", "b"), frame(full, "", "b", ""),
		good + "x", good + good, "x" + good, frame("a", "")[:11], frame(full, full, "a")[:100],
	}
	for i := range len(good) {
		wrong = append(wrong, good[:i], good[:i]+string([]byte{good[i] ^ 1})+good[i+1:])
	}
	for _, file := range wrong {
		d := raw(t, "c1", file, "l1", frame("a")+"x", "t", "y", "l0", frame("b"))
		mustNotOpen(t, d, api.ErrForm)
		// An older one that is as it should be doesn't count, nor does a younger that isn't a number.
		must(t, "Write", d.Write("c0", []byte(good)), api.OK)
		must(t, "Write", d.Write("c02", []byte(good)), api.OK)
		mustNotOpen(t, d, api.ErrForm)
		// But a greater one does.
		must(t, "Write", d.Write("c2", []byte(good)), api.OK)
		opened(t, d, "state")
	}
	for _, s := range stateSizes {
		opened(t, raw(t, "c5", stateBytes(long(s.size))), long(s.size))
	}
}

func TestOpenTorn(t *testing.T) {
	records := []string{"a", "bcd", long(api.MaxFrame), "e"}
	whole := frame(records...)
	for cut := range len(whole) + 1 {
		if cut > 40 && cut < 20+api.MaxFrame && cut%500 != 0 {
			continue
		}
		n := 0
		for n < len(records) && len(frame(records[:n+1]...)) <= cut {
			n++
		}
		d := raw(t, "c0", stateBytes("s"), "l0", whole[:cut])
		opened(t, d, "s", records[:n]...)
		mustHold(t, d, "l0", frame(records[:n]...), "")
		d.Arm(0)
		opened(t, d, "s", records[:n]...)
	}
}

func TestOpenWrongRecords(t *testing.T) {
	turned := []byte(frame("bb"))
	turned[7] ^= 4
	tooLong := append([]byte{0, 0, 0, 0, 1, 16}, make([]byte, api.MaxFrame+1)...)
	for _, behind := range []string{"", "x", frame(""), frame("", "b"), frame("", "", ""), string(turned), string(turned) + frame("c"), string(tooLong), frame("b")[:6], "\x00\x00\x00\x00\x00\x00"} {
		for _, records := range [][]string{nil, {"a"}, {"a", "bb", "c"}} {
			d := raw(t, "c0", stateBytes("s"), "l0", frame(records...)+behind)
			j := opened(t, d, "s", records...)
			mustName(t, d, "c0", "l0")
			mustHold(t, d, "l0", frame(records...), "")
			// What is put now stands right behind them.
			must(t, "Put", j.Put([]byte("new")), api.OK)
			must(t, "Force", j.Force(), api.OK)
			d.Crash()
			opened(t, d, "s", append(slices.Clone(records), "new")...)
		}
	}
}

func TestOpenFirms(t *testing.T) {
	for _, behind := range []string{"", "x", frame("", "c")} {
		d := raw(t, "c0", stateBytes("s"), "l0", frame("a"))
		must(t, "Write", d.Write("l0", []byte(frame("b")+behind)), api.OK)
		opened(t, d, "s", "a", "b")
		mustHold(t, d, "l0", frame("a", "b"), "")
		d.Crash()
		opened(t, d, "s", "a", "b")
	}
	// What was loose is all trimmed away, so that nothing is left to make firm.
	d := raw(t, "c0", stateBytes("s"), "l0", frame("a"))
	must(t, "Write", d.Write("l0", []byte("x")), api.OK)
	d.Arm(1)
	opened(t, d, "s", "a")
	mustHold(t, d, "l0", frame("a"), "")
	// One loose byte is enough to lose a record.
	whole := frame("a")
	d = raw(t, "c0", stateBytes("s"), "l0", whole[:6])
	must(t, "Write", d.Write("l0", []byte(whole[6:])), api.OK)
	opened(t, d, "s", "a")
	mustHold(t, d, "l0", whole, "")
	// A state that a caller wrote lasts too, once it was told.
	d = made(t, 100)
	must(t, "Write", d.Write("c0", []byte(stateBytes("s"))), api.OK)
	opened(t, d, "s")
	d.Crash()
	opened(t, d, "s")
}

func TestPut(t *testing.T) {
	d := formatted(t, "s")
	j := opened(t, d, "s")
	must(t, "Put", j.Put(lists("a", "bb")...), api.OK)
	mustHold(t, d, "l0", "", frame("a", "bb"))
	must(t, "Put", j.Put(lists("c")...), api.OK)
	mustHold(t, d, "l0", "", frame("a", "bb", "c"))
	must(t, "Force", j.Force(), api.OK)
	mustHold(t, d, "l0", frame("a", "bb", "c"), "")
	must(t, "Put", j.Put(lists("d", "a")...), api.OK)
	mustHold(t, d, "l0", frame("a", "bb", "c"), frame("d", "a"))
	mustName(t, d, "c0", "l0")
	if j.Count() != 5 || j.Generation() != 0 || j.Broken() {
		t.Fatalf("Count() = %d, Generation() = %d, Broken() = %v", j.Count(), j.Generation(), j.Broken())
	}
	opened(t, d, "s", "a", "bb", "c", "d", "a")
}

func TestPutSizes(t *testing.T) {
	d := formatted(t, "s")
	j := opened(t, d, "s")
	records := []string{"a", long(api.MaxFrame), long(api.MaxFrame - 1), "\x00"}
	must(t, "Put", j.Put(lists(records...)...), api.OK)
	mustHold(t, d, "l0", "", frame(records...))
	for range 3 {
		for _, c := range []struct {
			records []string
			want    api.Errno
		}{
			{[]string{""}, api.ErrShort}, {[]string{"a", ""}, api.ErrShort}, {[]string{"", "a"}, api.ErrShort},
			{[]string{long(api.MaxFrame + 1)}, api.ErrLong}, {[]string{"a", long(api.MaxFrame + 1)}, api.ErrLong}, {[]string{long(70000), "a"}, api.ErrLong},
			{[]string{"", long(api.MaxFrame + 1)}, api.ErrShort}, {[]string{long(api.MaxFrame + 1), ""}, api.ErrShort},
			{[]string{"a", long(api.MaxFrame + 1), "b", ""}, api.ErrShort},
		} {
			must(t, "Put", j.Put(lists(c.records...)...), c.want)
			mustHold(t, d, "l0", "", frame(records...))
			if j.Count() != 4 || j.Broken() {
				t.Fatalf("Count() = %d, Broken() = %v", j.Count(), j.Broken())
			}
		}
		must(t, "Put", j.Put([]byte("a"), nil), api.ErrShort)
	}
	opened(t, d, "s", records...)
}

func TestPutNone(t *testing.T) {
	d := formatted(t, "s")
	j := opened(t, d, "s")
	must(t, "Put", j.Put(), api.OK)
	must(t, "Put", j.Put([][]byte{}...), api.OK)
	// No file of records till the first is put.
	must(t, "Put", j.Put(nil, []byte("a")), api.ErrShort)
	mustName(t, d, "c0")
	must(t, "Put", j.Put([]byte("a")), api.OK)
	must(t, "Put", j.Put(), api.OK)
	mustHold(t, d, "l0", "", frame("a"))
	if j.Count() != 1 {
		t.Fatalf("Count() = %d", j.Count())
	}
}

func TestPutFull(t *testing.T) {
	d := made(t, len(stateBytes("s"))+len(frame("a", "bb")))
	must(t, "Format", journal.Format(d, []byte("s")), api.OK)
	j := opened(t, d, "s")
	must(t, "Put", j.Put(lists("a", "bb", "c")...), api.ErrFull)
	mustName(t, d, "c0")
	must(t, "Put", j.Put(lists("a")...), api.OK)
	must(t, "Put", j.Put(lists("bbb")...), api.ErrFull)
	// All or none: there would be room for the first of these.
	must(t, "Put", j.Put(lists("b", "c")...), api.ErrFull)
	must(t, "Put", j.Put([]byte("bbb"), nil), api.ErrShort)
	must(t, "Put", j.Put(make([]byte, api.MaxFrame+1)), api.ErrLong)
	mustHold(t, d, "l0", "", frame("a"))
	if j.Count() != 1 || j.Broken() {
		t.Fatalf("Count() = %d, Broken() = %v", j.Count(), j.Broken())
	}
	must(t, "Put", j.Put(lists("bb")...), api.OK)
	must(t, "Force", j.Force(), api.OK)
	opened(t, d, "s", "a", "bb")
}

func TestPutTooManyFiles(t *testing.T) {
	d := formatted(t, "s")
	for i := range api.MaxFiles - 1 {
		must(t, "Write", d.Write(fmt.Sprint("x", i)), api.OK)
	}
	j := opened(t, d, "s")
	must(t, "Put", j.Put([]byte("a")), api.ErrFull)
	must(t, "Save", j.Save([]byte("a")), api.ErrFull)
	must(t, "Put", j.Put(), api.OK)
	must(t, "Force", j.Force(), api.OK)
	if j.Count() != 0 || j.Generation() != 0 || j.Broken() {
		t.Fatalf("Count() = %d, Generation() = %d, Broken() = %v", j.Count(), j.Generation(), j.Broken())
	}
	must(t, "Drop", d.Drop("x0"), api.OK)
	must(t, "Save", j.Save([]byte("a")), api.OK)
	must(t, "Put", j.Put([]byte("a")), api.OK)
	opened(t, d, "a", "a")
}

func TestForce(t *testing.T) {
	d := formatted(t, "s")
	j := opened(t, d, "s")
	// Of no records it does nothing, and so meets no change that fails.
	d.Arm(0)
	must(t, "Force", j.Force(), api.OK)
	if !d.Up() || j.Broken() {
		t.Fatalf("Up() = %v, Broken() = %v behind Force of none", d.Up(), j.Broken())
	}
	mustName(t, d, "c0")
	d.Arm(-1)
	must(t, "Put", j.Put([]byte("a")), api.OK)
	must(t, "Force", j.Force(), api.OK)
	must(t, "Force", j.Force(), api.OK)
	mustHold(t, d, "l0", frame("a"), "")
	if j.Count() != 1 {
		t.Fatalf("Count() = %d behind Force", j.Count())
	}
	// Records that were found are records.
	j = opened(t, d, "s", "a")
	must(t, "Firm", func() api.Errno { d.Arm(0); return d.Firm() }(), api.ErrDown)
	must(t, "Force", j.Force(), api.ErrDown)
}

func TestForceDownWithoutRecords(t *testing.T) {
	d := formatted(t, "s")
	j := opened(t, d, "s")
	d.Arm(0)
	must(t, "Firm", d.Firm(), api.ErrDown)
	must(t, "Force", j.Force(), api.OK)
	must(t, "Put", j.Put(), api.OK)
	if j.Broken() {
		t.Fatal("it is broken by calls that do nothing")
	}
}

func TestSave(t *testing.T) {
	for _, s := range stateSizes {
		for _, forced := range []bool{false, true} {
			d := formatted(t, "old")
			j := opened(t, d, "old")
			for n := 1; n <= 12; n++ {
				must(t, "Put", j.Put(lists("a", "b")...), api.OK)
				if forced {
					must(t, "Force", j.Force(), api.OK)
				}
				must(t, "Save", j.Save([]byte(long(s.size))), api.OK)
				if j.Generation() != n || j.Count() != 0 || j.Broken() {
					t.Fatalf("Generation() = %d, Count() = %d, Broken() = %v behind %d Saves", j.Generation(), j.Count(), j.Broken(), n)
				}
				name := fmt.Sprint("c", n)
				mustName(t, d, name)
				mustHold(t, d, name, stateBytes(long(s.size)), "")
			}
			d.Crash()
			if j := opened(t, d, long(s.size)); j.Generation() != 12 {
				t.Fatalf("Generation() = %d", j.Generation())
			}
		}
	}
}

func TestSaveThenPut(t *testing.T) {
	d := formatted(t, "s")
	j := opened(t, d, "s")
	must(t, "Save", j.Save([]byte("u")), api.OK)
	mustName(t, d, "c1")
	d.Arm(0)
	must(t, "Force", j.Force(), api.OK)
	d.Arm(-1)
	must(t, "Put", j.Put([]byte("a")), api.OK)
	mustName(t, d, "c1", "l1")
	mustHold(t, d, "l1", "", frame("a"))
	must(t, "Force", j.Force(), api.OK)
	must(t, "Put", j.Put([]byte("b")), api.OK)
	d.Crash()
	if j := opened(t, d, "u", "a"); j.Generation() != 1 {
		t.Fatalf("Generation() = %d", j.Generation())
	}
}

func TestSaveOfTornRecords(t *testing.T) {
	// A file of records that has none any more goes with its generation.
	d := raw(t, "c0", stateBytes("s"), "l0", "x")
	j := opened(t, d, "s")
	mustHold(t, d, "l0", "", "")
	must(t, "Save", j.Save(nil), api.OK)
	mustName(t, d, "c1")
	opened(t, d, "")
}

func TestSaveFull(t *testing.T) {
	for _, s := range stateSizes {
		old := stateBytes("old") + frame("a", "b")
		d := made(t, len(old)+s.size+6*s.frames-1)
		must(t, "Format", journal.Format(d, []byte("old")), api.OK)
		j := opened(t, d, "old")
		must(t, "Put", j.Put([]byte("a")), api.OK)
		must(t, "Force", j.Force(), api.OK)
		must(t, "Put", j.Put([]byte("b")), api.OK)
		before := listed(d)
		must(t, "Save", j.Save([]byte(long(s.size))), api.ErrFull)
		if listed(d) != before || j.Generation() != 0 || j.Count() != 2 || j.Broken() {
			t.Fatalf("Save, which answered ErrFull, made %s of %s; %d, %d, %v", listed(d), before, j.Generation(), j.Count(), j.Broken())
		}
		must(t, "Force", j.Force(), api.OK)
		d.Crash()
		j = opened(t, d, "old", "a", "b")
		if s.size > 0 {
			must(t, "Save", j.Save([]byte(long(s.size)[1:])), api.OK)
			opened(t, d, long(s.size)[1:])
		}
	}
	d := formatted(t, "s")
	must(t, "Save", opened(t, d, "s").Save(make([]byte, 2*api.MaxDisk)), api.ErrFull)
	opened(t, d, "s")
}

func TestSaveLastGeneration(t *testing.T) {
	d := raw(t, "c9999998", stateBytes("s"), "l9999998", frame("a"))
	j := opened(t, d, "s", "a")
	must(t, "Save", j.Save([]byte("u")), api.OK)
	mustName(t, d, "c9999999")
	must(t, "Put", j.Put([]byte("b")), api.OK)
	before := listed(d)
	// There is no name for the next one: the generation stays, and nothing of the state, nor of its draft, is there.
	for _, size := range []int{0, 1, 5000, api.MaxDisk + 1} {
		must(t, "Save", j.Save(make([]byte, size)), api.ErrForm)
		if listed(d) != before || j.Generation() != 9999999 || j.Count() != 1 || j.Broken() {
			t.Fatalf("Save made %s of %s; %d, %d, %v", listed(d), before, j.Generation(), j.Count(), j.Broken())
		}
	}
	must(t, "Put", j.Put([]byte("c")), api.OK)
	must(t, "Force", j.Force(), api.OK)
	opened(t, d, "u", "b", "c")
	d.Arm(0)
	must(t, "Save", j.Save(nil), api.ErrDown)
	if !j.Broken() {
		t.Fatal("it isn't broken behind ErrDown")
	}
	d.Crash()
	opened(t, d, "u", "b", "c")
}

func TestSaveBesideStrangeFiles(t *testing.T) {
	// The disk is its maker's: who puts files there that the next generation would have must not spoil it.
	for _, strange := range []string{"t", "c1", "l1", "c7", "l7", "x"} {
		d := formatted(t, "s")
		j := opened(t, d, "s")
		must(t, "Put", j.Put([]byte("a")), api.OK)
		must(t, "Write", d.Write(strange, []byte(frame("strange"))), api.OK)
		must(t, "Firm", d.Firm(strange), api.OK)
		must(t, "Save", j.Save([]byte("u")), api.OK)
		d.Crash()
		if j := opened(t, d, "u"); j.Generation() != 1 {
			t.Fatalf("Generation() = %d beside %s", j.Generation(), strange)
		}
	}
	d := formatted(t, "s")
	j := opened(t, d, "s")
	must(t, "Write", d.Write("t"), api.OK)
	d.Arm(0)
	must(t, "Save", j.Save([]byte("u")), api.ErrDown)
	d.Crash()
	opened(t, d, "s")
}

func TestRecordsTakenAway(t *testing.T) {
	// Who drops the file of records gets the disk's own error.
	d := formatted(t, "s")
	j := opened(t, d, "s")
	must(t, "Put", j.Put([]byte("a")), api.OK)
	must(t, "Drop", d.Drop("l0"), api.OK)
	must(t, "Force", j.Force(), api.ErrNone)
	if j.Broken() {
		t.Fatal("it is broken, but has not met ErrDown")
	}
	must(t, "Save", j.Save([]byte("u")), api.OK)
	mustName(t, d, "c1")
}

func TestBroken(t *testing.T) {
	calls := map[string]func(j *journal.Journal) api.Errno{
		"Put":   func(j *journal.Journal) api.Errno { return j.Put([]byte("b")) },
		"Force": func(j *journal.Journal) api.Errno { return j.Force() },
		"Save":  func(j *journal.Journal) api.Errno { return j.Save([]byte("u")) },
	}
	for name, call := range calls {
		for _, down := range []bool{false, true} {
			d := raw(t, "c4", stateBytes("s"), "l4", frame("a"))
			j := opened(t, d, "s", "a")
			d.Arm(0)
			if down {
				must(t, "Firm", d.Firm(), api.ErrDown)
			}
			if j.Broken() {
				t.Fatal("it is broken, but has met nothing")
			}
			must(t, name, call(j), api.ErrDown)
			for range 2 {
				mustBeBroken(t, j, 4, 1)
				// The disk's power comes back, but not the journal.
				d.Crash()
			}
			mustHold(t, d, "l4", frame("a"), "")
			again := opened(t, d, "s", "a")
			must(t, name, call(again), api.OK)
		}
	}
}

// mustBeBroken asks that all but the three that tell answer ErrState, whatever else applies.
func mustBeBroken(t *testing.T, j *journal.Journal, generation, count int) {
	t.Helper()
	if !j.Broken() || j.Generation() != generation || j.Count() != count {
		t.Fatalf("Broken() = %v, Generation() = %d, Count() = %d, want %d, %d", j.Broken(), j.Generation(), j.Count(), generation, count)
	}
	must(t, "Put", j.Put([]byte("x")), api.ErrState)
	must(t, "Put", j.Put(), api.ErrState)
	must(t, "Put", j.Put(nil), api.ErrState)
	must(t, "Put", j.Put(make([]byte, api.MaxFrame+1)), api.ErrState)
	must(t, "Force", j.Force(), api.ErrState)
	must(t, "Save", j.Save([]byte("x")), api.ErrState)
	must(t, "Save", j.Save(nil), api.ErrState)
}

func TestPutWrongWhileDown(t *testing.T) {
	d := formatted(t, "s")
	j := opened(t, d, "s")
	d.Arm(0)
	must(t, "Firm", d.Firm(), api.ErrDown)
	// The least number goes first, and no change was tried.
	must(t, "Put", j.Put(nil), api.ErrShort)
	must(t, "Put", j.Put(make([]byte, api.MaxFrame+1)), api.ErrLong)
	if j.Broken() {
		t.Fatal("it is broken, but has not met ErrDown")
	}
	must(t, "Put", j.Put([]byte("a")), api.ErrDown)
	mustBeBroken(t, j, 0, 0)
}

func TestNil(t *testing.T) {
	var j *journal.Journal
	must(t, "Put", j.Put(), api.ErrNone)
	must(t, "Put", j.Put([]byte("a")), api.ErrNone)
	must(t, "Put", j.Put(nil, make([]byte, 5000)), api.ErrNone)
	must(t, "Force", j.Force(), api.ErrNone)
	must(t, "Save", j.Save(nil), api.ErrNone)
	must(t, "Save", j.Save([]byte("a")), api.ErrNone)
	if j.Generation() != 0 || j.Count() != 0 || j.Broken() {
		t.Fatal("a nil journal tells something")
	}
}

func TestSavedNil(t *testing.T) {
	for _, state := range [][]byte{nil, {}} {
		d := formatted(t, "s")
		must(t, "Save", opened(t, d, "s").Save(state), api.OK)
		mustHold(t, d, "c1", frame(""), "")
		opened(t, d, "")
	}
}

func TestJournalsApart(t *testing.T) {
	d, f := formatted(t, "s"), formatted(t, "u")
	j, k := opened(t, d, "s"), opened(t, f, "u")
	must(t, "Put", j.Put([]byte("a")), api.OK)
	must(t, "Save", k.Save([]byte("v")), api.OK)
	d.Arm(0)
	must(t, "Force", j.Force(), api.ErrDown)
	must(t, "Put", k.Put(lists("b", "c")...), api.OK)
	if j.Generation() != 0 || j.Count() != 1 || !j.Broken() || k.Generation() != 1 || k.Count() != 2 || k.Broken() {
		t.Fatal("one journal's calls are seen in the other")
	}
	opened(t, f, "v", "b", "c")
}

// roomy is a list of these bytes with spare room behind them, all of it 0xee.
func roomy(p string) []byte {
	all := bytes.Repeat([]byte{0xee}, len(p)+10)
	copy(all, p)
	return all[:len(p)]
}

// mustBeRoomy asks that a list of roomy is as it was, and its spare room too.
func mustBeRoomy(t *testing.T, what string, got []byte, want string) {
	t.Helper()
	if all := got[:cap(got)]; string(all[:len(want)]) != want || !bytes.Equal(all[len(want):], bytes.Repeat([]byte{0xee}, len(all)-len(want))) {
		t.Fatalf("%s was changed", what)
	}
}

// spoil writes over a list and its spare room.
func spoil(p []byte) {
	p = p[:cap(p)]
	for i := range p {
		p[i] ^= 0x55
	}
}

func TestArgumentsStay(t *testing.T) {
	big := long(api.MaxFrame + 3)
	d := made(t, api.MaxDisk)
	state := roomy(big)
	must(t, "Format", journal.Format(d, state), api.OK)
	mustBeRoomy(t, "Format's state", state, big)
	spoil(state)
	j := opened(t, d, big)

	records := append(make([][]byte, 0, 5), roomy("a"), roomy("bb"))
	records[:3][2] = roomy("spare")
	must(t, "Put", j.Put(records...), api.OK)
	must(t, "Put", j.Put(records[:3][2], nil), api.ErrShort)
	mustBeRoomy(t, "a record", records[0], "a")
	mustBeRoomy(t, "a record", records[1], "bb")
	mustBeRoomy(t, "a record in spare room", records[:3][2], "spare")
	spoil(records[0])
	spoil(records[1])
	must(t, "Force", j.Force(), api.OK)
	j = opened(t, d, big, "a", "bb")

	state = roomy(big)
	must(t, "Save", j.Save(state), api.OK)
	mustBeRoomy(t, "Save's state", state, big)
	spoil(state)
	opened(t, d, big)
}

func TestAnswersAreNew(t *testing.T) {
	d := raw(t, "c0", stateBytes("state"), "l0", frame("a", "bb", "ccc")+"x")
	_, first, _ := journal.Open(d)
	_, second, _ := journal.Open(d)
	for _, p := range append(slices.Clone(first.Records), first.State) {
		spoil(p)
	}
	for i := range first.Records[:cap(first.Records)] {
		first.Records[:cap(first.Records)][i] = nil
	}
	if string(second.State) != "state" || !slices.Equal(texts(second.Records), []string{"a", "bb", "ccc"}) {
		t.Fatalf("an answer shares memory with an earlier one: %q", second)
	}
	for i := range second.Records {
		spoil(second.Records[i])
		for k, record := range second.Records {
			if want := []string{"a", "bb", "ccc"}[k]; k != i && string(record) != want {
				t.Fatalf("record %d shares memory with %d", k, i)
			}
		}
		spoil(second.Records[i])
	}
	if string(second.State) != "state" {
		t.Fatal("the state shares memory with a record")
	}
	opened(t, d, "state", "a", "bb", "ccc")
}

func TestAnswersBesideAnEmptyFrame(t *testing.T) {
	d := raw(t, "c0", stateBytes("s"), "l0", frame("a", "", "secret"))
	_, found, e := journal.Open(d)
	must(t, "Open", e, api.OK)
	for _, record := range found.Records[len(found.Records):cap(found.Records)] {
		if record != nil {
			t.Fatalf("behind the records there stands %q", record)
		}
	}
}
