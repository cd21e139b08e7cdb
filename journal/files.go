package journal

import (
	"bytes"
	"slices"
	"strconv"

	"armillary/api"
	"armillary/disk"
	"armillary/seal"
)

const (
	// draft is the file in which a state is made firm ahead of its name.
	draft = "t"
	// stateKind and recordKind stand ahead of a generation's number in the names of its files.
	stateKind  = 'c'
	recordKind = 'l'
	// lastGeneration is the greatest whose files may have a name.
	lastGeneration = 9999999
	// frameHead is how many bytes of a frame stand ahead of those that it carries.
	frameHead = 6
)

// stateFile is the name of the file of a generation's state.
func stateFile(n int) string {
	return string(stateKind) + strconv.Itoa(n)
}

// recordFile is the name of the file of a generation's records.
func recordFile(n int) string {
	return string(recordKind) + strconv.Itoa(n)
}

// numbered is the generation of which a file of this name is one of a kind.
func numbered(name string, kind byte) (int, bool) {
	if name[0] != kind {
		return 0, false
	}
	n, err := strconv.Atoi(name[1:])
	// Written again, since Atoi takes noughts ahead.
	return n, err == nil && strconv.Itoa(n) == name[1:]
}

// newest is the greatest generation of which there is a state.
func newest(names []string) (int, bool) {
	greatest, there := 0, false
	for _, name := range names {
		if n, ok := numbered(name, stateKind); ok {
			greatest, there = max(greatest, n), true
		}
	}
	return greatest, there
}

// stale: is a file of this name a draft, or of another generation than n?
func stale(name string, n int) bool {
	if name == draft {
		return true
	}
	ofState, isState := numbered(name, stateKind)
	ofRecords, isRecords := numbered(name, recordKind)
	return isState && ofState != n || isRecords && ofRecords != n
}

// lay puts a state of generation n on the disk for good, by one change: it is firm ahead of having its name.
func lay(d *disk.Disk, n int, state []byte) api.Errno {
	name := stateFile(n)
	if n > lastGeneration {
		// The disk says itself that this is no name: behind its power, but ahead of its room, and nothing was written.
		return d.Swap(draft, name)
	}
	// The disk is its maker's, who may have put files there that would get mixed up with these.
	if e := drop(d, draft, recordFile(n)); e != api.OK {
		return e
	}
	if e := d.Write(draft, laid(state)...); e != api.OK {
		return e
	}
	if e := d.Firm(draft); e != api.OK {
		return e
	}
	return d.Swap(draft, name)
}

// laid is the frames in which a file holds a state.
func laid(state []byte) [][]byte {
	var frames [][]byte
	for piece := range slices.Chunk(state, api.MaxFrame) {
		frame, _ := seal.Frame(piece)
		frames = append(frames, frame)
	}
	end, _ := seal.Frame()
	return append(frames, end)
}

// sealed is a frame of each record.
func sealed(records [][]byte) ([][]byte, api.Errno) {
	for _, record := range records {
		if len(record) == 0 {
			return nil, api.ErrShort
		}
	}
	var frames [][]byte
	for _, record := range records {
		frame, e := seal.Frame(record)
		if e != api.OK {
			return nil, e
		}
		frames = append(frames, frame)
	}
	return frames, api.OK
}

// read is what a disk that is up has of generation n, of which there is a state.
func read(d *disk.Disk, n int) (Found, api.Errno) {
	file, _ := d.Read(stateFile(n))
	pieces, _ := seal.All(file)
	state := bytes.Join(pieces, nil)
	// A state is laid in one way alone, so that no other file than that holds it.
	if !bytes.Equal(file, bytes.Join(laid(state), nil)) {
		return Found{}, api.ErrForm
	}
	// Without a file there are no bytes either, and no records.
	file, _ = d.Read(recordFile(n))
	records, _ := seal.All(file)
	for i, record := range records {
		if len(record) == 0 {
			records = slices.Clone(records[:i])
			break
		}
	}
	return Found{State: state, Records: records}, api.OK
}

// mend leaves on the disk what was read of generation n, firm, and no other generation.
func mend(d *disk.Disk, n int, records [][]byte) api.Errno {
	if e := trim(d, recordFile(n), records); e != api.OK {
		return e
	}
	if e := firm(d, stateFile(n), recordFile(n)); e != api.OK {
		return e
	}
	return sweep(d, n)
}

// trim takes away what stands behind these records in their file.
func trim(d *disk.Disk, name string, records [][]byte) api.Errno {
	size := 0
	for _, record := range records {
		size += frameHead + len(record)
	}
	file, _ := d.Read(name)
	if size == len(file) {
		return api.OK
	}
	return d.Trim(name, size)
}

// firm makes those of these files firm that aren't.
func firm(d *disk.Disk, names ...string) api.Errno {
	var loose []string
	for _, name := range names {
		if d.Loose(name) > 0 {
			loose = append(loose, name)
		}
	}
	if len(loose) == 0 {
		return api.OK
	}
	return d.Firm(loose...)
}

// sweep drops the draft and the files of all generations but n.
func sweep(d *disk.Disk, n int) api.Errno {
	var names []string
	for _, name := range d.Names() {
		if stale(name, n) {
			names = append(names, name)
		}
	}
	return drop(d, names...)
}

// drop takes away those of these files that are there, by no change if there are none.
func drop(d *disk.Disk, names ...string) api.Errno {
	var there []string
	for _, name := range d.Names() {
		if slices.Contains(names, name) {
			there = append(there, name)
		}
	}
	if len(there) == 0 {
		return api.OK
	}
	return d.Drop(there...)
}
