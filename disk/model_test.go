package disk_test

import (
	"fmt"
	"math/rand"
	"regexp"
	"slices"
	"testing"

	"armillary/api"
	"armillary/disk"
)

// entry is a file of a model: its firm bytes, and its loose ones, apart.
type entry struct {
	name, firm, loose string
}

// model is a disk told plainly: a list of files by rising names, and how many changes are left (-1: any number).
type model struct {
	room, left int
	down       bool
	list       []entry
}

var aName = regexp.MustCompile(`^[a-z0-9]{1,8}$`)

// at is where a file stands, or -1.
func (m *model) at(name string) int {
	return slices.IndexFunc(m.list, func(f entry) bool { return f.name == name })
}

// fails: does the power go, or is it gone?
func (m *model) fails() bool {
	if m.left == 0 {
		m.down = true
	}
	if !m.down && m.left > 0 {
		m.left--
	}
	return m.down
}

func (m *model) used() int {
	sum := 0
	for _, f := range m.list {
		sum += len(f.firm + f.loose)
	}
	return sum
}

func (m *model) write(name string, p string) api.Errno {
	switch i := m.at(name); {
	case m.fails():
		return api.ErrDown
	case !aName.MatchString(name):
		return api.ErrForm
	case m.used()+len(p) > m.room, i < 0 && len(m.list) == api.MaxFiles:
		return api.ErrFull
	case i < 0:
		m.list = append(m.list, entry{name: name, loose: p})
		slices.SortFunc(m.list, func(a, b entry) int {
			if a.name < b.name {
				return -1
			}
			return 1
		})
	default:
		m.list[i].loose += p
	}
	return api.OK
}

func (m *model) each(names []string, do func(i int)) api.Errno {
	if m.fails() {
		return api.ErrDown
	}
	for _, name := range names {
		if m.at(name) < 0 {
			return api.ErrNone
		}
	}
	for _, name := range names {
		if i := m.at(name); i >= 0 {
			do(i)
		}
	}
	return api.OK
}

func (m *model) firm(names []string) api.Errno {
	return m.each(names, func(i int) {
		m.list[i].firm, m.list[i].loose = m.list[i].firm+m.list[i].loose, ""
	})
}

func (m *model) drop(names []string) api.Errno {
	return m.each(names, func(i int) { m.list = slices.Delete(m.list, i, i+1) })
}

func (m *model) swap(from, to string) api.Errno {
	switch i := m.at(from); {
	case m.fails():
		return api.ErrDown
	case !aName.MatchString(to):
		return api.ErrForm
	case i < 0:
		return api.ErrNone
	default:
		firm := m.list[i].firm
		m.list = slices.DeleteFunc(m.list, func(f entry) bool { return f.name == from || f.name == to })
		m.list = append(m.list, entry{name: to, firm: firm})
		slices.SortFunc(m.list, func(a, b entry) int {
			if a.name < b.name {
				return -1
			}
			return 1
		})
	}
	return api.OK
}

func (m *model) trim(name string, size int) api.Errno {
	i := m.at(name)
	switch {
	case m.fails():
		return api.ErrDown
	case i < 0:
		return api.ErrNone
	case size < 0 || size > len(m.list[i].firm+m.list[i].loose):
		return api.ErrArg
	case size <= len(m.list[i].firm):
		m.list[i].firm, m.list[i].loose = m.list[i].firm[:size], ""
	default:
		m.list[i].loose = m.list[i].loose[:size-len(m.list[i].firm)]
	}
	return api.OK
}

func (m *model) crash(keep []int) {
	for i := range m.list {
		f := &m.list[i]
		if i < len(keep) && keep[i] >= 0 {
			f.firm += f.loose[:keep[i]%(len(f.loose)+1)]
		}
		f.loose = ""
	}
	m.down, m.left = false, -1
}

func (m *model) told() map[string]told {
	want := map[string]told{}
	for _, f := range m.list {
		want[f.name] = told{f.firm + f.loose, len(f.loose)}
	}
	return want
}

// someNames are few, so that files are met again; some are none.
func someNames(r *rand.Rand) string {
	const all = "abcdefghijklmnopqrstuvwxyz"
	switch r.Intn(12) {
	case 0:
		return notNames[r.Intn(len(notNames))]
	case 1, 2:
		return fmt.Sprint(r.Intn(12))
	}
	return all[:1+r.Intn(api.MaxName)]
}

func lists(r *rand.Rand, m *model) []string {
	var names []string
	for range r.Intn(4) {
		if len(m.list) > 0 && r.Intn(8) > 0 {
			names = append(names, m.list[r.Intn(len(m.list))].name)
		} else {
			names = append(names, someNames(r))
		}
	}
	return names
}

// step is one random call of both: what it was, and what each answered.
func step(r *rand.Rand, d *disk.Disk, m *model) (string, api.Errno, api.Errno) {
	switch r.Intn(16) {
	case 0, 1:
		names := lists(r, m)
		return fmt.Sprint("Firm ", names), d.Firm(names...), m.firm(names)
	case 2:
		names := lists(r, m)
		return fmt.Sprint("Drop ", names), d.Drop(names...), m.drop(names)
	case 3, 4:
		from, to := someNames(r), someNames(r)
		return fmt.Sprint("Swap ", from, " ", to), d.Swap(from, to), m.swap(from, to)
	case 5, 6:
		name, size := someNames(r), r.Intn(12)-1
		return fmt.Sprint("Trim ", name, " ", size), d.Trim(name, size), m.trim(name, size)
	case 7:
		n := r.Intn(12) - 2
		d.Arm(n)
		m.left = max(n, -1)
		return fmt.Sprint("Arm ", n), api.OK, api.OK
	case 8, 9:
		var keep []int
		for range r.Intn(api.MaxFiles + 3) {
			keep = append(keep, r.Intn(12)-2)
		}
		d.Crash(keep...)
		m.crash(keep)
		return fmt.Sprint("Crash ", keep), api.OK, api.OK
	}
	name, parts, all := someNames(r), [][]byte{}, ""
	for range r.Intn(4) {
		part := make([]byte, r.Intn(4))
		r.Read(part)
		parts = append(parts, part)
		all += string(part)
	}
	return fmt.Sprint("Write ", name, " ", parts), d.Write(name, parts...), m.write(name, all)
}

// TestModel holds a disk against the model, behind each of many random calls.
func TestModel(t *testing.T) {
	for seed := range int64(300) {
		r := rand.New(rand.NewSource(seed))
		room := []int{0, 5, 30, 100, api.MaxDisk}[seed%5]
		d, m := made(t, room), &model{room: room, left: -1}
		for range 300 {
			what, got, want := step(r, d, m)
			must(t, fmt.Sprintf("seed %d: %s", seed, what), got, want)
			if m.down {
				mustTell(t, d, m.told())
			} else {
				mustHold(t, d, m.told())
			}
			if d.Up() == m.down {
				t.Fatalf("seed %d: %s: Up() = %t", seed, what, d.Up())
			}
		}
	}
}
