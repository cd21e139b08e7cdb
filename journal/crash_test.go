package journal_test

import (
	"fmt"
	"math/rand"
	"slices"
	"strings"
	"testing"

	"armillary/api"
	"armillary/disk"
	"armillary/journal"
)

// tails are what the crashes of the tests keep of up to four files' loose bytes.
func tails() [][]int {
	all := [][]int{nil, {-1, -1, -1, -1}, {1 << 40, 1 << 40}}
	for i := range 40 {
		all = append(all, []int{i, i, i, i}, []int{0, i}, []int{i}, []int{0, 0, i}, []int{i, 3, 40 - i, 5})
	}
	return all
}

// filled is a disk with a journal of generation 3: its state is old, a and bb were forced, ccc was put.
func filled(t *testing.T) (*disk.Disk, *journal.Journal) {
	t.Helper()
	d := raw(t, "c3", stateBytes("old"))
	j := opened(t, d, "old")
	must(t, "Put", j.Put(lists("a", "bb")...), api.OK)
	must(t, "Force", j.Force(), api.OK)
	must(t, "Put", j.Put(lists("ccc", "d")...), api.OK)
	return d, j
}

// mustFind asks that Open finds the old generation, with all that was forced and a beginning of what was put, or, if it may be, the new one.
func mustFind(t *testing.T, what string, d *disk.Disk, forced, put []string, next string, may bool) {
	t.Helper()
	j, found, e := journal.Open(d)
	must(t, what+": Open", e, api.OK)
	records := texts(found.Records)
	switch all := slices.Concat(forced, put); j.Generation() {
	case 3:
		if string(found.State) != "old" || len(records) < len(forced) || len(records) > len(all) || !slices.Equal(records, all[:len(records)]) {
			t.Fatalf("%s: found %q, %q", what, found.State, records)
		}
	case 4:
		if !may || string(found.State) != next || len(records) != 0 {
			t.Fatalf("%s: found the new one, %.50q, %q", what, found.State, records)
		}
	default:
		t.Fatalf("%s: generation %d", what, j.Generation())
	}
	for _, name := range d.Names() {
		if own := fmt.Sprint(j.Generation()); name != "c"+own && name != "l"+own {
			t.Fatalf("%s: %s is left", what, name)
		}
		if d.Loose(name) != 0 {
			t.Fatalf("%s: %s is loose", what, name)
		}
	}
	// It is a journal like any other, and what it told is there for good.
	d.Crash()
	must(t, what+": Put", j.Put([]byte("more")), api.OK)
	must(t, what+": Force", j.Force(), api.OK)
	d.Crash()
	opened(t, d, string(found.State), append(records, "more")...)
}

func TestCrashAnytime(t *testing.T) {
	for _, keep := range tails() {
		d, _ := filled(t)
		d.Crash(keep...)
		mustFind(t, fmt.Sprint("a crash that keeps ", keep), d, []string{"a", "bb"}, []string{"ccc", "d"}, "", false)
	}
}

func TestSavePower(t *testing.T) {
	for _, next := range []string{"", "new", long(api.MaxFrame), long(api.MaxFrame + 1)} {
		for _, keep := range tails() {
			ended := false
			for n := 0; !ended; n++ {
				what := fmt.Sprintf("Save of %d bytes, %d changes, keeps %v", len(next), n, keep)
				d, j := filled(t)
				d.Arm(n)
				e := j.Save([]byte(next))
				if e == api.OK {
					ended = true
					if n < 3 {
						t.Fatalf("%s: it was OK", what)
					}
					d.Arm(-1)
					d.Crash(keep...)
					opened(t, d, next)
					continue
				}
				must(t, what, e, api.ErrDown)
				mustBeBroken(t, j, 3, 4)
				d.Crash(keep...)
				mustFind(t, what, d, []string{"a", "bb"}, []string{"ccc", "d"}, next, true)
			}
		}
	}
}

func TestSavePowerKeepsOldWhole(t *testing.T) {
	// A generation that stays, stays with all that was forced, and is gone only when the new one is whole.
	seen := map[int]int{}
	for n := range 4 {
		d, j := filled(t)
		must(t, "Force", j.Force(), api.OK)
		d.Arm(n)
		if j.Save([]byte("new")) == api.OK {
			continue
		}
		d.Crash()
		k, found, e := journal.Open(d)
		must(t, "Open", e, api.OK)
		if k.Generation() == 3 && !slices.Equal(texts(found.Records), []string{"a", "bb", "ccc", "d"}) {
			t.Fatalf("%d changes: records %q", n, found.Records)
		}
		seen[k.Generation()]++
	}
	if seen[3] == 0 || seen[4] == 0 {
		t.Fatalf("the power went on one side of the change alone: %v", seen)
	}
}

func TestFormatPower(t *testing.T) {
	for _, state := range []string{"", "state", long(api.MaxFrame + 1)} {
		for _, keep := range tails() {
			for n := 0; ; n++ {
				d := made(t, 20000)
				d.Arm(n)
				e := journal.Format(d, []byte(state))
				d.Crash(keep...)
				if e == api.OK {
					opened(t, d, state)
					break
				}
				must(t, "Format", e, api.ErrDown)
				// Not laid, or all of it.
				if _, found, e := journal.Open(d); e != api.ErrForm && (e != api.OK || string(found.State) != state || len(found.Records) > 0) {
					t.Fatalf("behind %d changes Open found %.50q, %q, %d", n, found.State, found.Records, e)
				}
			}
		}
	}
}

// unmended is a disk on which Open has all there is to do: torn records, some of them loose, a draft, and files of other generations.
func unmended(t *testing.T) *disk.Disk {
	t.Helper()
	d := raw(t, "c3", stateBytes("old"), "l3", frame("a", "bb"), "c2", stateBytes("older"), "l2", frame("x"), "t", stateBytes("newer"))
	must(t, "Write", d.Write("l3", []byte(frame("ccc", "d")+frame("torn")[:9])), api.OK)
	return d
}

func TestOpenPower(t *testing.T) {
	for _, keep := range tails() {
		met := 0
		for n := 0; ; n++ {
			what := fmt.Sprintf("Open, %d changes, keeps %v", n, keep)
			d := unmended(t)
			d.Arm(n)
			j, found, e := journal.Open(d)
			if e == api.OK {
				d.Arm(-1)
				d.Crash(keep...)
				// What it told is there for good.
				opened(t, d, "old", "a", "bb", "ccc", "d")
				mustName(t, d, "c3", "l3")
				break
			}
			met++
			if j != nil || found.State != nil || found.Records != nil || e != api.ErrDown {
				t.Fatalf("%s: %v, %v, %d", what, j, found, e)
			}
			// l3 stands at another place in the row of names till the others are dropped.
			at := slices.Index(d.Names(), "l3")
			d.Crash(append(make([]int, at), keep...)...)
			mustFind(t, what, d, []string{"a", "bb"}, []string{"ccc", "d"}, "", false)
		}
		if met < 3 {
			t.Fatalf("Open met ErrDown %d times, want one at each of its changes", met)
		}
	}
}

// A script is a journal used at random, with crashes at random changes and random tails, and what must be found told plainly.
type script struct {
	t      *testing.T
	r      *rand.Rand
	d      *disk.Disk
	j      *journal.Journal
	n      int
	state  string
	forced []string
	put    []string
	told   strings.Builder
}

// text is a text of up to so many bytes.
func (s *script) text(most int) string {
	p := make([]byte, s.r.Intn(most+1))
	s.r.Read(p)
	return string(p)
}

// records is some records that may be put.
func (s *script) records() []string {
	var all []string
	for range s.r.Intn(4) {
		if record := s.text(12); record != "" {
			all = append(all, record)
		}
	}
	return all
}

// step makes one call, and answers whether the power went in it, and which state it would have saved.
func (s *script) step() (bool, string, bool) {
	switch s.r.Intn(8) {
	case 0, 1, 2, 3:
		records := s.records()
		e := s.j.Put(lists(records...)...)
		fmt.Fprintf(&s.told, "Put %q: %d\n", records, e)
		if e == api.OK {
			s.put = append(s.put, records...)
		} else if e == api.ErrDown {
			return true, "", false
		} else {
			must(s.t, s.told.String(), e, api.ErrFull)
		}
	case 4, 5:
		e := s.j.Force()
		fmt.Fprintf(&s.told, "Force: %d\n", e)
		if e == api.ErrDown {
			return true, "", false
		}
		must(s.t, s.told.String(), e, api.OK)
		s.forced, s.put = append(s.forced, s.put...), nil
	case 6:
		next := s.text(60)
		e := s.j.Save([]byte(next))
		fmt.Fprintf(&s.told, "Save %q: %d\n", next, e)
		if e == api.ErrDown {
			return true, next, true
		}
		if e == api.OK {
			s.n, s.state, s.forced, s.put = s.n+1, next, nil, nil
		} else {
			must(s.t, s.told.String(), e, api.ErrFull)
		}
	case 7:
		// A crash between calls.
		return s.r.Intn(4) == 0, "", false
	}
	if s.j.Count() != len(s.forced)+len(s.put) || s.j.Generation() != s.n || s.j.Broken() {
		s.t.Fatalf("%s: Count() = %d, Generation() = %d, Broken() = %v", s.told.String(), s.j.Count(), s.j.Generation(), s.j.Broken())
	}
	return false, "", false
}

// open opens the journal, perhaps with the power going in it more than once, and takes what is found if it may be.
func (s *script) open(next string, may bool) {
	for {
		s.d.Crash(s.r.Intn(200), s.r.Intn(200), s.r.Intn(200), s.r.Intn(200))
		s.d.Arm(s.r.Intn(6) - 1)
		j, found, e := journal.Open(s.d)
		if e == api.ErrDown {
			continue
		}
		must(s.t, s.told.String()+"Open", e, api.OK)
		s.d.Arm(s.r.Intn(30))
		records := texts(found.Records)
		fmt.Fprintf(&s.told, "Open: %d, %q, %q\n", j.Generation(), found.State, records)
		all := slices.Concat(s.forced, s.put)
		old := j.Generation() == s.n && string(found.State) == s.state && len(records) >= len(s.forced) && len(records) <= len(all) && slices.Equal(records, all[:len(records)])
		young := may && j.Generation() == s.n+1 && string(found.State) == next && len(records) == 0
		if !old && !young {
			s.t.Fatalf("%swant %d, %q, %q, %q, or %v %q", s.told.String(), s.n, s.state, s.forced, s.put, may, next)
		}
		s.j, s.n, s.state, s.forced, s.put = j, j.Generation(), string(found.State), records, nil
		return
	}
}

func TestScripts(t *testing.T) {
	for seed := range 300 {
		r := rand.New(rand.NewSource(int64(seed)))
		d := made(t, 150+r.Intn(2000))
		s := &script{t: t, r: r, d: d, state: "begin"}
		must(t, "Format", journal.Format(d, []byte(s.state)), api.OK)
		s.open("", false)
		for range 100 {
			if crash, next, may := s.step(); crash {
				s.open(next, may)
			}
		}
	}
}
