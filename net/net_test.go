package net_test

import (
	"bytes"
	"math"
	"slices"
	"testing"

	"armillary/api"
	"armillary/net"
)

func made(t *testing.T, nodes int) *net.Net {
	t.Helper()
	n, e := net.New(nodes)
	if n == nil || e != api.OK {
		t.Fatalf("New(%d) = %v, %d", nodes, n, e)
	}
	return n
}

// must stops the test if e isn't want.
func must(t *testing.T, what string, e, want api.Errno) {
	t.Helper()
	if e != want {
		t.Fatalf("%s = %d, want %d", what, e, want)
	}
}

func letter(from, to int, body string) net.Letter {
	return net.Letter{From: from, To: to, Body: []byte(body)}
}

// mustFly stops the test unless these bodies are under way, in this order.
func mustFly(t *testing.T, n *net.Net, bodies ...string) {
	t.Helper()
	var got []string
	for _, l := range n.Letters() {
		got = append(got, string(l.Body))
	}
	if !slices.Equal(got, bodies) || n.Len() != len(bodies) {
		t.Fatalf("under way: %q, %d, want %q", got, n.Len(), bodies)
	}
}

// mustCome stops the test unless the call answered that letter.
func mustCome(t *testing.T, l net.Letter, e api.Errno, want net.Letter) {
	t.Helper()
	if e != api.OK || !same(l, want) {
		t.Fatalf("%d came, %d, want %d", l, e, want)
	}
}

// mustRefuse stops the test unless the call answered that error, and no letter.
func mustRefuse(t *testing.T, l net.Letter, e, want api.Errno) {
	t.Helper()
	if e != want || !same(l, net.Letter{}) {
		t.Fatalf("%d came, %d, want %d", l, e, want)
	}
}

func TestExample(t *testing.T) {
	n := made(t, 2)
	first, second := letter(0, 1, "first"), letter(1, 0, "second")
	if k := n.Post(first, second); k != 2 {
		t.Fatal("Post of two:", k)
	}
	n.Split(0, 1, true)
	l, e := n.Take(1)
	mustRefuse(t, l, e, api.ErrState)
	l, e = n.Take(0)
	mustRefuse(t, l, e, api.ErrState)
	n.Split(0, 1, false)
	l, e = n.Take(1)
	mustCome(t, l, e, second)
	l, e = n.Take(0)
	mustCome(t, l, e, first)
	mustFly(t, n)
}

func TestNew(t *testing.T) {
	for nodes, want := range map[int]api.Errno{
		math.MinInt: api.ErrArg, -16: api.ErrArg, -1: api.ErrArg, 0: api.ErrArg,
		1: api.OK, 2: api.OK, 15: api.OK, 16: api.OK,
		17: api.ErrArg, 1<<32 + 1: api.ErrArg, math.MaxInt: api.ErrArg,
	} {
		n, e := net.New(nodes)
		if e != want || (n != nil) != (want == api.OK) {
			t.Errorf("New(%d) = %v, %d, want %d", nodes, n, e, want)
			continue
		}
		if n.Len() != 0 || len(n.Letters()) != 0 || n.Open(0) {
			t.Errorf("New(%d) has letters", nodes)
		}
	}
}

// TestNodes: between all nodes of nets of all sizes letters come, and between no others.
func TestNodes(t *testing.T) {
	for nodes := 1; nodes <= 16; nodes++ {
		n, m := made(t, nodes), &model{nodes: nodes}
		for from := -2; from <= 18; from++ {
			for to := -2; to <= 18; to++ {
				want := 0
				if from >= 0 && to >= 0 && from < nodes && to < nodes && from != to {
					want = 1
				}
				l := net.Letter{From: from, To: to, Body: []byte{byte(from), byte(to)}}
				if got := n.Post(l); got != want {
					t.Fatalf("of %d nodes: Post from %d to %d = %d", nodes, from, to, got)
				}
				m.post(l)
				wantE := api.ErrArg
				if want == 1 {
					wantE = api.OK
				}
				must(t, "Split", n.Split(from, to, false), wantE)
			}
		}
		if n.Len() != nodes*(nodes-1) {
			t.Fatalf("of %d nodes: %d letters", nodes, n.Len())
		}
		mustHold(t, n, m)
	}
}

func TestFarNodes(t *testing.T) {
	n := made(t, 16)
	for _, far := range []int{math.MinInt, math.MinInt32, -16, 16, 32, 1 << 32, 1<<32 + 1, math.MaxInt} {
		if k := n.Post(letter(far, 0, "a"), letter(0, far, "b"), letter(far, far, "c")); k != 0 {
			t.Errorf("Post of letters of node %d: %d", far, k)
		}
		must(t, "Split", n.Split(far, 0, true), api.ErrArg)
		must(t, "Split", n.Split(0, far, true), api.ErrArg)
	}
	mustFly(t, n)
}

func TestPost(t *testing.T) {
	n := made(t, 3)
	if k := n.Post(); k != 0 {
		t.Error("Post of none:", k)
	}
	mustFly(t, n)
	if k := n.Post(letter(0, 1, "a")); k != 1 {
		t.Error("Post of one:", k)
	}
	mixed := []net.Letter{
		letter(0, 0, "x"), letter(2, 0, "b"), letter(0, 3, "x"), letter(3, 0, "x"), letter(-1, 0, "x"), letter(1, 2, "c"), letter(0, -1, "x"),
		{From: 0, To: 1, Body: make([]byte, 4103)}, letter(2, 1, "d"), letter(2, 2, "x"), letter(0, 1, "a"),
	}
	if k := n.Post(mixed...); k != 4 {
		t.Error("Post of good ones and bad ones:", k)
	}
	mustFly(t, n, "a", "b", "c", "d", "a")
	if k := n.Post(letter(1, 1, "x"), letter(9, 1, "x")); k != 0 {
		t.Error("Post of bad ones:", k)
	}
	mustFly(t, n, "a", "b", "c", "d", "a")
}

// TestBodies: as long as a frame may be, and no longer; also without bytes.
func TestBodies(t *testing.T) {
	for size, want := range map[int]int{0: 1, 1: 1, 4095: 1, 4096: 1, 4097: 1, 4101: 1, 4102: 1, 4103: 0, 4104: 0, 8204: 0, 1 << 16: 0} {
		n := made(t, 2)
		body := bytes.Repeat([]byte{0xa5}, size)
		if k := n.Post(net.Letter{From: 1, To: 0, Body: body}); k != want || n.Len() != want {
			t.Errorf("Post of %d bytes: %d, %d under way", size, k, n.Len())
			continue
		}
		if want == 1 {
			l, e := n.Take(0)
			mustCome(t, l, e, net.Letter{From: 1, To: 0, Body: body})
		}
	}
	n := made(t, 2)
	if k := n.Post(net.Letter{To: 1}); k != 1 {
		t.Error("Post of no body:", k)
	}
	l, e := n.Take(0)
	mustCome(t, l, e, net.Letter{To: 1})
}

// five is a net of three nodes with five letters under way.
func five(t *testing.T) *net.Net {
	t.Helper()
	n := made(t, 3)
	if k := n.Post(letter(0, 1, "a"), letter(1, 0, "b"), letter(1, 2, "c"), letter(0, 1, "d"), letter(2, 0, "e")); k != 5 {
		t.Fatal("Post of five:", k)
	}
	return n
}

func TestTake(t *testing.T) {
	for i, rest := range [][]string{{"b", "c", "d", "e"}, {"a", "c", "d", "e"}, {"a", "b", "d", "e"}, {"a", "b", "c", "e"}, {"a", "b", "c", "d"}} {
		n := five(t)
		want := n.Letters()[i]
		l, e := n.Take(i)
		mustCome(t, l, e, want)
		mustFly(t, n, rest...)
		l, e = n.Take(4)
		mustRefuse(t, l, e, api.ErrArg)
		n.Post(letter(2, 1, "f"))
		mustFly(t, n, append(rest, "f")...)
	}
}

func TestDrop(t *testing.T) {
	for i, rest := range [][]string{{"b", "c", "d", "e"}, {"a", "c", "d", "e"}, {"a", "b", "d", "e"}, {"a", "b", "c", "e"}, {"a", "b", "c", "d"}} {
		n := five(t)
		must(t, "Drop", n.Drop(i), api.OK)
		mustFly(t, n, rest...)
		must(t, "Drop", n.Drop(4), api.ErrArg)
		n.Post(letter(2, 1, "f"))
		mustFly(t, n, append(rest, "f")...)
	}
}

func TestCopy(t *testing.T) {
	n := five(t)
	for i, want := range n.Letters() {
		for range 3 {
			l, e := n.Copy(i)
			mustCome(t, l, e, want)
		}
	}
	mustFly(t, n, "a", "b", "c", "d", "e")
}

func TestPlacesWithoutALetter(t *testing.T) {
	for _, n := range []*net.Net{made(t, 3), five(t)} {
		before := n.Letters()
		for _, i := range []int{math.MinInt, -6, -1, len(before), len(before) + 1, 1 << 32, math.MaxInt} {
			l, e := n.Take(i)
			mustRefuse(t, l, e, api.ErrArg)
			l, e = n.Copy(i)
			mustRefuse(t, l, e, api.ErrArg)
			must(t, "Drop", n.Drop(i), api.ErrArg)
			if n.Open(i) {
				t.Errorf("Open(%d) of %d letters", i, len(before))
			}
		}
		if !slices.EqualFunc(n.Letters(), before, same) {
			t.Errorf("letters are other ones: %d, %d", before, n.Letters())
		}
	}
}

// TestOrder: till none is left, from in front, from behind, and from the middle.
func TestOrder(t *testing.T) {
	n := five(t)
	for _, want := range []string{"a", "b", "c", "d", "e"} {
		if l, e := n.Take(0); e != api.OK || string(l.Body) != want {
			t.Fatalf("Take(0) = %q, %d, want %q", l.Body, e, want)
		}
	}
	mustFly(t, n)
	n.Post(letter(0, 1, "f"), letter(0, 2, "g"), letter(0, 1, "h"), letter(2, 1, "i"))
	for _, want := range []string{"i", "h", "g", "f"} {
		if l, e := n.Take(n.Len() - 1); e != api.OK || string(l.Body) != want {
			t.Fatalf("Take of the last = %q, %d, want %q", l.Body, e, want)
		}
	}
	n = five(t)
	must(t, "Drop(1)", n.Drop(1), api.OK)
	mustFly(t, n, "a", "c", "d", "e")
	l, e := n.Take(2)
	mustCome(t, l, e, letter(0, 1, "d"))
	mustFly(t, n, "a", "c", "e")
	n.Post(letter(1, 0, "f"))
	must(t, "Drop(2)", n.Drop(2), api.OK)
	mustFly(t, n, "a", "c", "f")
}

// mustBeOpen stops the test unless the letters come, and may come, as told.
func mustBeOpen(t *testing.T, n *net.Net, open ...bool) {
	t.Helper()
	for i, want := range open {
		_, e := n.Copy(i)
		if n.Open(i) != want || (e == api.OK) != want || (e == api.ErrState) == want {
			t.Fatalf("Open(%d) = %t, Copy: %d, want %t", i, n.Open(i), e, want)
		}
	}
}

func TestSplit(t *testing.T) {
	for _, way := range [][2]int{{0, 1}, {1, 0}} {
		n := five(t)
		must(t, "Split", n.Split(way[0], way[1], true), api.OK)
		mustBeOpen(t, n, false, false, true, false, true)
		for _, i := range []int{0, 1, 3} {
			l, e := n.Take(i)
			mustRefuse(t, l, e, api.ErrState)
		}
		mustFly(t, n, "a", "b", "c", "d", "e")
		l, e := n.Take(2)
		mustCome(t, l, e, letter(1, 2, "c"))
		mustBeOpen(t, n, false, false, false, true)
		// Letters that are split from their nodes are lost as others are, and posted, too.
		must(t, "Drop", n.Drop(1), api.OK)
		if k := n.Post(letter(0, 1, "f"), letter(1, 0, "g"), letter(1, 2, "h")); k != 3 {
			t.Fatal("Post between nodes that are split:", k)
		}
		mustFly(t, n, "a", "d", "e", "f", "g", "h")
		mustBeOpen(t, n, false, false, true, false, false, true)
	}
}

// TestSplitIsTakenBack: from either side, whoever split.
func TestSplitIsTakenBack(t *testing.T) {
	for _, way := range [][4]int{{0, 1, 0, 1}, {0, 1, 1, 0}, {1, 0, 0, 1}, {1, 0, 1, 0}} {
		n := five(t)
		for range 2 {
			must(t, "Split", n.Split(way[0], way[1], true), api.OK)
		}
		must(t, "Split", n.Split(1, 2, true), api.OK)
		mustBeOpen(t, n, false, false, false, false, true)
		must(t, "Split", n.Split(way[2], way[3], false), api.OK)
		mustBeOpen(t, n, true, true, false, true, true)
		must(t, "Split", n.Split(way[2], way[3], false), api.OK)
		mustBeOpen(t, n, true, true, false, true, true)
		l, e := n.Take(0)
		mustCome(t, l, e, letter(0, 1, "a"))
	}
}

func TestHeal(t *testing.T) {
	n := five(t)
	n.Heal()
	mustBeOpen(t, n, true, true, true, true, true)
	n.Split(0, 1, true)
	n.Split(2, 1, true)
	n.Split(2, 0, true)
	mustBeOpen(t, n, false, false, false, false, false)
	n.Heal()
	mustBeOpen(t, n, true, true, true, true, true)
	mustFly(t, n, "a", "b", "c", "d", "e")
	n.Split(2, 0, true)
	mustBeOpen(t, n, true, true, true, true, false)
}

func TestSplitErrors(t *testing.T) {
	n := five(t)
	n.Split(1, 2, true)
	for _, way := range [][2]int{{0, 0}, {1, 1}, {2, 2}, {-1, -1}, {3, 3}, {-1, 0}, {0, -1}, {3, 0}, {0, 3}, {2, 3}, {-1, 3}} {
		for _, split := range []bool{true, false} {
			must(t, "Split", n.Split(way[0], way[1], split), api.ErrArg)
		}
	}
	mustBeOpen(t, n, true, true, false, true, true)
}

// TestSplitOfEachPair: no other two are split with it, in nets of all sizes.
func TestSplitOfEachPair(t *testing.T) {
	for nodes := 2; nodes <= 16; nodes++ {
		n, m := made(t, nodes), &model{nodes: nodes}
		for from := range nodes {
			for to := range nodes {
				n.Post(letter(from, to, "a"))
				m.post(letter(from, to, "a"))
			}
		}
		for a := range nodes {
			for b := range nodes {
				for _, split := range []bool{true, false} {
					must(t, "Split", n.Split(a, b, split), m.splitOrNot(a, b, split))
					mustOpenAs(t, n, m)
				}
			}
		}
	}
}

func mustOpenAs(t *testing.T, n *net.Net, m *model) {
	t.Helper()
	for i := range m.letters {
		if _, e := m.comes(i); n.Open(i) != (e == api.OK) {
			t.Fatalf("Open of %v = %t", m.letters[i], n.Open(i))
		}
	}
}

// TestAllSplit: every two of the most nodes.
func TestAllSplit(t *testing.T) {
	n := made(t, 16)
	for a := range 16 {
		for b := range a {
			must(t, "Split", n.Split(a, b, true), api.OK)
			n.Post(letter(a, b, "a"), letter(b, a, "b"))
		}
	}
	for i := range n.Len() {
		if n.Open(i) {
			t.Fatalf("letter %d may come", i)
		}
	}
	n.Heal()
	for i := range n.Len() {
		if !n.Open(i) {
			t.Fatalf("letter %d may not come", i)
		}
	}
}

func TestMany(t *testing.T) {
	const count = 20000
	n := made(t, 2)
	for i := range count {
		if k := n.Post(net.Letter{From: i % 2, To: 1 - i%2, Body: []byte{byte(i), byte(i >> 8)}}); k != 1 {
			t.Fatal("Post:", k)
		}
	}
	for i := range count {
		l, e := n.Take(0)
		mustCome(t, l, e, net.Letter{From: i % 2, To: 1 - i%2, Body: []byte{byte(i), byte(i >> 8)}})
		// One comes, one goes, so that the net is never empty.
		if i%2 == 0 && n.Post(letter(0, 1, "late")) != 1 {
			t.Fatal("Post was refused")
		}
	}
	if n.Len() != count/2 {
		t.Fatal("left:", n.Len())
	}
	for n.Len() > 0 {
		l, e := n.Take(0)
		mustCome(t, l, e, letter(0, 1, "late"))
	}
}
