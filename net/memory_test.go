package net_test

import (
	"bytes"
	"testing"

	"armillary/api"
	"armillary/net"
)

// whole is a list with its spare room.
func whole[E any](l []E) []E {
	return l[:cap(l)]
}

func fill[E any](l []E, with E) {
	for i := range whole(l) {
		whole(l)[i] = with
	}
}

// scribble writes over letters and their bodies, the spare room too.
func scribble(letters []net.Letter) {
	for _, l := range letters {
		fill(l.Body, 0xee)
	}
	fill(letters, letter(2, 2, "scribble"))
}

// roomy is bytes with spare room in which something stands.
func roomy(s string) []byte {
	return append([]byte(s), 7, 7, 7)[:len(s)]
}

func TestArgumentsStay(t *testing.T) {
	n := made(t, 3)
	letters := append([]net.Letter{{To: 1, Body: roomy("a")}, {To: 7, Body: roomy("x")}, {To: 2, Body: roomy("b")}}, letter(0, 1, "spare"))[:3]
	n.Post(letters...)
	n.Take(0)
	n.Drop(0)
	all := whole(letters)[:4]
	for i, want := range []string{"a", "x", "b", "spare"} {
		if string(all[i].Body) != want || all[i].From != 0 || all[i].To != []int{1, 7, 2, 1}[i] {
			t.Errorf("letter %d is %v behind Post", i, all[i])
		}
		if i < 3 && !bytes.Equal(all[i].Body[:4], []byte{want[0], 7, 7, 7}) {
			t.Errorf("the spare room of body %d is %d", i, all[i].Body[:4])
		}
	}
}

func TestArgumentsArentKept(t *testing.T) {
	n := made(t, 3)
	letters := []net.Letter{letter(0, 1, "a"), letter(1, 2, "b"), letter(0, 0, "x"), letter(2, 0, "c")}
	if k := n.Post(letters...); k != 3 {
		t.Fatal("Post:", k)
	}
	scribble(letters)
	mustFly(t, n, "a", "b", "c")
	l, e := n.Take(1)
	mustCome(t, l, e, letter(1, 2, "b"))
}

func TestAnswersAreNew(t *testing.T) {
	n := five(t)
	scribble(n.Letters())
	mustFly(t, n, "a", "b", "c", "d", "e")
	for i := range n.Len() {
		l, e := n.Copy(i)
		must(t, "Copy", e, api.OK)
		fill(l.Body, 0xee)
	}
	mustFly(t, n, "a", "b", "c", "d", "e")
	earlier := n.Letters()
	copied, _ := n.Copy(0)
	taken, _ := n.Take(0)
	fill(taken.Body, 0xee)
	if string(copied.Body) != "a" || string(earlier[0].Body) != "a" {
		t.Errorf("Take shares its body: %q, %q", copied.Body, earlier[0].Body)
	}
	n.Post(letter(2, 1, "f"))
	mustFly(t, n, "b", "c", "d", "e", "f")
	if earlier[4].Body[0] != 'e' || len(earlier) != 5 {
		t.Errorf("an earlier answer is changed: %v", earlier)
	}
}

// TestBodiesOfOneAnswer: none shares its memory with another one, though one body was posted often.
func TestBodiesOfOneAnswer(t *testing.T) {
	n := made(t, 2)
	l := net.Letter{To: 1, Body: roomy("abc")}
	n.Post(l, l, l)
	letters := n.Letters()
	fill(letters[1].Body, 0xee)
	if string(letters[0].Body) != "abc" || string(letters[2].Body) != "abc" {
		t.Errorf("bodies of one answer share their memory: %v", letters)
	}
	taken, _ := n.Take(0)
	fill(taken.Body, 0xee)
	mustFly(t, n, "abc", "abc")
}

func TestNetsAreApart(t *testing.T) {
	a, b := five(t), five(t)
	a.Split(0, 1, true)
	a.Take(2)
	a.Drop(0)
	mustFly(t, b, "a", "b", "c", "d", "e")
	mustBeOpen(t, b, true, true, true, true, true)
	b.Heal()
	mustBeOpen(t, a, false, false, true)
}

func TestNilNet(t *testing.T) {
	var n *net.Net
	if k := n.Post(letter(0, 1, "a"), letter(0, 0, "b")); k != 0 || n.Post() != 0 {
		t.Error("Post of a nil net:", k)
	}
	for _, i := range []int{-1, 0, 1} {
		l, e := n.Take(i)
		mustRefuse(t, l, e, api.ErrNone)
		l, e = n.Copy(i)
		mustRefuse(t, l, e, api.ErrNone)
		must(t, "Drop", n.Drop(i), api.ErrNone)
		if n.Open(i) {
			t.Error("a letter of a nil net may come")
		}
	}
	for _, way := range [][2]int{{0, 1}, {1, 1}, {-1, 17}} {
		must(t, "Split", n.Split(way[0], way[1], true), api.ErrNone)
		must(t, "Split", n.Split(way[0], way[1], false), api.ErrNone)
	}
	n.Heal()
	if n.Len() != 0 || len(n.Letters()) != 0 {
		t.Error("a nil net has letters")
	}
}
