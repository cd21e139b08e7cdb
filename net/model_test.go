package net_test

import (
	"bytes"
	"fmt"
	"math/rand"
	"slices"
	"testing"

	"armillary/api"
	"armillary/net"
)

// model is a net as the chapter tells it, as plainly as may be: who is split from whom, told both ways.
type model struct {
	nodes   int
	letters []net.Letter
	split   [16][16]bool
}

func (m *model) apart(a, b int) bool {
	return a >= 0 && b >= 0 && a < m.nodes && b < m.nodes && a != b
}

func (m *model) post(letters ...net.Letter) int {
	count := 0
	for _, l := range letters {
		if m.apart(l.From, l.To) && len(l.Body) <= 4102 {
			m.letters = append(m.letters, net.Letter{From: l.From, To: l.To, Body: slices.Clone(l.Body)})
			count++
		}
	}
	return count
}

func (m *model) comes(i int) (net.Letter, api.Errno) {
	if i < 0 || i >= len(m.letters) {
		return net.Letter{}, api.ErrArg
	}
	l := m.letters[i]
	if m.split[l.From][l.To] {
		return net.Letter{}, api.ErrState
	}
	return l, api.OK
}

func (m *model) drop(i int) api.Errno {
	if i < 0 || i >= len(m.letters) {
		return api.ErrArg
	}
	m.letters = append(slices.Clone(m.letters[:i]), m.letters[i+1:]...)
	return api.OK
}

func (m *model) take(i int) (net.Letter, api.Errno) {
	l, e := m.comes(i)
	if e == api.OK {
		m.drop(i)
	}
	return l, e
}

func (m *model) splitOrNot(a, b int, split bool) api.Errno {
	if !m.apart(a, b) {
		return api.ErrArg
	}
	m.split[a][b], m.split[b][a] = split, split
	return api.OK
}

func same(a, b net.Letter) bool {
	return a.From == b.From && a.To == b.To && bytes.Equal(a.Body, b.Body)
}

// mustHold stops the test unless the net tells of itself what the model does.
func mustHold(t *testing.T, n *net.Net, m *model) {
	t.Helper()
	if got := n.Letters(); !slices.EqualFunc(got, m.letters, same) || n.Len() != len(m.letters) {
		t.Fatalf("Letters: %d, Len: %d, want %d", got, n.Len(), m.letters)
	}
	for i := -2; i <= len(m.letters)+1; i++ {
		want, wantE := m.comes(i)
		if got, e := n.Copy(i); e != wantE || !same(got, want) {
			t.Fatalf("Copy(%d) = %d, %d, want %d, %d", i, got, e, want, wantE)
		}
		if n.Open(i) != (wantE == api.OK) {
			t.Fatalf("Open(%d) = %t", i, n.Open(i))
		}
	}
	if n.Len() != len(m.letters) {
		t.Fatalf("behind Copy: %d letters, want %d", n.Len(), len(m.letters))
	}
}

// someLetters is letters, most of which a net of so many nodes takes.
func someLetters(r *rand.Rand, nodes int) []net.Letter {
	var letters []net.Letter
	for range r.Intn(5) {
		body := make([]byte, r.Intn(4))
		if r.Intn(20) == 0 {
			body = make([]byte, 4100+r.Intn(5))
		}
		r.Read(body)
		letters = append(letters, net.Letter{From: r.Intn(nodes+2) - 1, To: r.Intn(nodes+2) - 1, Body: body})
	}
	return letters
}

// step does one thing with both, and stops the test unless both answer the same.
func step(t *testing.T, r *rand.Rand, n *net.Net, m *model) {
	t.Helper()
	var what string
	var got, want any
	i := r.Intn(len(m.letters)+3) - 1
	switch r.Intn(6) {
	case 0, 1:
		letters := someLetters(r, m.nodes)
		what, got, want = fmt.Sprint("Post", letters), n.Post(letters...), m.post(letters...)
	case 2:
		l, e := n.Take(i)
		k, f := m.take(i)
		what, got, want = fmt.Sprint("Take ", i), fmt.Sprint(l, e), fmt.Sprint(k, f)
	case 3:
		what, got, want = fmt.Sprint("Drop ", i), n.Drop(i), m.drop(i)
	case 4:
		a, b, split := r.Intn(m.nodes+2)-1, r.Intn(m.nodes+2)-1, r.Intn(3) > 0
		what, got, want = fmt.Sprint("Split ", a, b, split), n.Split(a, b, split), m.splitOrNot(a, b, split)
	default:
		if r.Intn(4) == 0 {
			n.Heal()
			m.split = [16][16]bool{}
		}
	}
	if got != want {
		t.Fatalf("%s: %v, want %v", what, got, want)
	}
}

func TestAgainstModel(t *testing.T) {
	for seed := range int64(300) {
		r := rand.New(rand.NewSource(seed))
		m := &model{nodes: 1 + int(seed)%16}
		n := made(t, m.nodes)
		for range 80 {
			step(t, r, n, m)
			mustHold(t, n, m)
		}
	}
}
