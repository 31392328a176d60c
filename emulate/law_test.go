package emulate

import (
	"bytes"
	"math/rand"
	"slices"
	"strings"
	"testing"

	"licit/api"
	"licit/binary"
)

// call is the arguments of a call.
type call struct {
	address uint32
	input   string
	limit   int
	args    []uint32
}

// call returns random arguments for the functions of a program.
func (w *writer) call(b api.Binary, size int) call {
	c := call{limit: []int{1 + w.Intn(30), 1 + w.Intn(300), 2000}[w.Intn(3)]}
	for range w.Intn(5) {
		c.input += string([]byte{byte(w.Intn(256))})
	}
	p := b.Places[w.Intn(len(b.Places))]
	if p.Kind == api.SectionData && !w.rarely(8) {
		p = b.Places[0]
	}
	c.address = uint32(api.LoadBase + p.At)
	n := 0
	if p.Kind == api.SectionCode {
		n = int(b.Image[p.At])
	}
	switch {
	case w.rarely(20):
		c.address = uint32(w.Intn(size + 2))
	case w.rarely(30):
		n++
	}
	for range n {
		c.args = append(c.args, uint32(w.Intn(3)))
	}
	return c
}

// same says whether a machine and a plain one have the same memory.
func same(m *Machine, p *plain) bool {
	var all []byte
	for _, w := range words(m) {
		all = append(all, wordOf(w)...)
	}
	return bytes.Equal(all, p.memory)
}

// P13.1, P13.2: random programs are loaded and run as the definitions say, call after call, with the same errors and the same memory.
func TestRandomPrograms(t *testing.T) {
	w := &writer{Rand: rand.New(rand.NewSource(13))}
	ended, long, deep := map[api.Errno]int{}, 0, 0
	for i := range 12000 {
		w.wild = i%4 == 0
		b, libs := w.program()
		m, e := Load(b, libs)
		if e != api.OK {
			t.Fatal(b, libs, e)
		}
		p := &plain{memory: plainMemory(b, libs)}
		if !same(m, p) {
			t.Fatal(b, libs, words(m), p.memory)
		}
		for range 4 {
			c := w.call(b, len(p.memory))
			want, f := p.result(c.address, c.input, c.limit, c.args)
			r, e := m.Call(c.address, c.input, c.limit, c.args...)
			if r != want || e != f || !same(m, p) {
				t.Fatal(b, libs, c, r, e, want, f)
			}
			ended[e]++
			if r.Steps > 20 {
				long++
			}
			if p.frames > 60 {
				deep++
			}
		}
	}
	for _, e := range []api.Errno{api.OK, api.ErrRange, api.ErrMismatch, api.ErrCorrupt, api.ErrDeep, api.ErrLimit, api.ErrState} {
		if ended[e] < 30 {
			t.Error(e, ended)
		}
	}
	if ended[api.OK] < 15000 || long < 1000 || deep < 30 {
		t.Error(ended, long, deep)
	}
}

// noted returns a binary with notes.
func noted(t *testing.T, b api.Binary) api.Binary {
	t.Helper()
	for _, name := range []string{"seal", "x"} {
		var e api.Errno
		if b, e = binary.Attach(b, api.Note{Name: name, Text: strings.Repeat(name, 5)}); e != api.OK {
			t.Fatal(e)
		}
	}
	return b
}

// P13.3: a run that has ended is the same again, with a higher limit, with notes, with other bytes behind what it has read of the input, and with a library more that it does not need.
func TestWhatRunsDependOn(t *testing.T) {
	w := &writer{Rand: rand.New(rand.NewSource(14))}
	tried, unread, met := 0, 0, 0
	for range 12000 {
		b, libs := w.program()
		p := &plain{memory: plainMemory(b, libs)}
		size := len(p.memory)
		c := w.call(b, size)
		c.address, c.args = api.LoadBase, nil
		want, e := p.result(c.address, c.input, c.limit, nil)
		if e != api.OK {
			if r, f := Run(b, libs, c.input, c.limit); f != e || r != want {
				t.Fatal(b, libs, c, r, f)
			}
			continue
		}
		tried++
		expect := func(b api.Binary, libs []api.Library, input string, limit int) {
			t.Helper()
			for range 2 {
				if r, e := Run(b, libs, input, limit); e != api.OK || r != want {
					t.Fatal(b, libs, input, limit, r, e, want)
				}
			}
		}
		expect(b, libs, c.input, c.limit)
		expect(b, libs, c.input, want.Steps)
		expect(b, libs, c.input, api.MaxSteps)
		if want.Steps > 1 {
			if r, e := Run(b, libs, c.input, want.Steps-1); e != api.ErrLimit || r != (api.Result{}) {
				t.Fatal(b, libs, r, e)
			}
		}
		if p.ended {
			met++
		} else {
			unread++
			expect(b, libs, c.input[:p.read], c.limit)
			expect(b, libs, c.input[:p.read]+"any other input", c.limit)
		}
		expect(b, append(slices.Clone(libs), library("more", "s/more f code 0 0 push 1 return")), c.input, c.limit)
		for i := range libs {
			libs[i].Binary = noted(t, libs[i].Binary)
		}
		expect(noted(t, b), libs, c.input, c.limit)
	}
	if tried < 1000 || unread < 300 || met < 100 {
		t.Error(tried, unread, met)
	}
}
