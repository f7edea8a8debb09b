package device

import (
	"bytes"
	"fmt"
	"slices"
	"testing"

	"gurney/api"
	"gurney/frame"
	"gurney/rs"
)

// What is asked for is reckoned by the tests themselves: by a slate on which samples, groups and acks are noted by the chapters' words, with the document's numbers written out; of the layers below it takes shards' bytes and frames' bytes alone.

// group is one that is out; its number is that among all of its session, from 0 on.
type group struct {
	number, sent, last int
	shards             [][]byte
	there, givenUp     bool
}

// slate is a device by its words.
type slate struct {
	tx      int
	link    api.Link
	now     int
	session int
	samples []api.Sample
	groups  []group
	texts   int // of this session
	lost    int
	acks    []int // when, in this session
}

func rightSample(s api.Sample) bool {
	most := 999
	if s.Kind == 5 {
		most = 255
	}
	return s.Kind >= 1 && s.Kind <= 5 && s.At >= 0 && s.At <= 255 && s.Value >= 0 && s.Value <= most
}

// room is how many samples a text of a code has room for: three bytes each, behind one.
func room(c api.Code) int { return (c.K*c.Size - 1) / 3 }

// textOf is a text of samples: each Kind, 3 bits, At, 8, Value, 10, and 3 bits 0.
func textOf(c api.Code, l []api.Sample) []byte {
	text := []byte{byte(len(l))}
	for _, s := range l {
		n := s.Kind<<21 | s.At<<13 | s.Value<<3
		text = append(text, byte(n>>16), byte(n>>8), byte(n))
	}
	return append(text, make([]byte, c.K*c.Size-len(text))...)
}

func shardsOf(c api.Code, text []byte) [][]byte {
	l, e := rs.Encode(c, text)
	if e != api.OK {
		panic(fmt.Sprint("no shards: ", e))
	}
	return l
}

func (s *slate) take(x api.Sample) api.Errno {
	switch {
	case !rightSample(x):
		return 1
	case len(s.samples) == 60:
		return 7
	}
	s.samples = append(s.samples, x)
	return 0
}

func (s *slate) tick() []api.Frame {
	if len(s.groups) < 4 && len(s.samples) > 0 {
		many := min(room(s.link.Code), len(s.samples))
		text := textOf(s.link.Code, s.samples[:many])
		s.groups = append(s.groups, group{number: s.texts, shards: shardsOf(s.link.Code, text)})
		s.texts++
		s.samples = slices.Clone(s.samples[many:])
	}
	var out []api.Frame
	if s.greets() {
		first := s.texts
		if len(s.groups) > 0 {
			first = s.groups[0].number
		}
		out = append(out, s.frame(3, first, 0, []byte{byte(s.session)}))
	}
	for i := range s.groups {
		out = append(out, s.sent(&s.groups[i])...)
	}
	s.now++
	return out
}

func (s *slate) greets() bool {
	if len(s.acks) == 0 {
		return true
	}
	return s.now > s.acks[len(s.acks)-1]+s.link.Wait*s.link.Most
}

func (s *slate) sent(g *group) []api.Frame {
	if g.there || g.sent > 0 && s.now < g.last+s.link.Wait {
		return nil
	}
	g.sent, g.last = g.sent+1, s.now
	if g.sent > s.link.Most {
		g.givenUp = true
		return []api.Frame{s.frame(2, g.number, 0, nil)}
	}
	var out []api.Frame
	for place, shard := range g.shards {
		out = append(out, s.frame(0, g.number, place, shard))
	}
	return out
}

func (s *slate) frame(kind, number, place int, data []byte) api.Frame {
	return api.Frame{Tx: s.tx, Seq: number%256*16 + place, Kind: kind, Data: data}
}

// hear is of a frame that bytes are.
func (s *slate) hear(f api.Frame) bool {
	if f.Tx != s.tx || f.Kind != 1 || len(f.Data) != 2 {
		return false
	}
	var left []group
	for _, g := range s.groups {
		far := (g.number - int(f.Data[0]) + 65536) % 256
		if far >= 128 {
			if g.givenUp {
				s.lost++
			}
			continue
		}
		g.there = far < 4 && f.Data[1]>>far&1 == 1
		left = append(left, g)
	}
	s.groups = left
	s.acks = append(s.acks, s.now)
	return true
}

func (s *slate) reset() {
	*s = slate{tx: s.tx, link: s.link, now: s.now, session: (s.session + 1) % 256}
}

// pair is a device and its slate, to which the same is done; what they answer is held against each other.
type pair struct {
	t *testing.T
	d *Device
	s *slate
}

func begin(t *testing.T, tx int, l api.Link) pair {
	t.Helper()
	p := pair{t: t, d: New(tx, l), s: &slate{tx: tx, link: l}}
	if p.d == nil {
		t.Fatal("no device of", tx, l)
	}
	p.look()
	return p
}

// look holds all that a device tells of itself.
func (p pair) look() {
	p.t.Helper()
	got := [4]int{p.d.Kept(), p.d.Out(), p.d.Lost(), p.d.Session()}
	want := [4]int{len(p.s.samples), len(p.s.groups), p.s.lost, p.s.session}
	if got != want {
		p.t.Fatalf("kept, out, lost, session: %v, not %v", got, want)
	}
}

func (p pair) take(l ...api.Sample) {
	p.t.Helper()
	for _, x := range l {
		got, want := p.d.Take(x), p.s.take(x)
		if got != want {
			p.t.Fatalf("Take(%v): %v, not %v", x, got, want)
		}
		p.look()
	}
}

func (p pair) tick() []api.Frame {
	p.t.Helper()
	got, want := p.d.Tick(), p.s.tick()
	wantBytes(p.t, got, want)
	p.look()
	return want
}

func (p pair) ticks(many int) {
	p.t.Helper()
	for range many {
		p.tick()
	}
}

func (p pair) hear(f api.Frame) bool {
	p.t.Helper()
	b := bytesOf(p.t, f)
	got, want := p.d.Hear(b), p.s.hear(f)
	if got != want {
		p.t.Fatalf("Hear(%v): %v, not %v", f, got, want)
	}
	p.look()
	return got
}

func (p pair) ack(base, bits int) {
	p.t.Helper()
	if !p.hear(ackOf(p.s.tx, base, bits)) {
		p.t.Fatal("an ack isn't heard:", base, bits)
	}
}

func (p pair) reset() {
	p.t.Helper()
	p.d.Reset()
	p.s.reset()
	p.look()
}

func ackOf(tx, base, bits int) api.Frame {
	return api.Frame{Tx: tx, Kind: 1, Data: []byte{byte(base), byte(bits)}}
}

func bytesOf(t *testing.T, f api.Frame) []byte {
	t.Helper()
	b := frame.Put(f)
	if b == nil {
		t.Fatal("no bytes of", f)
	}
	return b
}

func wantBytes(t *testing.T, got [][]byte, want []api.Frame) {
	t.Helper()
	if len(got) != len(want) {
		t.Fatalf("%d frames, not %d: %x, not %v", len(got), len(want), got, want)
	}
	for i, f := range want {
		if b := bytesOf(t, f); !bytes.Equal(got[i], b) {
			t.Fatalf("frame %d: %x, not %x (%v)", i, got[i], b, f)
		}
	}
}

// told is frames in short: a greeting's session and group, a shard's group and place, the group of one that is given up.
func told(t *testing.T, l [][]byte) string {
	t.Helper()
	var out []byte
	for _, b := range l {
		f, e := frame.Parse(b)
		if e != api.OK {
			t.Fatalf("no frame: %x: %v", b, e)
		}
		if len(out) > 0 {
			out = append(out, ' ')
		}
		switch f.Kind {
		case 3:
			out = fmt.Appendf(out, "hello:%x:%d", f.Data, f.Seq/16)
		case 0:
			out = fmt.Appendf(out, "%d.%d", f.Seq/16, f.Seq%16)
		case 2:
			out = fmt.Appendf(out, "skip:%d", f.Seq/16)
		default:
			t.Fatal("a frame of another kind:", f)
		}
	}
	return string(out)
}

func wantTold(t *testing.T, d *Device, want string) {
	t.Helper()
	if got := told(t, d.Tick()); got != want {
		t.Fatalf("told %q, not %q", got, want)
	}
}

// pulse is the sample of a number, each another one.
func pulse(i int) api.Sample { return api.Sample{Kind: 1, At: i % 256, Value: i % 1000} }

func pulses(from, many int) []api.Sample {
	var l []api.Sample
	for i := range many {
		l = append(l, pulse(from+i))
	}
	return l
}

// small is a link whose texts have room for two samples, in two shards, one of which will do; it waits for 2 ticks, 3 times.
func small() api.Link { return api.Link{Code: api.Code{K: 1, N: 2, Size: 8}, Wait: 2, Most: 3} }

// patient is small, but sends once alone, and waits for as long as may be.
func patient() api.Link {
	return api.Link{Code: api.Code{K: 1, N: 2, Size: 8}, Wait: 100, Most: 1}
}
