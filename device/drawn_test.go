package device

import (
	"bytes"
	"fmt"
	"math/rand"
	"slices"
	"testing"

	"gurney/api"
	"gurney/collect"
	"gurney/frame"
	"gurney/record"
)

// drawLink is of any that may be, the small ones more often.
func drawLink(r *rand.Rand) api.Link {
	for {
		k := 1 + r.Intn(6)
		c := api.Code{K: k, N: k + r.Intn(11-k), Size: 1 + r.Intn(24)}
		if r.Intn(2) == 0 {
			c.Size = 1 + r.Intn(5)
		}
		l := api.Link{Code: c, Wait: 1 + r.Intn(100), Most: 1 + r.Intn(9)}
		if r.Intn(4) > 0 {
			l.Wait, l.Most = 1+r.Intn(4), 1+r.Intn(3)
		}
		if k*c.Size >= 4 {
			return l
		}
	}
}

func drawRight(r *rand.Rand) api.Sample {
	s := api.Sample{Kind: 1 + r.Intn(5), At: r.Intn(256), Value: r.Intn(1000)}
	if s.Kind == 5 {
		s.Value = r.Intn(256)
	}
	return s
}

// drawSample is one that isn't right at times.
func drawSample(r *rand.Rand) api.Sample {
	s := drawRight(r)
	switch part := numbers[r.Intn(len(numbers))]; r.Intn(12) {
	case 0:
		s.Kind = part
	case 1:
		s.At = part
	case 2:
		s.Value = part
	}
	return s
}

// drawAck is one of a base near the groups that are out, as a rule, or a frame that is none.
func drawAck(r *rand.Rand, s *slate) api.Frame {
	switch r.Intn(12) {
	case 0:
		return ackOf(s.tx, r.Intn(256), r.Intn(256))
	case 1:
		l := notAcks()
		f := l[r.Intn(len(l))]
		f.Tx = s.tx
		if r.Intn(2) == 0 {
			f.Tx = r.Intn(256)
		}
		return f
	case 2:
		f := ackOf(r.Intn(256), s.texts, r.Intn(16))
		f.Seq, f.Ant, f.Rssi = r.Intn(4096), r.Intn(8), r.Intn(128)
		return f
	}
	return ackOf(s.tx, s.texts-len(s.groups)+r.Intn(4), r.Intn(16))
}

// step does one of all that may be done to a device.
func (p pair) step(r *rand.Rand) {
	switch n := r.Intn(200); {
	case n == 0:
		p.reset()
	case n < 80:
		p.take(drawSample(r))
	case n < 90:
		for range r.Intn(40) {
			p.take(drawSample(r))
		}
	case n < 160:
		p.tick()
	case n < 165:
		p.ticks(r.Intn(30))
	case n < 170:
		b := make([]byte, r.Intn(40))
		r.Read(b)
		if p.d.Hear(b) {
			p.t.Fatalf("it hears %x", b)
		}
		p.look()
	default:
		p.hear(drawAck(r, p.s))
	}
}

func TestDrawnSteps(t *testing.T) {
	t.Parallel()
	for seed := range 240 {
		r := rand.New(rand.NewSource(int64(seed)))
		p := begin(t, r.Intn(256), drawLink(r))
		for range 400 {
			p.step(r)
		}
	}
}

// listener is a station, as far as a device is told by one: it collects anew behind a greeting of another session.
type listener struct {
	link    api.Link
	c       *collect.Collector
	session int
	got     []api.Sample
	gaps    int
}

func (x *listener) hear(t *testing.T, f api.Frame) {
	t.Helper()
	group, place := f.Seq/16, f.Seq%16
	switch {
	case f.Kind == 3 && len(f.Data) != 1:
		t.Fatal("a greeting without just one byte:", f)
	case f.Kind == 3:
		if s := int(f.Data[0]); x.c == nil || s != x.session {
			x.c, x.session = collect.New(x.link.Code, group), s
		}
	case x.c == nil:
	case f.Kind == 0:
		x.c.Shard(group, place, f.Data)
	case f.Kind == 2:
		x.c.Skip(group)
	}
}

// due is the samples of what is ready by now.
func (x *listener) due(t *testing.T) {
	t.Helper()
	if x.c == nil {
		return
	}
	for _, part := range x.c.Due() {
		if part.Gap {
			x.gaps++
			continue
		}
		l, e := record.Parse(part.Data)
		if e != api.OK || len(l) == 0 {
			t.Fatal("no text of samples:", part, e)
		}
		x.got = append(x.got, l...)
	}
}

// aired parses a frame of a device's.
func aired(t *testing.T, b []byte, tx int) api.Frame {
	t.Helper()
	f, e := frame.Parse(b)
	if e != api.OK || f.Tx != tx || f.Kind != 0 && f.Kind != 2 && f.Kind != 3 || f.Ant != 0 || f.Rssi != 0 {
		t.Fatalf("%x is no frame of the device %d: %v, %v", b, tx, f, e)
	}
	return f
}

// TestAllAreFramesOfIt is of drawn samples, acks and resets: each shard is of a text of samples' code, each greeting of the session.
func TestAllAreFramesOfIt(t *testing.T) {
	t.Parallel()
	for seed := range 60 {
		r := rand.New(rand.NewSource(int64(seed)))
		tx, l := r.Intn(256), drawLink(r)
		d := New(tx, l)
		for range 300 {
			for range r.Intn(4) {
				d.Take(drawSample(r))
			}
			for i, b := range d.Tick() {
				wantItsFrame(t, d, l, aired(t, b, tx), i)
			}
			if r.Intn(3) > 0 {
				d.Hear(bytesOf(t, ackOf(tx, r.Intn(256), r.Intn(16))))
			}
			if r.Intn(60) == 0 {
				d.Reset()
			}
		}
	}
}

func wantItsFrame(t *testing.T, d *Device, l api.Link, f api.Frame, place int) {
	t.Helper()
	switch f.Kind {
	case 3:
		if place != 0 || !bytes.Equal(f.Data, []byte{byte(d.Session())}) || f.Seq%16 != 0 {
			t.Fatal("a greeting:", place, f)
		}
	case 0:
		if len(f.Data) != l.Code.Size || f.Seq%16 >= l.Code.N {
			t.Fatal("a shard:", f)
		}
	case 2:
		if len(f.Data) != 0 || f.Seq%16 != 0 {
			t.Fatal("a skip:", f)
		}
	}
}

// TestAllSamplesInOrder: where no group is given up, whatever is lost of frames and acks, what comes is what was taken, each once.
func TestAllSamplesInOrder(t *testing.T) {
	t.Parallel()
	for seed := range 40 {
		r := rand.New(rand.NewSource(int64(seed)))
		l := drawLink(r)
		l.Wait, l.Most = 1+r.Intn(3), 9
		d, x := New(9, l), &listener{link: l}
		var taken []api.Sample
		quiet := 0 // ticks at which all was lost
		for i := range 900 {
			for range r.Intn(3) {
				if s := drawRight(r); i < 600 && d.Take(s) == api.OK {
					taken = append(taken, s)
				}
			}
			lost := quiet < 4 && r.Intn(3) == 0
			quiet++
			for _, b := range d.Tick() {
				if f := aired(t, b, 9); !lost {
					x.hear(t, f)
				}
			}
			x.due(t)
			if !lost && x.c != nil {
				quiet = 0
				d.Hear(bytesOf(t, ackOf(9, x.c.Base(), int(x.c.Ready()))))
			}
		}
		if x.gaps > 0 || d.Lost() > 0 {
			t.Fatal(l, "given up:", x.gaps, d.Lost())
		}
		if d.Kept() > 0 || d.Out() > 0 || len(taken) == 0 || !slices.Equal(x.got, taken) {
			t.Fatal(l, "what came isn't what was taken:", len(x.got), len(taken))
		}
	}
}

// TestSomeSamplesInOrder: where groups are given up, what comes is a part of what was taken, in order, and each gap is a group that was given up.
func TestSomeSamplesInOrder(t *testing.T) {
	t.Parallel()
	gaps := 0
	for seed := range 40 {
		r := rand.New(rand.NewSource(int64(seed)))
		l := drawLink(r)
		l.Wait, l.Most = 1+r.Intn(3), 1+r.Intn(3)
		d, x := New(9, l), &listener{link: l}
		d.Tick()
		x.c = collect.New(l.Code, 0)
		var taken []api.Sample
		for i := range 900 {
			s := api.Sample{Kind: 1 + i/256, At: i % 256, Value: i} // each another one
			if i < 700 && d.Take(s) == api.OK {
				taken = append(taken, s)
			}
			for _, b := range d.Tick() {
				if f := aired(t, b, 9); i > 850 || r.Intn(3) == 0 {
					x.hear(t, f)
				}
			}
			x.due(t)
			if i > 850 || r.Intn(3) > 0 {
				d.Hear(bytesOf(t, ackOf(9, x.c.Base(), int(x.c.Ready()))))
			}
		}
		if len(x.got) == 0 || !isPartOf(x.got, taken) {
			t.Fatal(l, "what came isn't a part of what was taken")
		}
		if x.gaps > d.Lost()+d.Out() {
			t.Fatal(l, x.gaps, "gaps, but given up", d.Lost(), d.Out())
		}
		gaps += x.gaps
	}
	if gaps == 0 {
		t.Error("nothing was given up")
	}
}

// isPartOf says whether a list is another one, some of which was left out.
func isPartOf(l, all []api.Sample) bool {
	for _, s := range l {
		i := slices.Index(all, s)
		if i < 0 {
			return false
		}
		all = all[i+1:]
	}
	return true
}

// TestNothingBeyondAReset: no sample of an earlier session comes behind it.
func TestNothingBeyondAReset(t *testing.T) {
	l := small()
	d, x := New(9, l), &listener{link: l}
	for session := range 300 {
		x.got = nil
		for i := range 40 {
			d.Take(api.Sample{Kind: 1, At: i, Value: session})
			for _, b := range d.Tick() {
				x.hear(t, aired(t, b, 9))
			}
			x.due(t)
			if i < 30 {
				d.Hear(bytesOf(t, ackOf(9, x.c.Base(), int(x.c.Ready()))))
			}
		}
		if len(x.got) == 0 {
			t.Fatal("nothing came of the session", session)
		}
		for i, s := range x.got {
			if s.Value != session || s.At != i {
				t.Fatal("in the session", session, "sample", i, "is", s)
			}
		}
		d.Reset()
	}
}

// TestAnyArguments is of rule 1: nothing panics, and all ends.
func TestAnyArguments(t *testing.T) {
	r := rand.New(rand.NewSource(7))
	some := func() int { return numbers[r.Intn(len(numbers))] }
	for range 20000 {
		l := api.Link{Code: api.Code{K: some(), N: some(), Size: some()}, Wait: some(), Most: some()}
		if r.Intn(2) == 0 {
			l.Code = small().Code
		}
		d := New(some(), l)
		for range 3 {
			e := d.Take(api.Sample{Kind: some(), At: some(), Value: some()})
			if d == nil && (e != api.ErrArg || d.Kept() != 0) {
				t.Fatal(e)
			}
			b := make([]byte, r.Intn(100))
			r.Read(b)
			if d.Hear(b) {
				t.Fatalf("it hears %x", b)
			}
			if many := len(d.Tick()); (d == nil) != (many == 0) {
				t.Fatal(many, "frames")
			}
			if r.Intn(9) == 0 {
				d.Reset()
			}
		}
	}
}

// TestLongBytes is of more than any frame has.
func TestLongBytes(t *testing.T) {
	ack := bytesOf(t, ackOf(9, 0, 0))
	d := New(9, small())
	for _, many := range []int{1, 60, 72, 1000, 1 << 20} {
		if d.Hear(append(slices.Clone(ack), make([]byte, many)...)) || d.Hear(make([]byte, many)) {
			t.Error("it hears", many, "bytes")
		}
	}
}

// roomy is bytes with some spare room behind them, and all of it.
func roomy(b []byte) (part, all []byte) {
	all = append(slices.Clone(b), 0xa5, 0xa5, 0xa5, 0xa5)
	return all[:len(b)], all
}

// TestBytesAreNeitherChangedNorKept is of rule 4.
func TestBytesAreNeitherChangedNorKept(t *testing.T) {
	for _, f := range append(notAcks(), ackOf(9, 1, 0), ackOf(9, 0, 2)) {
		p := begin(t, 9, small())
		p.take(pulses(0, 6)...)
		p.ticks(2)
		part, all := roomy(bytesOf(t, f))
		was := slices.Clone(all)
		if p.d.Hear(part) != p.s.hear(f) {
			t.Error("heard or not:", f)
		}
		if !bytes.Equal(all, was) {
			t.Errorf("%x became %x", was, all)
		}
		for i := range all {
			all[i] = 0xff
		}
		p.look()
		p.ticks(12)
	}
}

// spoilAll turns lists and their spare room.
func spoilAll(l [][]byte) {
	l = l[:cap(l)]
	for i, b := range l {
		b = b[:cap(b)]
		for j := range b {
			b[j] ^= 0xff
		}
		l[i] = nil
	}
}

// TestAnswersAreNewMemory: what is done to what was answered turns nothing of a device, nor of other answers.
func TestAnswersAreNewMemory(t *testing.T) {
	p := begin(t, 9, small())
	var held [][]byte
	var was []string
	for i := range 60 {
		p.take(pulses(3*i, 3)...)
		l, want := p.d.Tick(), p.s.tick()
		wantBytes(t, l, want)
		held = append(held, l...)
		for _, b := range l {
			was = append(was, string(b))
		}
		got := p.d.Tick()
		wantBytes(t, got, p.s.tick())
		spoilAll(got)
		for k, b := range held {
			if string(b) != was[k] {
				t.Fatal("an answer was turned")
			}
		}
		if i%5 == 4 {
			p.ack(p.s.texts-len(p.s.groups)+2, 1)
		}
	}
}

// TestFramesOfOneTickShareNothing is of the lists in an answer, with their spare room.
func TestFramesOfOneTickShareNothing(t *testing.T) {
	for _, l := range someLinks() {
		d := New(9, l)
		for i := range 60 {
			d.Take(pulse(i))
		}
		got := d.Tick()
		was := make([]string, len(got))
		for i, b := range got {
			was[i] = string(b)
		}
		for i := range got {
			spoilAll([][]byte{got[i]})
			for k := i + 1; k < len(got); k++ {
				if string(got[k]) != was[k] {
					t.Fatal(l, "frame", i, "shares with frame", k)
				}
			}
		}
	}
}

// runOf is what a device answers to drawn acts, all through.
func runOf(seed int64, beside func()) string {
	r := rand.New(rand.NewSource(seed))
	tx, l := r.Intn(256), drawLink(r)
	d := New(tx, l)
	var log []byte
	for range 200 {
		switch n := r.Intn(40); {
		case n == 0:
			d.Reset()
		case n < 20:
			log = fmt.Append(log, d.Take(drawSample(r)))
		case n < 32:
			log = fmt.Appendf(log, "%x", d.Tick())
		default:
			f := ackOf(tx, r.Intn(6), r.Intn(16))
			log = fmt.Append(log, d.Hear(frame.Put(f)))
		}
		log = fmt.Append(log, d.Kept(), d.Out(), d.Lost(), d.Session())
		beside()
	}
	return string(log)
}

// TestSameActsSameAnswers is of rule 6: also with another device beside it, to which other things are done.
func TestSameActsSameAnswers(t *testing.T) {
	for seed := range int64(40) {
		first := runOf(seed, func() {})
		r := rand.New(rand.NewSource(seed + 1000))
		other := begin(t, r.Intn(256), drawLink(r))
		if again := runOf(seed, func() { other.step(r) }); again != first {
			t.Fatal("other answers of the same acts:", seed)
		}
	}
}

// TestDevicesAreAlone is of two of the same transmitter and link, in turn.
func TestDevicesAreAlone(t *testing.T) {
	for seed := range 20 {
		r := rand.New(rand.NewSource(int64(seed)))
		l := drawLink(r)
		one, other := begin(t, 9, l), begin(t, 9, l)
		for range 300 {
			one.step(r)
			other.step(r)
			if r.Intn(30) == 0 {
				one.reset()
				other.look()
			}
		}
	}
}

// TestLooksTurnNothing is of the calls that tell of a device alone.
func TestLooksTurnNothing(t *testing.T) {
	p := begin(t, 9, small())
	r := rand.New(rand.NewSource(3))
	for range 500 {
		p.step(r)
		for range 5 {
			p.look()
		}
	}
}
