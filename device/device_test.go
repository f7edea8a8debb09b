package device

import (
	"encoding/hex"
	"math"
	"slices"
	"testing"

	"gurney/api"
	"gurney/collect"
	"gurney/frame"
	"gurney/sender"
)

// numbers are any, at the edges of what there is, and such that low bits of them alone would do.
var numbers = []int{
	math.MinInt, math.MinInt + 1, -1 << 40, -1 << 32, math.MinInt32, -1000, -257, -256, -255, -100, -61, -1,
	0, 1, 2, 3, 4, 5, 6, 7, 9, 10, 11, 23, 24, 25, 60, 61, 99, 100, 101, 128, 254, 255, 256, 257, 261, 998, 999, 1000, 1024, 1279,
	1 << 16, math.MaxInt32, 1 << 32, 1<<32 + 1, 1 << 40, 1 << 62, math.MaxInt - 1, math.MaxInt,
}

func TestNewOfEachTx(t *testing.T) {
	for _, tx := range append(numbers, within(-300, 600)...) {
		if got, want := New(tx, small()) != nil, tx >= 0 && tx <= 255; got != want {
			t.Errorf("New of the transmitter %d: %v", tx, got)
		}
	}
	for tx := range 256 {
		begin(t, tx, small()).tick()
	}
}

func within(from, to int) []int {
	var l []int
	for n := from; n <= to; n++ {
		l = append(l, n)
	}
	return l
}

func TestNewOfEachCode(t *testing.T) {
	for _, k := range within(-1, 8) {
		for _, n := range within(-1, 12) {
			for _, size := range within(-1, 26) {
				l := api.Link{Code: api.Code{K: k, N: n, Size: size}, Wait: 1, Most: 1}
				may := k >= 1 && k <= 6 && n >= k && n <= 10 && size >= 1 && size <= 24
				if got, want := New(0, l) != nil, may && k*size >= 4; got != want {
					t.Errorf("New of %v: %v", l, got)
				}
			}
		}
	}
}

func TestNewOfEachWaitAndMost(t *testing.T) {
	for _, n := range append(numbers, within(-5, 105)...) {
		l := small()
		l.Wait = n
		if got, want := New(9, l) != nil, n >= 1 && n <= 100; got != want {
			t.Errorf("New of Wait %d: %v", n, got)
		}
		l = small()
		l.Most = n
		if got, want := New(9, l) != nil, n >= 1 && n <= 9; got != want {
			t.Errorf("New of Most %d: %v", n, got)
		}
	}
}

func TestNewOfNumbersThatMayNotBe(t *testing.T) {
	for _, n := range numbers {
		for i, l := range []api.Link{
			{Code: api.Code{K: n, N: 10, Size: 8}, Wait: 2, Most: 2},
			{Code: api.Code{K: 2, N: n, Size: 8}, Wait: 2, Most: 2},
			{Code: api.Code{K: 2, N: 3, Size: n}, Wait: 2, Most: 2},
		} {
			want := [3]bool{n >= 1 && n <= 6, n >= 2 && n <= 10, n >= 2 && n <= 24}[i]
			if got := New(9, l) != nil; got != want {
				t.Errorf("New of %v: %v", l, got)
			}
		}
	}
}

// TestNoSampleHasRoom is of links by which there may be a sender, but no device.
func TestNoSampleHasRoom(t *testing.T) {
	for _, x := range [][2]int{{1, 1}, {1, 2}, {1, 3}, {2, 1}, {3, 1}} {
		l := api.Link{Code: api.Code{K: x[0], N: 6, Size: x[1]}, Wait: 2, Most: 2}
		if sender.New(9, l) == nil || New(9, l) != nil {
			t.Error("a device without room for a sample:", l)
		}
	}
	for _, x := range [][2]int{{1, 4}, {2, 2}, {4, 1}, {3, 2}, {5, 1}, {6, 1}} {
		l := api.Link{Code: api.Code{K: x[0], N: 6, Size: x[1]}, Wait: 2, Most: 2}
		p := begin(t, 9, l)
		p.take(pulses(0, 2)...)
		p.tick()
	}
}

func TestTakeOfEachBound(t *testing.T) {
	d := New(9, small())
	for _, x := range []struct {
		s    api.Sample
		want api.Errno
	}{
		{api.Sample{Kind: 0}, 1}, {api.Sample{Kind: 1}, 0}, {api.Sample{Kind: 5}, 0}, {api.Sample{Kind: 6}, 1}, {api.Sample{}, 1},
		{api.Sample{Kind: 1, At: -1}, 1}, {api.Sample{Kind: 1, At: 255}, 0}, {api.Sample{Kind: 1, At: 256}, 1},
		{api.Sample{Kind: 2, Value: -1}, 1}, {api.Sample{Kind: 2, Value: 999}, 0}, {api.Sample{Kind: 3, Value: 1000}, 1}, {api.Sample{Kind: 4, Value: 999}, 0},
		{api.Sample{Kind: 5, Value: -1}, 1}, {api.Sample{Kind: 5, Value: 255}, 0}, {api.Sample{Kind: 5, Value: 256}, 1}, {api.Sample{Kind: 4, Value: 256}, 0},
	} {
		kept := d.Kept()
		if got := d.Take(x.s); got != x.want {
			t.Errorf("Take(%v): %v", x.s, got)
		}
		if x.want == 0 {
			kept++
		}
		if d.Kept() != kept {
			t.Errorf("behind %v %d samples are kept, not %d", x.s, d.Kept(), kept)
		}
	}
}

func TestTakeOfAnyNumbers(t *testing.T) {
	p := begin(t, 9, small())
	for _, n := range numbers {
		for kind := range 7 {
			p.take(api.Sample{Kind: kind, At: n, Value: 7}, api.Sample{Kind: kind, At: 7, Value: n})
			p.tick()
			p.ack(p.s.texts, 0)
		}
		p.take(api.Sample{Kind: n, At: 7, Value: 7})
		p.ticks(3)
		p.ack(p.s.texts, 0)
	}
}

func TestTakeBehindAll(t *testing.T) {
	p := begin(t, 9, small())
	p.take(pulse(5), pulse(3), pulse(3), pulse(4))
	wantSamples(t, p.d.Tick(), pulse(5), pulse(3))
	if p.d.Take(pulse(1)) != api.OK {
		t.Fatal("no room")
	}
	p.d.Hear(bytesOf(t, ackOf(9, 1, 0)))
	wantSamples(t, p.d.Tick(), pulse(3), pulse(4))
	p.d.Hear(bytesOf(t, ackOf(9, 2, 0)))
	wantSamples(t, p.d.Tick(), pulse(1))
}

// wantSamples is of the frames of one text, whose shards are that text.
func wantSamples(t *testing.T, l [][]byte, want ...api.Sample) {
	t.Helper()
	for _, b := range l {
		f, e := frame.Parse(b)
		if e != api.OK {
			t.Fatal(e)
		}
		if f.Kind == 0 && string(f.Data) != string(textOf(small().Code, want)) {
			t.Fatalf("%x isn't the text of %v", f.Data, want)
		}
	}
}

func TestTakeFull(t *testing.T) {
	d := New(9, small())
	for i := range 60 {
		if d.Kept() != i || d.Take(pulse(i)) != api.OK {
			t.Fatal("no room behind", i)
		}
	}
	wrong := []api.Sample{{}, {Kind: 6}, {Kind: 5, Value: 256}}
	for range 3 {
		if e := d.Take(pulse(60)); e != api.ErrFull {
			t.Error("behind 60:", e)
		}
		for _, s := range wrong { // ErrArg is the one that is named first
			if e := d.Take(s); e != api.ErrArg {
				t.Error("behind 60, of one that isn't right:", e)
			}
		}
	}
	if d.Kept() != 60 {
		t.Error("kept:", d.Kept())
	}
	wantSamples(t, d.Tick(), pulse(0), pulse(1))
	if d.Take(pulse(60)) != api.OK || d.Take(pulse(61)) != api.OK || d.Take(pulse(62)) != api.ErrFull || d.Kept() != 60 {
		t.Error("two went, but there isn't room for just two:", d.Kept())
	}
}

// TestAllOfAFullOne: what was refused doesn't go out, and all others do, in order.
func TestAllOfAFullOne(t *testing.T) {
	for _, l := range someLinks() {
		p := begin(t, 9, l)
		p.take(pulses(0, 63)...)
		for len(p.s.samples) > 0 {
			p.tick()
			p.ack(p.s.texts, 0)
		}
		p.take(pulses(63, 60)...)
		p.take(pulse(0))
		p.ticks(9)
	}
}

// someLinks are of few samples and of many: of 1 to 47, those of more than one shard among them.
func someLinks() []api.Link {
	return []api.Link{
		small(), patient(),
		{Code: api.Code{K: 1, N: 1, Size: 4}, Wait: 1, Most: 1},
		{Code: api.Code{K: 4, N: 10, Size: 1}, Wait: 3, Most: 2},
		{Code: api.Code{K: 2, N: 4, Size: 11}, Wait: 1, Most: 9},
		{Code: api.Code{K: 3, N: 5, Size: 24}, Wait: 5, Most: 4},
		{Code: api.Code{K: 6, N: 10, Size: 24}, Wait: 4, Most: 2},
	}
}

func TestTickPacksAsManyAsFit(t *testing.T) {
	for _, l := range someLinks() {
		fits := room(l.Code)
		for _, many := range []int{0, 1, fits - 1, fits, fits + 1, 2 * fits, 2*fits + 1, 60} {
			if many < 0 || many > 60 {
				continue
			}
			p := begin(t, 9, l)
			p.take(pulses(0, many)...)
			p.tick()
			if left := max(0, many-fits); p.d.Kept() != left || p.d.Out() != min(1, many) {
				t.Errorf("%v, of %d samples: %d are kept, not %d, %d groups are out", l, many, p.d.Kept(), left, p.d.Out())
			}
			p.ticks(6)
		}
	}
}

func TestTickPacksOneTextATick(t *testing.T) {
	d := New(9, patient())
	for i := range 7 {
		d.Take(pulse(i))
	}
	for i, kept := range []int{5, 3, 1, 0, 0} {
		d.Tick()
		if d.Kept() != kept || d.Out() != min(i+1, 4) {
			t.Error("tick", i, "kept", d.Kept(), "out", d.Out())
		}
	}
}

func TestTickPacksOnlyIfThereIsRoom(t *testing.T) {
	p := begin(t, 9, patient())
	p.take(pulses(0, 11)...)
	p.ticks(4)
	for range 3 {
		p.tick()
		if p.d.Kept() != 3 || p.d.Out() != 4 {
			t.Fatal("without room: kept", p.d.Kept(), "out", p.d.Out())
		}
	}
	p.ack(1, 0)
	p.tick()
	if p.d.Kept() != 1 || p.d.Out() != 4 {
		t.Fatal("with room for one: kept", p.d.Kept(), "out", p.d.Out())
	}
	p.ack(3, 7) // there, but not behind: there is room for two alone
	p.take(pulses(11, 8)...)
	p.ticks(2)
	if p.d.Kept() != 5 || p.d.Out() != 4 {
		t.Fatal("with room for two: kept", p.d.Kept(), "out", p.d.Out())
	}
	p.ticks(2)
	if p.d.Kept() != 5 {
		t.Fatal("without room again: kept", p.d.Kept())
	}
}

func TestTickWithoutSamples(t *testing.T) {
	d := New(9, small())
	for range 5 {
		wantTold(t, d, "hello:00:0")
		if d.Out() != 0 || d.Kept() != 0 {
			t.Error("out", d.Out(), "kept", d.Kept())
		}
	}
	d.Hear(bytesOf(t, ackOf(9, 0, 0)))
	wantTold(t, d, "")
}

func TestTickOfTheFrames(t *testing.T) {
	d := New(9, small())
	for i := range 5 {
		d.Take(pulse(i))
	}
	wantTold(t, d, "hello:00:0 0.0 0.1")
	wantTold(t, d, "hello:00:0 1.0 1.1")
	d.Hear(bytesOf(t, ackOf(9, 0, 2))) // the group 1 is there
	wantTold(t, d, "0.0 0.1 2.0 2.1")
	wantTold(t, d, "")
	wantTold(t, d, "0.0 0.1 2.0 2.1")
	wantTold(t, d, "")
	wantTold(t, d, "skip:0 2.0 2.1")
	wantTold(t, d, "")
	wantTold(t, d, "skip:0 skip:2") // acked at 2, and the time is 8
	wantTold(t, d, "hello:00:0")
	wantTold(t, d, "hello:00:0 skip:0 skip:2")
	d.Hear(bytesOf(t, ackOf(9, 2, 0)))
	if d.Lost() != 1 || d.Out() != 1 {
		t.Error("lost", d.Lost(), "out", d.Out())
	}
	d.Take(pulse(5))
	wantTold(t, d, "3.0 3.1")
	wantTold(t, d, "skip:2")
	d.Hear(bytesOf(t, ackOf(9, 4, 0)))
	if d.Lost() != 2 || d.Out() != 0 {
		t.Error("lost", d.Lost(), "out", d.Out())
	}
	wantTold(t, d, "")
}

// TestExample is the chapter's, of the bytes written out.
func TestExample(t *testing.T) {
	d := New(9, api.Link{Code: api.Code{K: 2, N: 3, Size: 4}, Wait: 5, Most: 2})
	if d.Take(api.Sample{Kind: 1, At: 1, Value: 999}) != api.OK || d.Take(api.Sample{Kind: 5, At: 255, Value: 255}) != api.OK {
		t.Fatal("not taken")
	}
	want := []string{
		"0900000301fc02000b9931c1",
		"0900000004f9f402203f38893409ff",
		"0900100004ba97bfe7f800a5ebd144",
		"09002000047f3265b3ac48f6b40014",
	}
	var got []string
	for _, b := range d.Tick() {
		got = append(got, hex.EncodeToString(b))
	}
	if !slices.Equal(got, want) {
		t.Error(got)
	}
	ack, _ := hex.DecodeString("0900000102aa030100c2bd5449")
	if !d.Hear(ack) || d.Out() != 0 {
		t.Error("the ack isn't heard")
	}
}

func TestGreetsUntilItIsAcked(t *testing.T) {
	p := begin(t, 9, small())
	for range 40 {
		if f := p.tick(); len(f) != 1 || f[0].Kind != 3 {
			t.Fatal("not just a greeting:", f)
		}
	}
	p.ack(0, 0)
	if f := p.tick(); len(f) != 0 {
		t.Fatal("a greeting behind an ack:", f)
	}
}

// TestEdgesOfGreetings: it was acked ahead of the time's tick, and greets again at the first one more than Wait times Most behind it.
func TestEdgesOfGreetings(t *testing.T) {
	for _, l := range []api.Link{small(), patient(), {Code: small().Code, Wait: 1, Most: 1}, {Code: small().Code, Wait: 3, Most: 7}, {Code: small().Code, Wait: 100, Most: 9}} {
		for _, ahead := range []int{0, 1, 5} {
			d := New(9, l)
			for range ahead {
				wantTold(t, d, "hello:00:0")
			}
			d.Hear(bytesOf(t, ackOf(9, 0, 0)))
			for range l.Wait*l.Most + 1 { // the first one is at the time of the ack
				wantTold(t, d, "")
			}
			wantTold(t, d, "hello:00:0")
			wantTold(t, d, "hello:00:0")
			d.Hear(bytesOf(t, ackOf(9, 0, 0)))
			wantTold(t, d, "")
		}
	}
}

func TestTheLastAckHolds(t *testing.T) {
	d := New(9, small())
	d.Hear(bytesOf(t, ackOf(9, 0, 0)))
	for range 4 {
		for range 6 {
			wantTold(t, d, "")
		}
		d.Hear(bytesOf(t, ackOf(9, 0, 0)))
		d.Hear(bytesOf(t, ackOf(9, 0, 0)))
	}
	for range 7 {
		wantTold(t, d, "")
	}
	wantTold(t, d, "hello:00:0")
}

func TestGreetingIsOfTheFirstGroup(t *testing.T) {
	d := New(9, patient())
	for i := range 8 {
		d.Take(pulse(i))
	}
	for i := range 4 {
		if l := d.Tick(); len(l) != 3 || told(t, l[:1]) != "hello:00:0" {
			t.Error("tick", i, told(t, l))
		}
	}
	d.Hear(bytesOf(t, ackOf(9, 2, 1)))
	for range 101 {
		if l := d.Tick(); len(l) > 1 { // what is given up is skipped
			t.Fatal(told(t, l))
		}
	}
	wantTold(t, d, "hello:00:2")
	d.Hear(bytesOf(t, ackOf(9, 4, 0)))
	for range 101 {
		wantTold(t, d, "")
	}
	wantTold(t, d, "hello:00:4")
}

// notAcks are frames that its sender doesn't hear.
func notAcks() []api.Frame {
	ack := ackOf(9, 1, 0)
	l := []api.Frame{
		ackOf(8, 1, 0), ackOf(10, 1, 0), ackOf(0, 1, 0), ackOf(255, 1, 0),
		{Tx: 9, Kind: 1}, {Tx: 9, Kind: 1, Data: []byte{1}}, {Tx: 9, Kind: 1, Data: []byte{1, 0, 0}}, {Tx: 9, Kind: 1, Data: make([]byte, 60)},
	}
	for _, kind := range []int{0, 2, 3} {
		f := ack
		f.Kind = kind
		l = append(l, f)
	}
	return l
}

func TestHearOfOtherFrames(t *testing.T) {
	for _, f := range notAcks() {
		p := begin(t, 9, small())
		p.take(pulse(1))
		p.tick()
		if p.d.Hear(bytesOf(t, f)) {
			t.Error("it hears", f)
		}
		p.look()
		p.ticks(9) // it greets at each
	}
}

func TestHearOfBytesThatAreNoFrame(t *testing.T) {
	ack := bytesOf(t, ackOf(9, 1, 0))
	l := [][]byte{nil, {}, {0}, make([]byte, 10), make([]byte, 11), make([]byte, 13), make([]byte, 100), append(slices.Clone(ack), 0), append([]byte{0}, ack...), []byte("gurney")}
	for i := range ack {
		l = append(l, ack[:i], ack[i+1:])
		for bit := range 8 {
			turned := slices.Clone(ack)
			turned[i] ^= 1 << bit
			l = append(l, turned)
		}
	}
	p := begin(t, 9, small())
	p.take(pulses(0, 3)...)
	p.tick()
	for _, b := range l {
		if p.d.Hear(b) {
			t.Errorf("it hears %x", b)
		}
		p.look()
	}
	p.ticks(9)
	if !p.d.Hear(ack) {
		t.Error("it doesn't hear the ack itself")
	}
}

func TestHearOfItsOwnFrames(t *testing.T) {
	p := begin(t, 9, small())
	p.take(pulses(0, 5)...)
	for range 12 { // greetings, shards, and what is given up
		for _, f := range p.tick() {
			if p.hear(f) {
				t.Fatal("it hears", f)
			}
		}
	}
}

// TestHearOfWhateverIsHeard: an ack's sequence number, antenna and strength don't matter.
func TestHearOfWhateverIsHeard(t *testing.T) {
	for _, f := range []api.Frame{{Seq: 1}, {Seq: 4095}, {Ant: 7}, {Rssi: 127}, {Seq: 4095, Ant: 7, Rssi: 127}} {
		p := begin(t, 9, small())
		p.take(pulse(1))
		p.tick()
		f.Tx, f.Kind, f.Data = 9, 1, []byte{1, 0}
		if !p.hear(f) || p.d.Out() != 0 {
			t.Error("it doesn't hear", f)
		}
		p.ticks(9)
	}
}

func TestHearOfEachBaseAndBits(t *testing.T) {
	for base := range 256 {
		p := begin(t, 9, small())
		p.take(pulses(0, 8)...)
		p.ticks(4)
		p.ack(base, base*7)
		p.ticks(8)
		p.ack(4, 0)
		p.ticks(3)
	}
}

func TestHearAheadOfAllTicks(t *testing.T) {
	p := begin(t, 9, small())
	p.ack(0, 0)
	p.take(pulse(1))
	if f := p.tick(); len(f) != 2 {
		t.Error("not just the shards:", f)
	}
	p.ticks(9)
}

func TestReset(t *testing.T) {
	p := begin(t, 9, small())
	p.take(pulses(0, 20)...)
	p.ticks(3)
	p.ack(1, 0)
	p.ticks(9)
	p.ack(3, 0)
	if p.d.Lost() == 0 || p.d.Out() == 0 || p.d.Kept() == 0 {
		t.Fatal("nothing is to be seen:", p.d.Lost(), p.d.Out(), p.d.Kept())
	}
	p.reset()
	if p.d.Session() != 1 || p.d.Kept() != 0 || p.d.Out() != 0 || p.d.Lost() != 0 {
		t.Error("session", p.d.Session(), "kept", p.d.Kept(), "out", p.d.Out(), "lost", p.d.Lost())
	}
	wantTold(t, p.d, "hello:01:0")
	wantTold(t, p.d, "hello:01:0")
	p.d.Take(pulse(7))
	wantTold(t, p.d, "hello:01:0 0.0 0.1")
	p.d.Hear(bytesOf(t, ackOf(9, 0, 0)))
	wantTold(t, p.d, "")
	wantTold(t, p.d, "0.0 0.1")
}

func TestResetGreetsAgain(t *testing.T) {
	p := begin(t, 9, small())
	p.ack(0, 0)
	p.reset()
	for range 9 {
		if f := p.tick(); len(f) != 1 {
			t.Fatal("no greeting:", f)
		}
	}
	p.ack(0, 0)
	for range 7 {
		if f := p.tick(); len(f) != 0 {
			t.Fatal("a greeting:", f)
		}
	}
	if f := p.tick(); len(f) != 1 {
		t.Fatal("no greeting:", f)
	}
}

func TestSessionsGoRound(t *testing.T) {
	p := begin(t, 9, small())
	for i := range 600 {
		if p.d.Session() != i%256 {
			t.Fatal("session", p.d.Session(), "behind", i)
		}
		if f := p.tick(); len(f) != 1 || f[0].Data[0] != byte(i) {
			t.Fatal("session", i, "greets by", f)
		}
		p.take(pulse(i))
		p.reset()
	}
}

func TestResetsBehindOneAnother(t *testing.T) {
	p := begin(t, 9, small())
	for range 3 {
		p.reset()
	}
	p.take(pulse(1))
	if f := p.tick(); p.d.Session() != 3 || len(f) != 3 || f[0].Data[0] != 3 {
		t.Error("session", p.d.Session(), f)
	}
}

// TestResetGivesRoom is of the samples that are kept, and of the groups that are out.
func TestResetGivesRoom(t *testing.T) {
	p := begin(t, 9, patient())
	p.take(pulses(0, 60)...)
	p.ticks(5)
	p.take(pulses(60, 9)...)
	p.reset()
	p.take(pulses(0, 61)...)
	p.ticks(5)
	if p.d.Kept() != 52 || p.d.Out() != 4 {
		t.Error("kept", p.d.Kept(), "out", p.d.Out())
	}
}

func TestNilDevice(t *testing.T) {
	var d *Device
	for range 2 {
		for _, s := range []api.Sample{{}, pulse(1), {Kind: 5}} {
			if e := d.Take(s); e != api.ErrArg {
				t.Error("Take:", e)
			}
		}
		for _, b := range [][]byte{nil, bytesOf(t, ackOf(0, 0, 0)), {1}} {
			if d.Hear(b) {
				t.Error("Hear")
			}
		}
		if l := d.Tick(); len(l) != 0 {
			t.Error("Tick:", l)
		}
		if d.Kept() != 0 || d.Out() != 0 || d.Lost() != 0 || d.Session() != 0 {
			t.Error("of none:", d.Kept(), d.Out(), d.Lost(), d.Session())
		}
		d.Reset()
	}
}

func TestGreetsOnce(t *testing.T) {
	for _, l := range someLinks() {
		p := begin(t, 9, l)
		greetings := 0
		for i := range 300 {
			p.take(pulse(i))
			for _, f := range p.tick() {
				if f.Kind == 3 {
					greetings++
				}
			}
			p.ack(p.s.texts, 0)
		}
		if greetings != 1 {
			t.Errorf("%v: %d greetings", l, greetings)
		}
	}
}

// TestGroupsGoRound is of more than 256 of a session: what goes out is collected by layer 7.
func TestGroupsGoRound(t *testing.T) {
	l := small()
	p := begin(t, 9, l)
	c := collect.New(l.Code, 0)
	for i := range 700 {
		p.take(pulse(2*i), pulse(2*i+1))
		for _, f := range p.tick() {
			if f.Kind == 0 {
				c.Shard(f.Seq/16, f.Seq%16, f.Data)
			}
		}
		due := c.Due()
		if len(due) != 1 || due[0].Gap || due[0].Group != i%256 || string(due[0].Data) != string(textOf(l.Code, pulses(2*i, 2))) {
			t.Fatal("group", i, due)
		}
		p.ack(c.Base(), int(c.Ready()))
	}
}
