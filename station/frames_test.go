package station

import (
	"bytes"
	"slices"
	"testing"

	"gurney/api"
	"gurney/frame"
)

// P17.1, step 5: Frames

// Each error of layer 3.
func badFrames() []wire {
	b := good(api.Frame{Tx: 11, Seq: 16, Rssi: 50, Data: []byte{1, 2, 3}}).bytes
	turned := func(at int) []byte {
		c := slices.Clone(b)
		c[at] ^= 4
		return c
	}
	return []wire{
		bad(nil, 2), bad([]byte{}, 2), bad(b[:1], 2), bad(b[:10], 2), bad(make([]byte, 10), 2),
		bad(turned(0), 3), bad(turned(3), 3), bad(turned(6), 3), bad(make([]byte, 11), 3),
		bad(b[:len(b)-1], 4), bad(append(slices.Clone(b), 0), 4), bad(b[:11], 4),
		bad(turned(7), 5), bad(turned(9), 5), bad(turned(len(b)-1), 5),
	}
}

func TestBadFrames(t *testing.T) {
	b := admitted(t, plain(), bedOf(1))
	for _, w := range badFrames() {
		b.want(told([]api.Event{{Kind: 5, A: int(w.e)}}), 9, w)
		b.wantAcks()
	}
	if l := b.s.Follows(); len(l) != 1 || l[0].Last != 0 {
		t.Errorf("%v", l)
	}
	b.want("5 2 0 0, 6 90 0 0, 5 3 0 0, 5 4 0 0, 9 1 1 5", 9, bad(nil, 2), hello(90, 0, 0), badFrames()[5], badFrames()[9], b.text(11, pulse(5)))
}

func ackOf(tx int, data ...byte) wire {
	return good(api.Frame{Tx: tx, Rssi: 50, Kind: 1, Data: data})
}

// An ack is bad, and nothing is heard by it.
func TestAcksAreBad(t *testing.T) {
	c := plain()
	c.Roam.Room = 2
	b := admitted(t, c, bedOf(1))
	for _, w := range []wire{ackOf(11), ackOf(11, 0), ackOf(11, 0, 0), ackOf(99, 1, 0), heardBy(ackOf(11, 1, 15), 5, 127)} {
		b.want("5 6 0 0", 9, w)
		b.wantAcks()
	}
	if l := b.s.Follows(); !slices.Equal(l, []api.Seen{{Tx: 11, Rssi: 50}}) {
		t.Errorf("%v", l)
	}
}

// A Hello without just one byte is bad, but heard, and turns no collector.
func TestHellosWithoutJustOneByte(t *testing.T) {
	b := admitted(t, plain(), bedOf(1), bedOf(2))
	for i, data := range [][]byte{{}, {7, 0}, {0, 0}, make([]byte, 24), make([]byte, 60)} {
		w := good(api.Frame{Tx: 11, Seq: 16 * 9, Rssi: 50, Kind: 3, Data: data})
		b.want("5 6 0 0", 9, w)
		b.wantAcks(api.Frame{Tx: 11, Kind: 1, Data: []byte{0, 0}})
		if l := b.s.Follows(); l[0].Last != i+1 {
			t.Errorf("%v", l)
		}
	}
	b.want("9 1 1 5", 9, b.text(11, pulse(5)))
	strange := good(api.Frame{Tx: 30, Kind: 3})
	b.want("6 30 0 0", 9, strange) // it has no bed: no more is told
	moved := good(api.Frame{Tx: 11, Ant: 3, Rssi: 90, Kind: 3})
	b.want("7 11 3 0, 5 6 0 0", 9, moved)
	b.want("3 1 0 0, 5 6 0 0", 9, admit(bedOf(3)), good(api.Frame{Tx: 13, Kind: 3, Data: []byte{1, 2}}))
	b.wantAcks() // it was heard, and has no collector
}

// One that is refused is strange, with a bed or without; so is one that has no bed, each time.
func TestStrange(t *testing.T) {
	c := plain()
	c.Roam.Room = 2
	b := begin(t, c)
	b.want("3 1 0 0, 3 1 0 0, 6 50 0 0, 6 11 0 0", 9, admit(bedOf(1)), admit(bedOf(2)), hello(50, 0, 0), hello(12, 0, 0), hello(11, 0, 0))
	b.wantAcks(api.Frame{Tx: 12, Kind: 1, Data: []byte{0, 0}})
	for _, w := range []wire{hello(11, 0, 0), skip(11, 0), b.text(11, pulse(1))[0], hello(70, 0, 0), skip(50, 0), b.text(50, pulse(1))[0]} {
		b.want(told([]api.Event{{Kind: 6, A: w.f.Tx}}), 9, w)
		b.wantAcks()
	}
	if l := b.s.Follows(); len(l) != 2 || l[0].Tx != 50 || l[1].Tx != 12 {
		t.Errorf("%v", l)
	}
	b.wantWaits(1, 0, 0, 0)
}

// One that was refused has no collector by that, also when there is room.
func TestRefusedHellosMakeNoCollector(t *testing.T) {
	c := plain()
	c.Roam.Room, c.Roam.Age = 1, 2
	b := begin(t, c)
	b.want("3 1 0 0, 6 50 0 0, 6 11 0 0", 9, admit(bedOf(1)), hello(50, 0, 0), b.greet(11))
	b.want("6 11 0 0", 9, b.text(11, pulse(1)))
	b.wait(1, 9)
	b.want("4 50 0 0", 9, b.text(11, pulse(1)))
	b.wantAcks()
	b.want("9 1 1 3", 9, b.greet(11), b.text(11, pulse(3)))
}

// One that moved is told with its new home, ahead of what else is told of it.
func TestHome(t *testing.T) {
	b := admitted(t, plain(), bedOf(1))
	b.want("", 9, heardBy(skip(11, 9), 2, 54))
	b.want("7 11 2 0", 9, heardBy(skip(11, 9), 2, 55))
	b.want("", 9, heardBy(skip(11, 9), 2, 10), heardBy(skip(11, 9), 2, 60))
	b.want("7 11 0 0, 7 11 7 0", 9, heardBy(skip(11, 9), 0, 65), heardBy(skip(11, 9), 7, 127))
	b.want("6 60 0 0, 7 60 1 0, 6 60 0 0", 9, hello(60, 0, 0), heardBy(hello(60, 0, 0), 1, 60)) // without a bed
	b.want("7 60 0 0, 6 60 0 0, 5 6 0 0", 9, heardBy(hello(60, 0, 0), 0, 90), ackOf(60))
	b.want("7 11 1 0, 5 6 0 0", 9, heardBy(skip(11, 9), 7, 5), heardBy(good(api.Frame{Tx: 11, Kind: 3}), 1, 10))
}

// A Hello of the session that the collector has turns nothing; of another one there is a new collector.
func TestHelloOfTheSameSession(t *testing.T) {
	c := plain()
	c.Link.Code = api.Code{K: 2, N: 3, Size: 8}
	b := admitted(t, c, with(1, 60, 1, 1000))
	text := shardsOf(c.Link.Code, textOf(c.Link.Code, pulse(5)))
	b.want("", 9, shard(11, 0, 0, text[0]), skip(11, 1))
	b.wantAcks(api.Frame{Tx: 11, Kind: 1, Data: []byte{0, 2}})
	b.want("", 9, hello(11, 0, 0), hello(11, 77, 0))
	b.wantAcks(api.Frame{Tx: 11, Kind: 1, Data: []byte{0, 2}})
	b.want("8 1 1 0, 9 1 1 5", 9, shard(11, 0, 2, text[2]))
	b.wantAcks(api.Frame{Tx: 11, Kind: 1, Data: []byte{2, 0}})
}

func TestHelloOfAnotherSession(t *testing.T) {
	c := plain()
	c.Link.Code = api.Code{K: 2, N: 3, Size: 8}
	b := admitted(t, c, with(1, 60, 1, 1000))
	text := shardsOf(c.Link.Code, textOf(c.Link.Code, pulse(5), point(6)))
	b.want("", 9, shard(11, 0, 0, text[0]), skip(11, 1))
	for i, group := range []int{0, 9, 255, 128} {
		b.want("", 9, hello(11, group, 200+i%2))
		b.wantAcks(api.Frame{Tx: 11, Kind: 1, Data: []byte{byte(group), 0}})
		b.want("", 9, shard(11, group, 2, text[2]), skip(11, (group+2)%256))
		b.wantAcks(api.Frame{Tx: 11, Kind: 1, Data: []byte{byte(group), 4}})
	}
	b.want("9 1 1 5", 9, shard(11, 128, 1, text[1]))
	b.wantWaits(1, 0, 1, 1)
	b.want("", 9, hello(11, 128, 0)) // of a session that it had before
	b.want("", 9, shard(11, 128, 1, text[1]), shard(11, 128, 2, text[2]))
	b.wantWaits(1, 1, 2, 2)
}

// Each session from 0 to 255, each group.
func TestHelloOfEachSessionAndGroup(t *testing.T) {
	b := admitted(t, plain(), with(1, 60, 1, 1000))
	for n := 255; n >= 0; n-- {
		b.want("", 9, hello(11, 255-n, n))
		b.wantAcks(api.Frame{Tx: 11, Kind: 1, Data: []byte{byte(255 - n), 0}})
		b.want("", 9, hello(11, n, n))
		b.wantAcks(api.Frame{Tx: 11, Kind: 1, Data: []byte{byte(255 - n), 0}})
	}
}

// The place in a Hello's Seq doesn't matter.
func TestHelloOfAPlace(t *testing.T) {
	b := admitted(t, plain(), bedOf(1))
	b.want("", 9, good(api.Frame{Tx: 11, Seq: 16*7 + 15, Kind: 3, Data: []byte{1}}))
	b.wantAcks(api.Frame{Tx: 11, Kind: 1, Data: []byte{7, 0}})
}

func TestShardsAndSkipsWithoutACollector(t *testing.T) {
	b := begin(t, plain())
	b.want("3 1 0 0", 9, admit(bedOf(1)), skip(11, 0), b.text(11, pulse(5)))
	b.wantAcks()
	if l := b.s.Follows(); len(l) != 1 {
		t.Errorf("%v", l)
	}
	b.want("", 9, hello(11, 0, 0)) // nothing was kept
	b.wantAcks(api.Frame{Tx: 11, Kind: 1, Data: []byte{0, 0}})
}

// The collector's errors are untold: no place, another size, there already, behind, not open.
func TestTheCollectorsErrorsAreUntold(t *testing.T) {
	b := admitted(t, plain(), with(1, 60, 1, 1000))
	text := textOf(b.m.c.Link.Code, pulse(5))
	b.want("9 1 1 5", 9, shard(11, 0, 1, text))
	for _, w := range []wire{
		shard(11, 0, 0, text), shard(11, 200, 0, text), shard(11, 5, 0, text), shard(11, 127, 0, text),
		shard(11, 1, 2, text), shard(11, 1, 15, text), shard(11, 1, 0, text[1:]), shard(11, 1, 0, nil), shard(11, 1, 0, append(text, 0)),
		skip(11, 0), skip(11, 200), skip(11, 5), shard(11, 2, 0, text), shard(11, 2, 0, text), skip(11, 3), skip(11, 3),
	} {
		b.want("", 9, w)
		if len(b.acks) != 1 {
			t.Errorf("%v: %x", w.f, b.acks)
		}
	}
	b.wantAcks(api.Frame{Tx: 11, Kind: 1, Data: []byte{1, 6}})
	b.wantWaits(1, 0, 0, 0)
}

// A transmitter's frames are its bed's.
func TestFramesAreOfTheTransmittersBed(t *testing.T) {
	x, y := with(1, 1, 1, 1000), with(2, 1, 1, 1000)
	x.Tx, y.Tx = 2, 1
	b := admitted(t, plain(), x, y)
	b.want("9 1 1 21", 9, b.text(2, pulse(21)))
	b.want("9 2 1 12", 9, b.text(1, pulse(12)))
}

// Step 6: Parts

func TestGap(t *testing.T) {
	b := admitted(t, plain(), with(3, 60, 1, 1000), with(1, 60, 1, 1000))
	text := textOf(b.m.c.Link.Code, pulse(9))
	b.want("8 3 0 0, 8 3 1 0, 8 3 3 0, 8 1 0 0, 9 3 1 9", 9, skip(11, 0), skip(13, 0), skip(13, 1), skip(13, 3), shard(13, 2, 0, text))
}

// Groups go round, and gaps are told by their groups.
func TestGapsGoRound(t *testing.T) {
	b := begin(t, plain())
	b.want("3 1 0 0", 9, admit(bedOf(1)), hello(11, 250, 0))
	for i := range 300 {
		group := (250 + i) % 256
		b.want(told([]api.Event{{Kind: 8, A: 1, B: group}}), 9, skip(11, group))
	}
}

// A group that was given up, but is whole, is no gap.
func TestNoGapOfAWholeGroup(t *testing.T) {
	b := admitted(t, plain(), bedOf(1))
	text := textOf(b.m.c.Link.Code, pulse(9))
	b.want("9 1 1 9", 9, skip(11, 0), shard(11, 0, 0, text))
}

// A text that is none is spilled, once, and nothing of it waits; one without samples isn't.
func TestSpilledOfTextsThatAreNone(t *testing.T) {
	b := admitted(t, plain(), with(1, 60, 1, 1000), with(2, 60, 1, 1000))
	fine := textOf(b.m.c.Link.Code, pulse(5), point(6))
	turn := func(at int, n byte) []byte {
		c := slices.Clone(fine)
		c[at] = n
		return c
	}
	for _, text := range [][]byte{turn(0, 8), turn(0, 255), turn(0, 1), turn(0, 3), turn(1, 0), turn(1, 0xff), turn(3, fine[3]|1), turn(23, 1), turn(5, 0xff), bytes.Repeat([]byte{255}, 24)} {
		if _, ok := samplesOf(text); ok {
			t.Fatalf("%x is a text", text)
		}
		b.want("12 1 0 0", 9, b.raw(11, text, 0))
		b.wantWaits(1, 0, 0, 0)
	}
	b.want("", 9, b.text(11), b.text(12))
	gap := skip(11, b.next[11])
	b.next[11]++
	b.want("8 1 11 0, 12 1 0 0, 12 2 0 0, 9 1 1 5, 9 2 1 5", 9, gap, b.raw(11, turn(0, 9), 1), b.raw(11, fine, 0), b.raw(12, turn(0, 9), 0), b.raw(12, fine, 1))
	b.wantWaits(1, 0, 1, 1)
}

// A numeric sample beyond 24 that wait is spilled, each for itself; points and other beds don't matter.
func TestSpilledBeyond24(t *testing.T) {
	b := admitted(t, plain(), with(1, 60, 1, 1000), with(2, 60, 1, 1000))
	b.want("9 1 1 7", 9, b.text(11, pulse(7)), b.many(12, 7, point(1)))
	b.want("", 9, b.many(11, 14, pulse(8)))
	b.want("", 9, b.many(11, 9, pulse(9)))
	b.wantWaits(1, 23, 0, 0)
	b.want("", 9, b.text(11, point(1), point(2), pulse(10), point(3)))
	b.wantWaits(1, 24, 3, 3)
	b.want("12 1 0 0, 12 1 0 0, 9 2 1 5", 9, b.text(11, pulse(11), point(4), pulse(12), point(5)), b.text(12, pulse(5)))
	b.wantWaits(1, 24, 5, 5)
	for b.s.Now() < 61 {
		b.tick(9)
	}
	b.want("9 1 1 8", 9)
	b.wantWaits(1, 23, 5, 5)
	b.want("12 1 0 0", 9, b.text(11, sampleOf(2, 1), pulse(13)))
	b.wantWaits(1, 24, 5, 5)
}

// Those that wait are looked at in the order in which they came.
func TestWhatWaitsIsLookedAtInOrder(t *testing.T) {
	b := admitted(t, plain(), with(1, 2, 3, 1000))
	var want, got []int
	for i := range 60 {
		var frames []wire
		if i < 6 {
			v := 100 + 4*i
			frames = b.text(11, pulse(v), pulse(v+1), pulse(v+2), pulse(v+3))
			want = append(want, v, v+1, v+2, v+3)
		}
		for _, e := range b.tick(9, frames) {
			got = append(got, e.C)
		}
	}
	if !slices.Equal(got, want) {
		t.Errorf("%v, not %v", got, want)
	}
}

// Points count whether they are looked at or not, also where the waves' queue is full.
func TestPointsOfAFullQueue(t *testing.T) {
	b := admitted(t, plain(), bedOf(1), bedOf(2))
	b.want("", 20, b.many(11, 28, point(1)), b.many(12, 28, point(2)))
	b.wantLeft(0, 20)
	b.wantWaits(1, 0, 28, 20)
	b.wantWaits(2, 0, 28, 0)
	b.want("", 100, b.many(11, 28, point(1)))
	b.wantWaits(1, 0, 56, 48) // 20 of 28 had room
	b.wantWaits(2, 0, 28, 12) // those that had room: 12 of 28
}

// A bed's texts are taken in the beds' order, whichever came first.
func TestPartsAreInTheBedsOrder(t *testing.T) {
	b := admitted(t, plain(), bedOf(3), bedOf(1), bedOf(2))
	b.want("8 3 0 0, 8 1 0 0, 8 2 0 0", 9, skip(12, 0), skip(11, 0), skip(13, 0))
}

// Step 10: Acks

func TestAcks(t *testing.T) {
	b := admitted(t, plain(), bedOf(3), bedOf(1), bedOf(2))
	b.wantAcks(api.Frame{Tx: 13, Kind: 1, Data: []byte{0, 0}}, api.Frame{Tx: 11, Kind: 1, Data: []byte{0, 0}}, api.Frame{Tx: 12, Kind: 1, Data: []byte{0, 0}})
	b.tick(9)
	b.wantAcks() // of none that wasn't heard in this tick
	b.tick(9, skip(12, 3), heardBy(skip(13, 1), 6, 50))
	b.wantAcks(api.Frame{Tx: 13, Kind: 1, Data: []byte{0, 2}}, api.Frame{Tx: 12, Kind: 1, Data: []byte{0, 8}})
	b.tick(9, heardBy(skip(13, 0), 6, 55), skip(13, 3), skip(13, 9), badFrames()[0])
	b.wantAcks(api.Frame{Tx: 13, Ant: 6, Kind: 1, Data: []byte{2, 2}}) // by its home
	b.tick(9, hello(80, 0, 0), hello(11, 0, 0), hello(11, 0, 0))
	b.wantAcks(api.Frame{Tx: 11, Kind: 1, Data: []byte{0, 0}}) // once
	b.tick(9, heardBy(skip(13, 9), 1, 3))
	b.wantAcks(api.Frame{Tx: 13, Ant: 6, Kind: 1, Data: []byte{2, 2}}) // by its home, not by the one that heard it
}

// All sixteen rows of groups that are ready: the base isn't.
func TestAcksOfEachBits(t *testing.T) {
	for bits := range 16 {
		b := begin(t, plain())
		things := []any{admit(bedOf(1)), hello(11, 254, 9)}
		base, left := 254, bits
		for i := range 4 {
			if bits>>i&1 == 1 {
				things = append(things, skip(11, (254+i)%256))
			}
		}
		for ; left&1 == 1; left >>= 1 {
			base = (base + 1) % 256
		}
		b.tick(9, things...)
		b.wantAcks(api.Frame{Tx: 11, Kind: 1, Data: []byte{byte(base), byte(left)}})
	}
}

// Their bytes, written out: Tx 11, Seq 0, Ant 3, Rssi 0, Kind 1, two bytes of Data.
func TestAcksBytes(t *testing.T) {
	b := begin(t, plain())
	_, acks := b.s.Tick(api.Input{Cmds: []api.Cmd{admit(bedOf(1))}, Frames: [][]byte{heardBy(hello(11, 77, 0), 3, 20).bytes, heardBy(skip(11, 79), 3, 20).bytes}})
	if len(acks) != 1 || len(acks[0]) != 13 || !bytes.Equal(acks[0][:5], []byte{0x0b, 0, 0x06, 0x01, 2}) || !bytes.Equal(acks[0][7:9], []byte{77, 4}) {
		t.Fatalf("%x", acks)
	}
	if f, e := frame.Parse(acks[0]); e != 0 || f.Tx != 11 || f.Ant != 3 {
		t.Errorf("%v %d", f, e)
	}
}

// Without a collector there is no ack, though it was heard.
func TestNoAckWithoutACollector(t *testing.T) {
	b := begin(t, plain())
	b.tick(9, admit(bedOf(1)), admit(bedOf(2)), skip(11, 0), b.text(11, pulse(1)), hello(12, 5, 5))
	b.wantAcks(api.Frame{Tx: 12, Kind: 1, Data: []byte{5, 0}})
	b.tick(9, skip(11, 0))
	b.wantAcks()
	b.tick(9, skip(11, 0), hello(11, 6, 5))
	b.wantAcks(api.Frame{Tx: 11, Kind: 1, Data: []byte{6, 0}})
}
