package station

import (
	"math"
	"slices"
	"strconv"
	"strings"
	"testing"

	"gurney/api"
	"gurney/frame"
	"gurney/record"
	"gurney/rs"
)

// numbers are any, at the edges of what a station has, and such that low bits of them alone would do.
var numbers = []int{
	math.MinInt, math.MinInt + 1, -1<<40 - 1, math.MinInt32, -1 << 32, -100001, -1001, -1000, -128, -9, -2, -1,
	0, 1, 2, 3, 4, 5, 6, 7, 8, 9, 10, 11, 12, 24, 25, 40, 59, 60, 61, 98, 99, 100, 101, 126, 127, 128, 129, 254, 255, 256, 257, 260, 999, 1000, 1001, 1002,
	9999, 10000, 10001, 1<<16 + 1, 99999, 100000, 100001, math.MaxInt32, 1 << 32, 1<<32 + 1, 1<<32 + 5, 1 << 40, 1 << 62, math.MaxInt - 1, math.MaxInt,
}

// plain has room for 7 samples in a text; of K 1 each shard is its text.
func plain() api.Conf {
	return api.Conf{
		Roam:     api.Roam{Room: 8, Age: 1000, Margin: 5},
		Link:     api.Link{Code: api.Code{K: 1, N: 2, Size: 24}, Wait: 2, Most: 2},
		Capacity: 4, Calm: 3, Ahead: 2,
	}
}

// both is a station and the model, to which the same is done; what they answer is held against each other.
type both struct {
	t    *testing.T
	s    *Station
	m    *model
	next map[int]int // each transmitter's next group
	acks [][]byte    // the last tick's
}

func begin(t *testing.T, c api.Conf) *both {
	t.Helper()
	s := New(c)
	if s == nil {
		t.Fatalf("New(%v) = nil", c)
	}
	b := &both{t: t, s: s, m: &model{c: c}, next: map[int]int{}}
	b.check()
	return b
}

// check holds all that the station tells against the model.
func (b *both) check() {
	b.t.Helper()
	s, m := b.s, b.m
	if s.Now() != m.now || !slices.Equal(s.Beds(), m.list()) {
		b.t.Fatalf("at %d: Now() = %d, Beds() = %v, not %v", m.now, s.Now(), s.Beds(), m.list())
	}
	if l := s.Alarms(); !slices.Equal(l, m.alarms()) || s.Sounds() != m.sounds() {
		b.t.Fatalf("at %d: Alarms() = %v, Sounds() = %v, not %v, %v", m.now, l, s.Sounds(), m.alarms(), m.sounds())
	}
	if l := s.Follows(); !slices.Equal(l, m.seen) {
		b.t.Fatalf("at %d: Follows() = %v, not %v", m.now, l, m.seen)
	}
	n, w := s.Left()
	if numeric, waves := m.left(); n != numeric || w != waves {
		b.t.Fatalf("at %d: Left() = %d, %d, not %d, %d", m.now, n, w, numeric, waves)
	}
	for id := -1; id <= 100; id++ {
		b.checkBed(id)
	}
}

func (b *both) checkBed(id int) {
	b.t.Helper()
	want := place{level: 3}
	if p := b.m.bed(id); p != nil {
		want = *p
	}
	waits, points, looked := b.s.Waits(id)
	if lost, level := b.s.Lost(id), b.s.Level(id); lost != want.lost || level != want.level {
		b.t.Fatalf("at %d: Lost(%d) = %v, Level = %d, not %v, %d", b.m.now, id, lost, level, want.lost, want.level)
	}
	if waits != len(want.waits) || points != want.points || looked != want.looked {
		b.t.Fatalf("at %d: Waits(%d) = %d, %d, %d, not %d, %d, %d", b.m.now, id, waits, points, looked, len(want.waits), want.points, want.looked)
	}
}

// inputOf is a tick's input of frames and commands.
func inputOf(frames []wire, cmds []api.Cmd, budget int) api.Input {
	in := api.Input{Cmds: cmds, Budget: budget}
	for _, w := range frames {
		in.Frames = append(in.Frames, w.bytes)
	}
	return in
}

// do is a tick.
func (b *both) do(frames []wire, cmds []api.Cmd, budget int) []api.Event {
	b.t.Helper()
	now := b.m.now
	events, acks := b.s.Tick(inputOf(frames, cmds, budget))
	want, wantAcks := b.m.tick(frames, cmds, budget)
	if !slices.Equal(events, want) {
		b.t.Fatalf("at %d: %s, not %s", now, told(events), told(want))
	}
	if !sameBytes(acks, wantAcks) {
		b.t.Fatalf("at %d: acks %x, not %x", now, acks, wantAcks)
	}
	b.acks = acks
	b.check()
	return events
}

// tick is a tick of frames and commands in one row, each kind of them in its order.
func (b *both) tick(budget int, things ...any) []api.Event {
	b.t.Helper()
	var frames []wire
	var cmds []api.Cmd
	for _, x := range things {
		switch y := x.(type) {
		case wire:
			frames = append(frames, y)
		case []wire:
			frames = append(frames, y...)
		case api.Cmd:
			cmds = append(cmds, y)
		default:
			b.t.Fatalf("%v is neither a frame nor a command", x)
		}
	}
	return b.do(frames, cmds, budget)
}

// want is a tick, and asks for its events.
func (b *both) want(events string, budget int, things ...any) {
	b.t.Helper()
	now := b.m.now
	if e := told(b.tick(budget, things...)); e != events {
		b.t.Fatalf("at %d: %q, not %q", now, e, events)
	}
}

// wait is so many ticks without anything, of which nothing is to be told.
func (b *both) wait(ticks, budget int) {
	b.t.Helper()
	for range ticks {
		b.want("", budget)
	}
}

// wantAcks asks for the acks of the last tick.
func (b *both) wantAcks(want ...api.Frame) {
	b.t.Helper()
	var bytes [][]byte
	for _, f := range want {
		bytes = append(bytes, frame.Put(f))
	}
	if !sameBytes(b.acks, bytes) {
		b.t.Errorf("ahead of %d: acks %x, not %x", b.m.now, b.acks, bytes)
	}
}

func (b *both) wantAlarms(want ...api.Alarm) {
	b.t.Helper()
	if l := b.s.Alarms(); !slices.Equal(l, want) {
		b.t.Errorf("at %d: alarms %v, not %v", b.m.now, l, want)
	}
}

func (b *both) wantWaits(bed, waits, points, looked int) {
	b.t.Helper()
	if w, p, l := b.s.Waits(bed); w != waits || p != points || l != looked {
		b.t.Errorf("at %d: Waits(%d) = %d, %d, %d, not %d, %d, %d", b.m.now, bed, w, p, l, waits, points, looked)
	}
}

func (b *both) wantLeft(numeric, waves int) {
	b.t.Helper()
	if n, w := b.s.Left(); n != numeric || w != waves {
		b.t.Errorf("at %d: Left() = %d, %d, not %d, %d", b.m.now, n, w, numeric, waves)
	}
}

func (b *both) wantLevels(want map[int]int) {
	b.t.Helper()
	for bed, level := range want {
		if got := b.s.Level(bed); got != level {
			b.t.Errorf("at %d: Level(%d) = %d, not %d", b.m.now, bed, got, level)
		}
	}
}

// told are events as numbers, a comma between two.
func told(events []api.Event) string {
	var l []string
	for _, e := range events {
		var words []string
		for _, n := range []int{e.Kind, e.A, e.B, e.C} {
			words = append(words, strconv.Itoa(n))
		}
		l = append(l, strings.Join(words, " "))
	}
	return strings.Join(l, ", ")
}

// Commands.

func admit(b api.Bed) api.Cmd { return api.Cmd{Kind: 1, Bed: b} }

func discharge(id int) api.Cmd { return api.Cmd{Kind: 2, A: id} }

func setLimit(bed, kind, from, to, count int) api.Cmd {
	return api.Cmd{Kind: 3, Limit: api.Limit{Bed: bed, Kind: kind, From: from, To: to, Count: count}}
}

func ack(bed, kind int) api.Cmd { return api.Cmd{Kind: 4, A: bed, B: kind} }

func silence(ticks int) api.Cmd { return api.Cmd{Kind: 5, A: ticks} }

// bedOf is a bed of little load, whose transmitter is its number and 10.
func bedOf(id int) api.Bed {
	return api.Bed{Id: id, Tx: id + 10, Period: 2, Cost: 1, Watch: 1000, Prio: 5}
}

// with is a bed of other numbers: of a period, a cost, a watch.
func with(id, period, cost, watch int) api.Bed {
	return api.Bed{Id: id, Tx: id + 10, Period: period, Cost: cost, Watch: watch, Prio: 5}
}

// Frames.

func good(f api.Frame) wire {
	b := frame.Put(f)
	if b == nil {
		panic("no right frame")
	}
	return wire{bytes: b, f: f}
}

func bad(b []byte, e api.Errno) wire { return wire{bytes: b, e: e} }

func hello(tx, group, session int) wire {
	return good(api.Frame{Tx: tx, Seq: 16 * group, Rssi: 50, Kind: 3, Data: []byte{byte(session)}})
}

func skip(tx, group int) wire {
	return good(api.Frame{Tx: tx, Seq: 16 * group, Rssi: 50, Kind: 2})
}

func shard(tx, group, place int, data []byte) wire {
	return good(api.Frame{Tx: tx, Seq: 16*group + place, Rssi: 50, Data: data})
}

// heardBy is a frame heard by an antenna, that strong.
func heardBy(w wire, ant, rssi int) wire {
	w.f.Ant, w.f.Rssi = ant, rssi
	return good(w.f)
}

func textOf(c api.Code, l ...api.Sample) []byte {
	b, e := record.Pack(c, l)
	if e != api.OK {
		panic(e)
	}
	return b
}

func shardsOf(c api.Code, text []byte) [][]byte {
	l, e := rs.Encode(c, text)
	if e != api.OK {
		panic(e)
	}
	return l
}

// raw is a transmitter's next group of any text, by its shards of the places.
func (b *both) raw(tx int, text []byte, places ...int) []wire {
	var l []wire
	shards := shardsOf(b.m.c.Link.Code, text)
	for _, at := range places {
		l = append(l, shard(tx, b.next[tx], at, shards[at]))
	}
	b.next[tx] = (b.next[tx] + 1) % 256
	return l
}

// text is a transmitter's next group of samples, by as many shards as it needs.
func (b *both) text(tx int, l ...api.Sample) []wire {
	c := b.m.c.Link.Code
	var places []int
	for i := range c.K {
		places = append(places, c.N-1-i)
	}
	return b.raw(tx, textOf(c, l...), places...)
}

// many is a transmitter's next groups of so many samples that are all alike, at most four groups.
func (b *both) many(tx, samples int, x api.Sample) []wire {
	var l []wire
	fits := record.Fits(b.m.c.Link.Code)
	for ; samples > 0; samples -= fits {
		l = append(l, b.text(tx, slices.Repeat([]api.Sample{x}, min(samples, fits))...)...)
	}
	return l
}

// greet is a greeting of session 0 from the transmitter's next group on.
func (b *both) greet(tx int) wire { return hello(tx, b.next[tx], 0) }

func pulse(v int) api.Sample { return api.Sample{Kind: 1, At: 7, Value: v} }

func sampleOf(kind, v int) api.Sample { return api.Sample{Kind: kind, At: 7, Value: v} }

func point(v int) api.Sample { return api.Sample{Kind: 5, At: 7, Value: v} }

// admitted is a station of these beds, each greeted, at the time 1; its tick had the greatest budget, so that the next one's gives nothing up.
func admitted(t *testing.T, c api.Conf, beds ...api.Bed) *both {
	t.Helper()
	b := begin(t, c)
	var things []any
	for _, x := range beds {
		things = append(things, admit(x), b.greet(x.Tx))
	}
	for _, e := range b.tick(100000, things...) {
		if e.Kind != 3 || e.B != 0 {
			t.Fatalf("%v", e)
		}
	}
	return b
}
