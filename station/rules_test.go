package station

import (
	"bytes"
	"math/rand"
	"slices"
	"sync"
	"testing"

	"gurney/api"
)

// The rules that hold everywhere, of each call of the package.

func drawNumber(r *rand.Rand) int { return numbers[r.Intn(len(numbers))] }

// anyInput is bytes and numbers of any kind.
func anyInput(r *rand.Rand) ([]wire, api.Input) {
	var in api.Input
	for range r.Intn(5) {
		b := make([]byte, r.Intn(80))
		r.Read(b)
		in.Frames = append(in.Frames, b)
	}
	if r.Intn(3) == 0 {
		in.Frames = append(in.Frames, nil, []byte{})
	}
	var frames []wire
	for _, b := range in.Frames {
		e := api.Errno(3) // no drawn head is right
		if len(b) < 11 {
			e = 2
		}
		frames = append(frames, bad(b, e))
	}
	for range r.Intn(4) {
		in.Cmds = append(in.Cmds, api.Cmd{
			Kind: r.Intn(7), A: drawNumber(r), B: drawNumber(r),
			Bed:   api.Bed{Id: drawNumber(r), Tx: drawNumber(r), Period: drawNumber(r), Cost: drawNumber(r), Watch: drawNumber(r), Prio: drawNumber(r)},
			Limit: api.Limit{Bed: drawNumber(r), Kind: drawNumber(r), From: drawNumber(r), To: drawNumber(r), Count: drawNumber(r)},
		})
	}
	in.Budget = drawNumber(r)
	return frames, in
}

// Rule 1

func TestAnyArguments(t *testing.T) {
	r := rand.New(rand.NewSource(3))
	for range 60 {
		b := admitted(t, plain(), bedOf(1), bedOf(2))
		for range 100 {
			frames, in := anyInput(r)
			b.do(frames, in.Cmds, in.Budget)
			n := drawNumber(r)
			b.s.Lost(n)
			b.s.Level(n)
			b.s.Waits(n)
		}
	}
}

// Bytes of any kind with right sums: any Tx, Seq, Ant, Rssi, Kind, up to 60 bytes.
func TestAnyFrames(t *testing.T) {
	r := rand.New(rand.NewSource(4))
	for range 60 {
		b := admitted(t, plain(), bedOf(1), bedOf(2))
		for range 40 {
			var frames []wire
			for range 10 {
				data := make([]byte, r.Intn(61))
				if r.Intn(3) == 0 {
					data = make([]byte, 24)
				}
				r.Read(data)
				f := api.Frame{Tx: 11 + r.Intn(2), Seq: r.Intn(4096), Ant: r.Intn(8), Rssi: r.Intn(128), Kind: r.Intn(4), Data: data}
				if r.Intn(3) == 0 {
					f.Tx = r.Intn(256)
				}
				frames = append(frames, good(f))
			}
			b.do(frames, nil, r.Intn(9))
		}
	}
}

func TestConfigsOfAnyNumbers(t *testing.T) {
	r := rand.New(rand.NewSource(5))
	for range 20000 {
		n := func() int { return drawNumber(r) }
		c := api.Conf{Roam: api.Roam{Room: n(), Age: n(), Margin: n()}, Link: api.Link{Code: api.Code{K: n(), N: n(), Size: n()}, Wait: n(), Most: n()}, Capacity: n(), Calm: n(), Ahead: n()}
		if s := New(c); (s != nil) != May(c) {
			t.Fatalf("%v", c)
		}
	}
}

func TestManyOfAll(t *testing.T) {
	b := begin(t, plain())
	var frames []wire
	var cmds []api.Cmd
	for i := range 5000 {
		cmds = append(cmds, admit(bedOf(i%120)), discharge(i%7), setLimit(i%9, 1, 0, 9, 1), silence(i))
		frames = append(frames, hello(i%256, i%256, i%5), skip(10+i%3, (i+1)%256))
	}
	for range 5 {
		b.do(frames, cmds, 9)
	}
}

// Rule 3

func TestNilAndEmptyAreOne(t *testing.T) {
	empty := api.Input{Frames: [][]byte{}, Cmds: []api.Cmd{}}
	s, o := New(plain()), New(plain())
	for range 5 {
		e, a := s.Tick(api.Input{})
		f, b := o.Tick(empty)
		if len(e)+len(a)+len(f)+len(b) != 0 {
			t.Errorf("%v %x %v %x", e, a, f, b)
		}
		wantBare(t, s, o.Now())
	}
	e, _ := s.Tick(api.Input{Frames: [][]byte{nil, {}, make([]byte, 0, 40)}})
	if told(e) != "5 2 0 0, 5 2 0 0, 5 2 0 0" {
		t.Error(told(e))
	}
}

// Rule 4

// roomy is a copy of bytes, and the array that it stands in, which has room behind it.
func roomy(b []byte) (part, all []byte) {
	all = make([]byte, len(b)+70)
	for i := range all {
		all[i] = byte(3*i + 1)
	}
	copy(all, b)
	return all[:len(b)], all
}

func spoil(b []byte) {
	b = b[:cap(b)]
	for i := range b {
		b[i] ^= 0xff
	}
}

// spoiled is an input that has room everywhere, and what asks whether it stands as it stood, and turns all of it then.
func spoiled(t *testing.T, in api.Input) (api.Input, func()) {
	t.Helper()
	var arrays, were [][]byte
	frames := make([][]byte, len(in.Frames), len(in.Frames)+3)
	for i, b := range in.Frames {
		part, all := roomy(b)
		frames[i] = part
		arrays, were = append(arrays, all), append(were, bytes.Clone(all))
	}
	cmds := append(make([]api.Cmd, 0, len(in.Cmds)+3), in.Cmds...)
	heads := slices.Clone(frames)
	return api.Input{Frames: frames, Cmds: cmds, Budget: in.Budget}, func() {
		t.Helper()
		if !sameBytes(arrays, were) || !sameBytes(frames, heads) || !slices.Equal(cmds, in.Cmds) {
			t.Fatal("an input is turned")
		}
		for _, b := range frames[len(frames):cap(frames)] {
			if b != nil {
				t.Fatal("an input's spare room is turned")
			}
		}
		for _, c := range cmds[len(cmds):cap(cmds)] {
			if c != (api.Cmd{}) {
				t.Fatal("an input's spare room is turned")
			}
		}
		for i := range arrays {
			spoil(arrays[i])
			frames[i] = []byte{1}
		}
		for i := range cmds {
			cmds[i] = api.Cmd{Kind: 2, A: 1, Bed: api.Bed{Id: 3, Cost: -1}}
		}
	}
}

// spoilAnswers turns all that a station answers, the spare room too.
func spoilAnswers(s *Station, events []api.Event, acks [][]byte) {
	for _, b := range acks {
		spoil(b)
	}
	events, acks = events[:cap(events)], acks[:cap(acks)]
	for i := range events {
		events[i] = api.Event{Kind: -1, A: -1, B: -1, C: -1}
	}
	for i := range acks {
		acks[i] = []byte("spoiled")
	}
	beds, alarms, seen := s.Beds(), s.Alarms(), s.Follows()
	beds, alarms, seen = beds[:cap(beds)], alarms[:cap(alarms)], seen[:cap(seen)]
	for i := range beds {
		beds[i] = api.Bed{Id: -5, Tx: -5, Period: 60, Cost: 100, Watch: -1, Prio: -1}
	}
	for i := range alarms {
		alarms[i] = api.Alarm{Bed: -5, Kind: 9, Since: -1, Acked: true}
	}
	for i := range seen {
		seen[i] = api.Seen{Tx: -5, Ant: 9, Rssi: 999, Last: -1}
	}
}

// script is a row of inputs that are drawn, with acks taken from a station of its own.
func script(seed int) (api.Conf, []api.Input) {
	var l []api.Input
	var conf api.Conf
	drawnRun(seed, 80, func(_ *Station, c api.Conf, in api.Input, _ []api.Event) {
		conf, l = c, append(l, in)
	})
	return conf, l
}

// say is all that a station tells, and what a tick told.
type say struct {
	events       []api.Event
	acks         [][]byte
	now          int
	beds         []api.Bed
	alarms       []api.Alarm
	seen         []api.Seen
	sounds       bool
	numeric, wav int
	rows         [10][5]int
}

func sayOf(s *Station, events []api.Event, acks [][]byte) say {
	x := say{events: slices.Clone(events), now: s.Now(), beds: s.Beds(), alarms: s.Alarms(), seen: s.Follows(), sounds: s.Sounds()}
	for _, b := range acks {
		x.acks = append(x.acks, bytes.Clone(b))
	}
	x.numeric, x.wav = s.Left()
	for id := range x.rows {
		a, b, c := s.Waits(id)
		x.rows[id] = [5]int{a, b, c, s.Level(id)}
		if s.Lost(id) {
			x.rows[id][4] = 1
		}
	}
	return x
}

func (x say) same(y say) bool {
	return slices.Equal(x.events, y.events) && sameBytes(x.acks, y.acks) && x.now == y.now && slices.Equal(x.beds, y.beds) && slices.Equal(x.alarms, y.alarms) &&
		slices.Equal(x.seen, y.seen) && x.sounds == y.sounds && x.numeric == y.numeric && x.wav == y.wav && x.rows == y.rows
}

// alone is what a station says of each tick of a script, to which nothing else is done.
func alone(c api.Conf, l []api.Input) []say {
	var says []say
	s := New(c)
	for _, in := range l {
		events, acks := s.Tick(in)
		says = append(says, sayOf(s, events, acks))
	}
	return says
}

func TestInputsAreNeitherTurnedNorKept(t *testing.T) {
	for seed := range 30 {
		c, l := script(seed)
		want, s := alone(c, l), New(c)
		for i, in := range l {
			mine, turn := spoiled(t, in)
			events, acks := s.Tick(mine)
			turn()
			if x := sayOf(s, events, acks); !x.same(want[i]) {
				t.Fatalf("seed %d, at %d: %v, not %v", seed, i, x, want[i])
			}
		}
	}
}

func TestAnswersAreNewMemory(t *testing.T) {
	for seed := range 30 {
		c, l := script(seed)
		want, s := alone(c, l), New(c)
		for i, in := range l {
			events, acks := s.Tick(in)
			x := sayOf(s, events, acks)
			spoilAnswers(s, events, acks)
			if !x.same(want[i]) || !sayOf(s, want[i].events, want[i].acks).same(want[i]) {
				t.Fatalf("seed %d, at %d: %v, not %v", seed, i, x, want[i])
			}
		}
	}
}

// No two lists of one answer share any: neither two acks, nor an ack and a frame that came.
func TestAcksShareNothing(t *testing.T) {
	b := admitted(t, plain(), bedOf(1), bedOf(2), bedOf(3))
	in := api.Input{Frames: [][]byte{hello(11, 0, 0).bytes, hello(12, 0, 0).bytes, hello(13, 0, 0).bytes}}
	_, acks := b.s.Tick(in)
	for i := range acks {
		before := [][]byte{bytes.Clone(acks[(i+1)%3]), bytes.Clone(acks[(i+2)%3]), bytes.Clone(in.Frames[0])}
		spoil(acks[i])
		if !sameBytes(before, [][]byte{acks[(i+1)%3], acks[(i+2)%3], in.Frames[0]}) {
			t.Errorf("%d", i)
		}
	}
}

// What was answered stays as it was, whatever is done behind it.
func TestAnswersStay(t *testing.T) {
	for seed := range 20 {
		c, l := script(seed)
		s := New(c)
		var kept, were []say
		for _, in := range l {
			events, acks := s.Tick(in)
			x := sayOf(s, nil, nil)
			x.events, x.acks = events, acks
			kept, were = append(kept, x), append(were, sayOf(s, events, acks))
		}
		for i := range kept {
			if !kept[i].same(were[i]) {
				t.Fatalf("seed %d, at %d", seed, i)
			}
		}
	}
}

// Rule 6

// The same acts answer the same, whatever else is told in between.
func TestTheSameActsAnswerTheSame(t *testing.T) {
	for seed := range 30 {
		c, l := script(seed)
		want := alone(c, l)
		for range 3 {
			s := New(c)
			for i, in := range l {
				events, acks := s.Tick(in)
				for range 2 {
					if x := sayOf(s, events, acks); !x.same(want[i]) {
						t.Fatalf("seed %d, at %d: %v, not %v", seed, i, x, want[i])
					}
				}
			}
		}
	}
}

// Two stations don't matter to one another, one behind the other, or at once.
func TestStationsSideBySide(t *testing.T) {
	for seed := range 20 {
		c, l := script(seed)
		d, m := script(1000 + seed)
		want, other := alone(c, l), alone(d, m)
		s, o := New(c), New(d)
		for i := range l {
			events, acks := s.Tick(l[i])
			e, a := o.Tick(m[i])
			if !sayOf(s, events, acks).same(want[i]) || !sayOf(o, e, a).same(other[i]) {
				t.Fatalf("seed %d, at %d", seed, i)
			}
		}
	}
}

func TestStationsAtOnce(t *testing.T) {
	c, l := script(7)
	want := alone(c, l)
	var group sync.WaitGroup
	for range 8 {
		group.Add(1)
		go func() {
			defer group.Done()
			for i, x := range alone(c, l) {
				if !x.same(want[i]) {
					t.Errorf("at %d", i)
					return
				}
			}
		}()
	}
	group.Wait()
}
