package station

import (
	"math"
	"math/rand"
	"slices"
	"testing"

	"gurney/api"
)

// What comes is drawn: transmitters that greet, begin anew, send shards in any order, lose some, and give groups up; frames that are turned; commands of all kinds, right and wrong; and Budgets that go up and down.

// voice is a transmitter: the groups from one on, which it sends as they were made first.
type voice struct {
	tx, session, group int
	texts              map[int][]byte
}

// air draws what comes to a station.
type air struct {
	r      *rand.Rand
	c      api.Conf
	voices []*voice
	budget int
	watch  int // the greatest Watch of beds
}

func newAir(r *rand.Rand, c api.Conf) *air {
	a := &air{r: r, c: c, watch: 1 + r.Intn(12)}
	for tx := range 1 + r.Intn(9) {
		a.voices = append(a.voices, &voice{tx: tx, session: r.Intn(256), group: r.Intn(256), texts: map[int][]byte{}})
	}
	return a
}

func drawConf(r *rand.Rand) api.Conf {
	k := 1 + r.Intn(3)
	return api.Conf{
		Roam:     api.Roam{Room: 1 + r.Intn(8), Age: 1 + r.Intn(30), Margin: r.Intn(12)},
		Link:     api.Link{Code: api.Code{K: k, N: k + r.Intn(3), Size: 4 + r.Intn(21)}, Wait: 2, Most: 2},
		Capacity: r.Intn(12), Calm: 1 + r.Intn(5), Ahead: 1 + r.Intn(3),
	}
}

// seldom is true once in so many.
func (a *air) seldom(many int) bool { return a.r.Intn(many) == 0 }

func (a *air) text() []byte {
	text := make([]byte, a.c.Link.Code.K*a.c.Link.Code.Size)
	if a.seldom(25) {
		a.r.Read(text)
		return text
	}
	var l []api.Sample
	for range a.r.Intn((len(text)-1)/3 + 1) {
		x := api.Sample{Kind: 1 + a.r.Intn(4), At: a.r.Intn(256), Value: a.r.Intn(20)}
		if a.seldom(2) {
			x.Kind = 5
		}
		l = append(l, x)
	}
	return textOf(a.c.Link.Code, l...)
}

// of is a group's text: the same each time, until the transmitter begins anew.
func (v *voice) of(a *air, group int) []byte {
	if v.texts[group] == nil {
		v.texts[group] = a.text()
	}
	return v.texts[group]
}

func (v *voice) beginAnew(a *air) {
	v.session, v.group, v.texts = (v.session+1)%256, a.r.Intn(256), map[int][]byte{}
}

// heard is a frame heard by one of a few antennas.
func (a *air) heard(f api.Frame) wire {
	f.Rssi = 30 + a.r.Intn(30)
	if a.seldom(4) {
		f.Ant = a.r.Intn(8)
	}
	return good(f)
}

// shards are some of a group's, in any order, some twice.
func (v *voice) shards(a *air, group int) []wire {
	var l []wire
	for place, b := range shardsOf(a.c.Link.Code, v.of(a, group)) {
		for a.seldom(2) {
			l = append(l, a.heard(api.Frame{Tx: v.tx, Seq: 16*group + place, Data: b}))
		}
	}
	a.r.Shuffle(len(l), func(i, j int) { l[i], l[j] = l[j], l[i] })
	return l
}

func (v *voice) frames(a *air) []wire {
	near := (v.group + a.r.Intn(6) + 255) % 256
	bare := api.Frame{Tx: v.tx, Seq: 16 * v.group}
	switch n := a.r.Intn(20); {
	case n < 3:
		bare.Kind, bare.Data = 3, []byte{byte(v.session)}
		return []wire{a.heard(bare)}
	case n == 3:
		v.beginAnew(a)
		return []wire{a.heard(api.Frame{Tx: v.tx, Seq: 16 * v.group, Kind: 3, Data: []byte{byte(v.session)}})}
	case n == 4:
		bare.Kind, bare.Seq = 2, 16*near
		return []wire{a.heard(bare)}
	case n == 5:
		bare.Kind, bare.Data = a.r.Intn(4), make([]byte, a.r.Intn(4))
		bare.Seq = a.r.Intn(4096)
		return []wire{a.heard(bare)}
	case n == 6:
		return []wire{badFrames()[a.r.Intn(len(badFrames()))]}
	case n < 10:
		return v.shards(a, near)
	}
	return append(v.shards(a, v.group), v.shards(a, (v.group+1)%256)...)
}

func (a *air) bed() api.Bed {
	periods := []int{1, 2, 3, 4, 5, 6, 10, 12}
	x := api.Bed{Id: a.r.Intn(10), Tx: a.r.Intn(9), Period: periods[a.r.Intn(len(periods))], Cost: 1 + a.r.Intn(9), Watch: 1 + a.r.Intn(a.watch), Prio: a.r.Intn(4)}
	if a.seldom(20) {
		x.Period = 7
	}
	return x
}

func (a *air) cmd() api.Cmd {
	c := api.Cmd{A: a.r.Intn(10), B: a.r.Intn(5), Bed: a.bed(), Limit: api.Limit{Bed: a.r.Intn(10), Kind: 1 + a.r.Intn(4), From: a.r.Intn(10), To: 8 + a.r.Intn(12), Count: 1 + a.r.Intn(3)}}
	c.Kind = []int{1, 1, 1, 1, 2, 3, 3, 3, 4, 4, 5}[a.r.Intn(11)]
	switch {
	case a.seldom(30):
		c.Kind = numbers[a.r.Intn(len(numbers))]
	case a.seldom(30), c.Kind == 5 && a.seldom(3):
		c.A = numbers[a.r.Intn(len(numbers))]
	case a.seldom(30):
		c.Limit.From = numbers[a.r.Intn(len(numbers))]
	}
	return c
}

// next is the next tick's.
func (a *air) next() (frames []wire, cmds []api.Cmd, budget int) {
	for _, v := range a.voices {
		for range a.r.Intn(3) {
			frames = append(frames, v.frames(a)...)
		}
	}
	for range max(0, a.r.Intn(6)-3) {
		cmds = append(cmds, a.cmd())
	}
	switch {
	case a.seldom(8):
		a.budget = a.r.Intn(2*a.c.Capacity + 2)
	case a.seldom(20):
		a.budget = numbers[a.r.Intn(len(numbers))]
	case a.seldom(10):
		a.budget = a.c.Capacity + a.r.Intn(40)
	}
	return frames, cmds, a.budget
}

// hear takes the acks of a tick: the groups go on from their bases.
func (a *air) hear(acks [][]byte) {
	for _, b := range acks {
		for _, v := range a.voices {
			if int(b[0]) == v.tx && int(b[7]) != v.group {
				delete(v.texts, v.group)
				v.group = int(b[7])
			}
		}
	}
}

// P17.1 and P17.2: each tick is as told, and all that is told behind it.
func TestDrawnTicks(t *testing.T) {
	t.Parallel()
	kinds, errors := map[int]int{}, map[[2]int]int{}
	levels := map[int]int{}
	for seed := range 150 {
		r := rand.New(rand.NewSource(int64(seed)))
		c := drawConf(r)
		a, b := newAir(r, c), begin(t, c)
		for range 150 {
			for _, e := range b.do(a.next()) {
				kinds[e.Kind]++
				if e.Kind == 3 && e.A > 0 && e.A < 6 {
					errors[[2]int{e.A, e.B}]++
				}
			}
			a.hear(b.acks)
			for _, p := range b.m.beds {
				levels[p.level]++
			}
		}
	}
	for kind := 1; kind <= 12; kind++ {
		if kinds[kind] < 100 {
			t.Errorf("the event %d was told %d times", kind, kinds[kind])
		}
	}
	for _, x := range [][2]int{{1, 0}, {1, 1}, {1, 9}, {1, 10}, {2, 0}, {2, 8}, {3, 0}, {3, 1}, {3, 8}, {4, 0}, {4, 8}, {5, 0}, {5, 1}} {
		if errors[x] < 20 {
			t.Errorf("the error %d of the command %d was told %d times", x[1], x[0], errors[x])
		}
	}
	for level := range 4 {
		if levels[level] < 300 {
			t.Errorf("the level %d: %d times", level, levels[level])
		}
	}
}

// drawnRun is a station to which something drawn comes; each is told of each tick.
func drawnRun(seed, ticks int, each func(s *Station, c api.Conf, in api.Input, events []api.Event)) {
	r := rand.New(rand.NewSource(int64(seed)))
	c := drawConf(r)
	a, s := newAir(r, c), New(c)
	for range ticks {
		in := inputOf(a.next())
		events, acks := s.Tick(in)
		a.hear(acks)
		each(s, c, in, events)
	}
}

// P17.3

// Of each bed at each tick: it was looked at, or came, within its Watch, or it is lost; and it is lost only then.
func TestNoSilence(t *testing.T) {
	t.Parallel()
	silent, found := 0, 0
	for seed := range 100 {
		last := map[int]int{} // by its bed: when it came, or was looked at
		drawnRun(seed, 150, func(s *Station, _ api.Conf, in api.Input, events []api.Event) {
			now, done := s.Now()-1, 0
			for _, e := range events {
				switch {
				case e.Kind == 3:
					if c := in.Cmds[done]; e.A == 1 && e.B == 0 {
						last[c.Bed.Id] = now
					} else if e.A == 2 && e.B == 0 {
						delete(last, c.A)
					}
					done++
				case e.Kind == 9:
					last[e.A] = now
				case e.Kind == 2 && e.B == 0:
					found++
				}
			}
			for _, x := range s.Beds() {
				at, there := last[x.Id]
				if within := now-at <= x.Watch; !there || within == s.Lost(x.Id) {
					t.Fatalf("seed %d, at %d: %v was heard last at %d, lost: %v", seed, now, x, at, s.Lost(x.Id))
				}
				if s.Lost(x.Id) {
					silent++
				}
			}
		})
	}
	if silent < 1000 || found < 100 {
		t.Error(silent, found)
	}
}

// Each that is lost was told, once, until it was cleared; and its alarm is on just as long.
func TestWhatIsLostIsTold(t *testing.T) {
	t.Parallel()
	for seed := range 100 {
		lost := map[int]bool{}
		drawnRun(seed, 150, func(s *Station, _ api.Conf, in api.Input, events []api.Event) {
			done := 0
			for _, e := range events {
				switch {
				case e.Kind == 3:
					if e.A == 2 && e.B == 0 {
						delete(lost, in.Cmds[done].A)
					}
					done++
				case e.Kind <= 2 && e.B == 0:
					if lost[e.A] == (e.Kind == 1) {
						t.Fatalf("seed %d, at %d: %v", seed, s.Now(), events)
					}
					lost[e.A] = e.Kind == 1
				}
			}
			for _, x := range s.Beds() {
				on := slices.ContainsFunc(s.Alarms(), func(a api.Alarm) bool { return a.Bed == x.Id && a.Kind == 0 && a.On })
				if lost[x.Id] != s.Lost(x.Id) || on != s.Lost(x.Id) {
					t.Fatalf("seed %d, at %d: %v", seed, s.Now(), x)
				}
			}
		})
	}
}

// P17.5

// A bed's level isn't Full only if one of the last Calm ticks was overloaded.
func TestFidelity(t *testing.T) {
	t.Parallel()
	coarse := 0
	for seed := range 100 {
		var over []bool
		drawnRun(seed, 150, func(s *Station, c api.Conf, in api.Input, events []api.Event) {
			n, w := s.Left() // nothing turns these behind the work
			over = append(over, n+w > min(max(in.Budget, 0), 100000)*c.Ahead)
			since := slices.Contains(over[max(0, len(over)-c.Calm):], true)
			for _, x := range s.Beds() {
				if s.Level(x.Id) != 0 {
					coarse++
					if !since {
						t.Fatalf("seed %d, at %d: the bed %d is at %d", seed, s.Now(), x.Id, s.Level(x.Id))
					}
				}
			}
			for _, e := range events {
				if e.Kind == 11 && !over[len(over)-1] {
					t.Fatalf("seed %d, at %d: %v", seed, s.Now(), events)
				}
			}
		})
	}
	if coarse < 1000 {
		t.Error(coarse)
	}
}

// Behind as many calm ticks as the config says, all are Full again, and not a tick ahead.
func TestFullBehindCalmTicks(t *testing.T) {
	for calm := 1; calm <= 40; calm++ {
		c := plain()
		c.Calm = calm
		b := admitted(t, c, bedOf(1), bedOf(2))
		for range 4 {
			b.tick(0, b.text(11, point(1)))
		}
		b.wantLevels(map[int]int{1: 1, 2: 3})
		for range calm - 1 {
			b.tick(9)
			b.wantLevels(map[int]int{1: 1, 2: 3})
		}
		b.tick(9)
		b.wantLevels(map[int]int{1: 0, 2: 0})
	}
}

// W6

// relay sends to two stations, to one of them something beside it.
type relay struct {
	r    *rand.Rand
	a, b *Station
}

// mine are events without those of a transmitter, its bed, and commands.
func mine(events []api.Event, bed, tx int) []api.Event {
	return slices.DeleteFunc(slices.Clone(events), func(e api.Event) bool {
		switch e.Kind {
		case 4, 6, 7:
			return e.A == tx
		case 3, 5:
			return true
		}
		return e.A == bed
	})
}

// beside is what comes of a bed beside others, drawn: it comes, has limits, samples, alarms, and goes.
func (x relay) beside(b *both) ([]api.Cmd, []wire) {
	var cmds []api.Cmd
	if x.r.Intn(9) == 0 {
		cmds = append(cmds, admit(with(5, 2, 2, 1+x.r.Intn(9))), setLimit(5, 1, 5, 6, 1), setLimit(1, 0, 5, 6, 1))
	}
	if x.r.Intn(20) == 0 {
		cmds = append(cmds, discharge(5))
	}
	if x.r.Intn(5) == 0 {
		cmds = append(cmds, ack(5, x.r.Intn(2)))
	}
	return cmds, append([]wire{hello(15, b.next[15], b.next[15]/40)}, b.text(15, pulse(x.r.Intn(10)), point(1))...)
}

// One bed's things are told the same, whether another one is beside it or not, or was; so with a transmitter without a bed.
func TestAlone(t *testing.T) {
	t.Parallel()
	for seed := range 100 {
		c := plain()
		c.Capacity = 100
		x := relay{rand.New(rand.NewSource(int64(seed))), New(c), New(c)}
		b := &both{next: map[int]int{}, m: &model{c: c}}
		for now := range 200 {
			cmds, frames := []api.Cmd{}, []wire{hello(11, b.next[11], now/50)}
			if now == 3 || x.r.Intn(60) == 0 {
				cmds = append(cmds, admit(with(1, 3, 2, 4)), setLimit(1, 1, 2, 7, 2))
			}
			if x.r.Intn(60) == 0 {
				cmds = append(cmds, discharge(1))
			}
			if x.r.Intn(3) > 0 {
				frames = append(frames, b.text(11, pulse(x.r.Intn(10)), point(3))...)
			}
			more, others := x.beside(b)
			want, wantAcks := x.a.Tick(inputOf(frames, cmds, 100000))
			got, acks := x.b.Tick(inputOf(slices.Concat(others, frames), slices.Concat(more, cmds), 100000))
			acks = slices.DeleteFunc(acks, func(b []byte) bool { return b[0] == 15 })
			if !slices.Equal(mine(want, 5, 15), mine(got, 5, 15)) || !sameBytes(acks, wantAcks) || x.a.Lost(1) != x.b.Lost(1) {
				t.Fatalf("seed %d, at %d: %s, not %s", seed, now, told(got), told(want))
			}
		}
	}
}

// P17.1, of the config's edges

func TestDrawnConfigs(t *testing.T) {
	r := rand.New(rand.NewSource(1))
	may := 0
	for range 100000 {
		c := middle()
		want := true
		for _, x := range bounds() {
			if r.Intn(8) == 0 {
				*x.at(&c) = append(numbers, x.from, x.to)[r.Intn(len(numbers)+2)]
			}
		}
		for _, x := range bounds() {
			n := *x.at(&c)
			switch x.name {
			case "K":
				want = want && n >= 1 && n <= 6 && n <= c.Link.Code.N
			case "N":
				want = want && n >= 1 && n <= 10
			default:
				want = want && n >= x.from && n <= x.to
			}
		}
		if May(c) != want || (New(c) != nil) != want {
			t.Fatalf("May(%v) = %v", c, May(c))
		}
		if want {
			may++
		}
	}
	if may < 1000 {
		t.Error(may)
	}
}

// Budgets of any size are the same as the nearest one from 0 to 100,000.
func TestBudgetsBeyondTheEdges(t *testing.T) {
	t.Parallel()
	for _, x := range []struct{ budget, same int }{{-1, 0}, {-9, 0}, {math.MinInt, 0}, {math.MinInt32, 0}, {100001, 100000}, {math.MaxInt, 100000}, {math.MaxInt / 2, 100000}, {1 << 32, 100000}} {
		for seed := range 20 {
			r := rand.New(rand.NewSource(int64(seed)))
			c := drawConf(r)
			a, s, o := newAir(r, c), New(c), New(c)
			for now := range 60 {
				frames, cmds, budget := a.next()
				other := budget
				if now%3 == 0 {
					budget, other = x.budget, x.same
				}
				e, acks := s.Tick(inputOf(frames, cmds, budget))
				f, _ := o.Tick(inputOf(frames, cmds, other))
				if !slices.Equal(e, f) {
					t.Fatalf("%d: %s, not %s", x.budget, told(e), told(f))
				}
				a.hear(acks)
			}
		}
	}
}
