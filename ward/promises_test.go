package ward

import (
	"math/rand"
	"slices"
	"testing"

	"gurney/api"
)

// What follows is held against what the ward tells alone, without the model.

// good is a ward whose devices all have a bed, the load of which its Capacity takes, and who are heard often enough.
type good struct {
	t      *testing.T
	r      *rand.Rand
	w      *Ward
	c      api.Conf
	beds   []api.Bed // by their devices
	serial []int     // of each device's samples
	taken  [][]int   // the values of numeric samples that it took
	told   [][]int   // those that came
	events []api.Event
}

// newGood is one whose first turn is still to come; it admits the beds.
func newGood(t *testing.T, r *rand.Rand) *good {
	g := &good{t: t, r: r, c: drawConf(r)}
	g.c.Roam.Room = 8
	g.c.Roam.Age = 1000
	devices := 1 + r.Intn(4)
	load := 0
	for tx := range devices {
		periods := []int{1, 2, 3, 4, 5, 6, 10}
		x := api.Bed{Id: 10 + (tx*3+r.Intn(3))%7 + 7*tx, Tx: tx, Period: periods[r.Intn(len(periods))], Cost: 1 + r.Intn(6), Watch: 1000, Prio: r.Intn(4)}
		g.beds = append(g.beds, x)
		load += 60 / x.Period * x.Cost
	}
	// Often the utilization is all of the Capacity, or nearly so.
	g.c.Capacity = (load+59)/60 + r.Intn(2)
	g.w = New(g.c, devices)
	g.serial, g.taken, g.told = make([]int, devices), make([][]int, devices), make([][]int, devices)
	return g
}

func (g *good) admits() []api.Cmd {
	var l []api.Cmd
	for _, i := range g.r.Perm(len(g.beds)) {
		l = append(l, admit(g.beds[i]))
	}
	return l
}

// give are samples of a device for a turn: so many numeric ones, and some of waves between them.
func (g *good) give(tx, numeric, waves int) []api.Sample {
	var l []api.Sample
	room := 60 - g.w.Device(tx).Kept()
	for range numeric {
		g.serial[tx]++
		v := g.serial[tx] % 1000
		l = append(l, api.Sample{Kind: 1 + g.r.Intn(4), At: g.r.Intn(256), Value: v})
		if len(l) <= room {
			g.taken[tx] = append(g.taken[tx], v)
		}
	}
	for range waves {
		l = append(l, api.Sample{Kind: 5, Value: g.r.Intn(256)})
	}
	return l
}

// do is a turn, whose events are noted.
func (g *good) do(turn api.Turn) {
	g.t.Helper()
	g.events = g.w.Do(turn)
	for _, e := range g.events {
		switch e.Kind {
		case api.Value:
			i := slices.IndexFunc(g.beds, func(b api.Bed) bool { return b.Id == e.A })
			g.told[i] = append(g.told[i], e.C)
		case api.Did:
			if e.B != 0 {
				g.t.Fatalf("a command isn't done: %v", e)
			}
		case api.Gone, api.Gap, api.Missed, api.Spilled:
			g.t.Fatalf("%v", e)
		}
	}
	for i, l := range g.told {
		if len(l) > len(g.taken[i]) || !slices.Equal(l, g.taken[i][:len(l)]) {
			g.t.Fatalf("device %d: %v came, of %v", i, l, g.taken[i])
		}
	}
}

// waiting is how many numeric samples of a device didn't come yet.
func (g *good) waiting(tx int) int { return len(g.taken[tx]) - len(g.told[tx]) }

// budget is at least the Capacity.
func (g *good) budget() int { return g.c.Capacity + max(0, g.r.Intn(8)-4) }

// rest are turns without samples, until all came.
func (g *good) rest(fates func() []byte) {
	g.t.Helper()
	for range 1500 {
		done := true
		for i := range g.beds {
			done = done && g.waiting(i) == 0
		}
		if done {
			return
		}
		g.do(api.Turn{Budget: g.budget(), Fates: fates()})
	}
	g.t.Fatal("some never come:", g.taken, g.told)
}

// bounded are so many numeric samples that those that wait have room.
func (g *good) bounded(tx int) int {
	return min(max(0, g.r.Intn(9)-5), 24-g.waiting(tx))
}

func noFates() []byte { return nil }

// P19.3: without fates each numeric sample that a device took comes as a Value once, in order; those of a device that begins anew too, unless it kept some.
func TestEachSampleComesOnce(t *testing.T) {
	t.Parallel()
	came := 0
	for seed := range 150 {
		g := newGood(t, rand.New(rand.NewSource(int64(seed))))
		first := g.r.Intn(5)
		for i := range 100 {
			turn := api.Turn{Budget: g.budget()}
			if i == first {
				turn.Cmds = g.admits()
			}
			if i >= first {
				for tx := range g.beds {
					turn.Samples = append(turn.Samples, g.give(tx, g.bounded(tx), g.r.Intn(4)))
				}
				if tx := g.r.Intn(30); i > first && tx < len(g.beds) && g.w.Device(tx).Kept() == 0 {
					turn.Reset = tx + 1
				}
			}
			g.do(turn)
		}
		g.rest(noFates)
		for _, l := range g.told {
			came += len(l)
		}
	}
	if came < 15000 {
		t.Error(came)
	}
}

// P19.3: no signal is lost of a bed whose device takes a sample at least each Period ticks, once its first one came. (A value may be looked at in the last tick of its Period, the one ahead of it in the first tick of the Period ahead: a Watch below the ticks between these would tell a loss in any case.)
func TestNoLossIsTold(t *testing.T) {
	t.Parallel()
	late := 0
	for seed := range 150 {
		g := newGood(t, rand.New(rand.NewSource(int64(seed))))
		for i := range g.beds {
			g.beds[i].Watch = 2*g.beds[i].Period - 1
		}
		fits := (g.c.Link.Code.K*g.c.Link.Code.Size - 1) / 3
		next, heard := make([]int, len(g.beds)), make([]int, len(g.beds))
		for now := range 150 {
			turn := api.Turn{Budget: g.budget()}
			if now == 0 {
				turn.Cmds = g.admits()
			}
			for tx, x := range g.beds {
				var l []api.Sample
				if now >= next[tx] {
					l = g.give(tx, 1, g.r.Intn(fits))
					next[tx] = now + x.Period
					if g.r.Intn(4) == 0 && g.waiting(tx) < 20 {
						next[tx] = now + 1 + g.r.Intn(x.Period)
					}
				}
				turn.Samples = append(turn.Samples, l)
			}
			g.do(turn)
			for _, e := range g.events {
				i := slices.IndexFunc(g.beds, func(b api.Bed) bool { return b.Id == e.A })
				switch {
				case e.Kind == api.Raised:
					t.Fatalf("seed %d, turn %d: %v of %v", seed, now, e, g.beds[i])
				case e.Kind == api.Value:
					if now-heard[i] == g.beds[i].Watch && g.beds[i].Period > 1 {
						late++
					}
					heard[i] = now
				}
			}
			for i, x := range g.beds {
				if g.w.Station().Lost(x.Id) {
					t.Fatalf("seed %d, turn %d: the bed %d is lost", seed, now, i)
				}
			}
		}
	}
	if late < 100 {
		t.Error("values that came as late as may be:", late)
	}
}

// someLost are fates by which of each row of N bytes K arrive, the first of all among them: once, twice, or late. Now and then there are none, so that acks aren't lost for ever.
func (g *good) someLost() []byte {
	if g.r.Intn(5) == 0 {
		return nil
	}
	k, n := g.c.Link.Code.K, g.c.Link.Code.N
	var l []byte
	for i := range n {
		fate := []byte{0, 1, 2, 3, 5, 6}[g.r.Intn(6)]
		if i >= k {
			fate = []byte{4, 7}[g.r.Intn(2)]
		}
		l = append(l, fate|byte(g.r.Intn(32))<<3)
	}
	for {
		g.r.Shuffle(n, func(i, j int) { l[i], l[j] = l[j], l[i] })
		if l[0]&7 != 4 && l[0]&7 != 7 {
			return l
		}
	}
}

// W4: where K of each group's frames arrive, each numeric sample is looked at once, in order. (The first greeting arrives at once: without it the station doesn't take what arrives.)
func TestKOfEachGroupWillDo(t *testing.T) {
	t.Parallel()
	came, bad := 0, 0
	for seed := 0; came < 4000; seed++ {
		g := newGood(t, rand.New(rand.NewSource(int64(seed))))
		if len(g.beds) > 1 {
			continue // of several devices the one that greets ahead of a group would have to be looked for
		}
		for i := range 100 {
			turn := api.Turn{Budget: g.budget(), Fates: g.someLost()}
			if i == 0 {
				turn.Cmds, turn.Fates = g.admits(), nil
			}
			turn.Samples = [][]api.Sample{g.give(0, g.bounded(0), g.r.Intn(3))}
			g.do(turn)
			for _, e := range g.events {
				if e.Kind == api.Bad {
					bad++
				}
			}
		}
		g.rest(g.someLost)
		came += len(g.told[0])
	}
	if bad < 1000 {
		t.Error(bad)
	}
}

// W4: whatever befalls frames, no sample is looked at twice, or out of order, as long as the bed stays, its device doesn't begin anew, and is followed.
func TestNothingComesTwice(t *testing.T) {
	t.Parallel()
	came, lost := 0, 0
	for seed := range 200 {
		r := rand.New(rand.NewSource(int64(seed)))
		s := newScript(r)
		g := newGood(t, r)
		for i := range 200 {
			turn := api.Turn{Budget: r.Intn(g.c.Capacity * 3), Fates: s.fates()}
			if i == 0 {
				turn.Cmds = g.admits()
			}
			for tx := range g.beds {
				turn.Samples = append(turn.Samples, g.give(tx, r.Intn(3), r.Intn(3)))
			}
			for _, e := range g.w.Do(turn) {
				switch e.Kind {
				case api.Value:
					i := slices.IndexFunc(g.beds, func(b api.Bed) bool { return b.Id == e.A })
					if l := g.told[i]; len(l) > 0 && e.C <= l[len(l)-1] || !slices.Contains(g.taken[i], e.C) {
						t.Fatalf("seed %d: %v behind %v", seed, e, l)
					}
					g.told[i] = append(g.told[i], e.C)
					came++
				case api.Gap:
					lost++
				}
			}
		}
	}
	if came < 3000 || lost < 300 {
		t.Error(came, lost)
	}
}

// withoutStrange are events but those that are told of each frame.
func withoutStrange(l []api.Event) []api.Event {
	return slices.DeleteFunc(l, func(e api.Event) bool { return e.Kind == api.Strange || e.Kind == api.Bad })
}

// P19.3: what arrives twice is as what arrives once.
func TestTwiceIsAsOnce(t *testing.T) {
	t.Parallel()
	values := 0
	for seed := range 100 {
		s := newScript(rand.New(rand.NewSource(int64(seed))))
		one, two := New(s.c, s.devices), New(s.c, s.devices)
		for i := range 120 {
			turn := s.turn()
			a := withoutStrange(one.Do(turn))
			for i, f := range turn.Fates {
				if f&7 < 4 && s.r.Intn(2) == 0 {
					turn.Fates[i] = f&^7 | 5
				}
			}
			if len(turn.Fates) == 0 {
				turn.Fates = []byte{5}
			}
			b := withoutStrange(two.Do(turn))
			if !slices.Equal(a, b) || stateOf(one) != stateOf(two) {
				t.Fatalf("seed %d, turn %d: %s, not %s", seed, i, told(b), told(a))
			}
			for _, e := range a {
				if e.Kind == api.Value {
					values++
				}
			}
		}
	}
	if values < 1000 {
		t.Error(values)
	}
}

// P19.3: where all is lost, there is no value, and nothing is followed; each signal is told lost, once.
func TestWhereAllIsLost(t *testing.T) {
	t.Parallel()
	for seed := range 50 {
		g := newGood(t, rand.New(rand.NewSource(int64(seed))))
		for i := range g.beds {
			g.beds[i].Watch = 1 + g.r.Intn(30)
		}
		raised := map[int]int{}
		for now := range 60 {
			turn := api.Turn{Budget: g.r.Intn(100)}
			for range 1 + g.r.Intn(5) {
				turn.Fates = append(turn.Fates, byte(g.r.Intn(32))<<3|4)
			}
			if now == 0 {
				turn.Cmds = g.admits()
			}
			for tx := range g.beds {
				turn.Samples = append(turn.Samples, g.give(tx, g.r.Intn(3), 1))
			}
			for _, e := range g.w.Do(turn) {
				switch {
				case e.Kind == api.Raised && e.B == 0:
					raised[e.A] = raised[e.A]*1000 + now
				case e.Kind != api.Did:
					t.Fatalf("%v", e)
				}
			}
		}
		for _, x := range g.beds {
			if raised[x.Id] != x.Watch+1 {
				t.Errorf("a bed with the Watch %d is told lost at %d", x.Watch, raised[x.Id])
			}
		}
		if len(g.w.Station().Follows()) != 0 {
			t.Error("followed:", g.w.Station().Follows())
		}
		wantLate(t, g.w, 0, 0)
	}
}

// P19.3: the same turns give the same answers.
func TestTheSameTurns(t *testing.T) {
	t.Parallel()
	for seed := range 60 {
		var logs [3][]string
		for i := range logs {
			s := newScript(rand.New(rand.NewSource(int64(seed))))
			w := New(s.c, s.devices)
			for range 100 {
				logs[i] = append(logs[i], told(w.Do(s.turn())), stateOf(w))
			}
		}
		if !slices.Equal(logs[0], logs[1]) || !slices.Equal(logs[0], logs[2]) {
			t.Fatal(seed, "goes another way")
		}
	}
}
