package ward

import (
	"math/rand"
	"slices"
	"testing"

	"gurney/api"
)

// Promises of the whole, of drawn scripts, held against what the ward tells alone.

// witness is a ward, and what came of its beds.
type witness struct {
	t         *testing.T
	s         *script
	w         *Ward
	turn      api.Turn
	events    []api.Event
	heard     map[int]int // by beds: when a numeric sample was looked at last, or the bed came
	budgets   []int       // of each turn behind the other
	overloads []bool
	levels    map[int]int
	beds      []api.Bed // as they were ahead of the turn
}

func newWitness(t *testing.T, seed int) *witness {
	s := newScript(rand.New(rand.NewSource(int64(seed))))
	return &witness{t: t, s: s, w: New(s.c, s.devices), heard: map[int]int{}, levels: map[int]int{}}
}

// budgetOf is what a Budget comes to.
func budgetOf(n int) int { return min(max(n, 0), 100000) }

func (x *witness) do() {
	now := len(x.budgets)
	st := x.w.Station()
	x.beds = st.Beds()
	for _, b := range x.beds {
		x.levels[b.Id] = st.Level(b.Id)
	}
	x.turn = x.s.turn()
	x.events = x.w.Do(x.turn)
	x.budgets = append(x.budgets, budgetOf(x.turn.Budget))
	numeric, waves := st.Left()
	x.overloads = append(x.overloads, numeric+waves > budgetOf(x.turn.Budget)*x.s.c.Ahead)
	for i, c := range x.done() {
		if x.turn.Cmds[i].Kind == api.DoAdmit && c.B == 0 {
			x.heard[x.turn.Cmds[i].Bed.Id] = now
		}
	}
	for _, e := range x.events {
		if e.Kind == api.Value {
			x.heard[e.A] = now
		}
	}
}

// done are the events that tell what came of the turn's commands, in order.
func (x *witness) done() []api.Event {
	var l []api.Event
	for _, e := range x.events {
		if e.Kind == api.Did {
			l = append(l, e)
		}
	}
	return l
}

// W2: of each bed at each turn: a numeric sample was looked at within the ticks that it may be silent, or it came within these, or its signal is lost; and it isn't otherwise.
func TestNoSilence(t *testing.T) {
	t.Parallel()
	count := map[bool]int{}
	for seed := range 150 {
		x := newWitness(t, seed)
		for now := range 100 {
			x.do()
			for _, b := range x.w.Station().Beds() {
				lost := now-x.heard[b.Id] > b.Watch
				if x.w.Station().Lost(b.Id) != lost {
					t.Fatalf("seed %d, turn %d: %v, heard at %d: lost is %v", seed, now, b, x.heard[b.Id], !lost)
				}
				count[lost]++
			}
		}
	}
	if count[true] < 1000 || count[false] < 1000 {
		t.Error(count)
	}
}

// W3: the beds' loads are at most the Capacity's; and as long as the Budget is at least that, no numeric job is missed, but at the turn at which all are given up.
func TestDeadlines(t *testing.T) {
	t.Parallel()
	kept, full := 0, 0
	for seed := range 150 {
		x := newWitness(t, seed)
		enough := true // from a turn on at which none waited, or all were given up
		for now := range 100 {
			x.do()
			budget := x.budgets[now]
			last := 0
			if now > 0 {
				last = x.budgets[now-1]
			}
			missed := slices.ContainsFunc(x.events, func(e api.Event) bool { return e.Kind == api.Missed })
			switch {
			case budget < x.s.c.Capacity:
				enough = false
			case last < x.s.c.Capacity:
				enough = true
			case enough && missed:
				t.Fatalf("seed %d, turn %d: %s", seed, now, told(x.events))
			case enough:
				kept++
			}
			load := 0
			for _, b := range x.w.Station().Beds() {
				load += b.Cost * 60 / b.Period
			}
			if load > 60*x.s.c.Capacity {
				t.Fatalf("seed %d, turn %d: %d, of %d", seed, now, load, 60*x.s.c.Capacity)
			}
			if load > 0 && load > 50*x.s.c.Capacity {
				full++
			}
		}
	}
	if kept < 1000 || full < 300 {
		t.Error(kept, full)
	}
}

// W5: a bed is less than full only if one of the last Calm turns was overloaded; and it is shed while none of a lesser priority, and none of its own that came later, is looked at.
func TestWavesAreShed(t *testing.T) {
	t.Parallel()
	shed, less := 0, 0
	for seed := range 150 {
		x := newWitness(t, seed)
		for now := range 100 {
			x.do()
			st := x.w.Station()
			for _, b := range st.Beds() {
				last := x.overloads[max(0, now+1-x.s.c.Calm):]
				if st.Level(b.Id) != api.Full && !slices.Contains(last, true) {
					t.Fatalf("seed %d, turn %d: level %d of %v", seed, now, st.Level(b.Id), b)
				} else if st.Level(b.Id) != api.Full {
					less++
				}
			}
			for _, e := range x.events {
				if e.Kind != api.Shed {
					continue
				}
				shed++
				beds := st.Beds()
				at := slices.IndexFunc(beds, func(b api.Bed) bool { return b.Id == e.A })
				for i, b := range beds {
					if behind := b.Prio < beds[at].Prio || b.Prio == beds[at].Prio && i > at; behind && st.Level(b.Id) != api.Off {
						t.Fatalf("seed %d, turn %d: %v, though %v is behind %v", seed, now, e, b, beds[at])
					}
				}
				if e.B != st.Level(e.A) || !x.overloads[now] {
					t.Fatalf("seed %d, turn %d: %v", seed, now, e)
				}
			}
		}
	}
	if shed < 500 || less < 500 {
		t.Error(shed, less)
	}
}

// ofBed says whether an event tells of a bed.
func ofBed(e api.Event, id int) bool {
	return e.A == id && slices.Contains([]int{1, 2, 8, 9, 10, 11, 12}, e.Kind)
}

// W6: what is discharged leaves nothing.
func TestWhatIsDischargedLeavesNothing(t *testing.T) {
	t.Parallel()
	gone := 0
	for seed := range 150 {
		x := newWitness(t, seed)
		for now := range 100 {
			x.do()
			st := x.w.Station()
			for id := range 6 {
				isIt := func(b api.Bed) bool { return b.Id == id }
				if slices.ContainsFunc(st.Beds(), isIt) {
					continue
				}
				if waits, points, looked := st.Waits(id); waits+points+looked > 0 || st.Lost(id) || st.Level(id) != api.Off {
					t.Fatalf("seed %d, turn %d: of the bed %d: %d %d %d", seed, now, id, waits, points, looked)
				}
				if slices.ContainsFunc(st.Alarms(), func(a api.Alarm) bool { return a.Bed == id }) {
					t.Fatalf("seed %d, turn %d: alarms of the bed %d", seed, now, id)
				}
				was := slices.ContainsFunc(x.beds, isIt)
				came := slices.ContainsFunc(x.turn.Cmds, func(c api.Cmd) bool { return c.Kind == api.DoAdmit && c.Bed.Id == id })
				if was {
					gone++
				} else if !came && slices.ContainsFunc(x.events, func(e api.Event) bool { return ofBed(e, id) }) {
					t.Fatalf("seed %d, turn %d: %s of the bed %d", seed, now, told(x.events), id)
				}
			}
			if n, v := st.Left(); len(st.Beds()) == 0 && n+v > 0 {
				t.Fatalf("seed %d, turn %d: %d and %d units are left of none", seed, now, n, v)
			}
		}
	}
	if gone < 100 {
		t.Error(gone)
	}
}

// W6: what happens to a bed that is admitted a second time is what happens to one that is admitted the first time, of a device that begins anew.
func TestASecondBedIsAsTheFirst(t *testing.T) {
	t.Parallel()
	for seed := range 50 {
		r := rand.New(rand.NewSource(int64(seed)))
		c := drawConf(r)
		c.Capacity = 5
		old, fresh := New(c, 1), New(c, 1)
		x := bedOf(7, 0)
		x.Cost, x.Watch = 1+r.Intn(5), 1+r.Intn(9)
		limit := api.Cmd{Kind: 3, Limit: api.Limit{Bed: 7, Kind: 1, From: 5, To: 9, Count: 2}}
		s := &script{r: r, c: c, devices: 1, busy: 3}
		for i := range 30 {
			turn := api.Turn{Samples: s.samples(), Budget: r.Intn(6)}
			if i == 0 {
				turn.Cmds = []api.Cmd{admit(x), limit}
			}
			old.Do(turn)
			fresh.Do(api.Turn{Fates: []byte{4}})
		}
		// The queues' and the levels' past goes with the bed; the transmitter's home, and that it was followed, stays.
		old.Do(api.Turn{Cmds: []api.Cmd{discharge(7)}, Budget: 5})
		fresh.Do(api.Turn{Budget: 5})
		for range c.Roam.Age + 2 {
			old.Do(api.Turn{Budget: 5, Fates: []byte{4}})
			fresh.Do(api.Turn{Budget: 5, Fates: []byte{4}})
		}
		for i := range 40 {
			turn := api.Turn{Samples: s.samples(), Budget: r.Intn(7)}
			if i == 0 {
				turn.Cmds, turn.Reset = []api.Cmd{admit(x)}, 1
			}
			a, b := old.Do(turn), fresh.Do(turn)
			if !slices.Equal(a, b) || stateOf(old) != stateOf(fresh) {
				t.Fatalf("seed %d, turn %d: %s, not %s: %s, %s", seed, i, told(a), told(b), stateOf(old), stateOf(fresh))
			}
		}
	}
}

// W6: transmitters without beds turn nothing of beds.
func TestTransmittersWithoutBeds(t *testing.T) {
	t.Parallel()
	values := 0
	for seed := range 100 {
		s := newScript(rand.New(rand.NewSource(int64(seed))))
		s.devices, s.c.Roam.Room = 1, 8
		alone, among := New(s.c, 1), New(s.c, 4)
		for now := range 100 {
			turn := s.turn()
			turn.Fates = nil
			if now%20 > 10 {
				turn.Fates = []byte{4}
			}
			if turn.Reset > 1 {
				turn.Reset = 0
			}
			for i := range turn.Cmds {
				turn.Cmds[i].Bed.Tx = 0
			}
			a := alone.Do(turn)
			its := append(turn.Samples, nil)[0]
			turn.Samples = [][]api.Sample{its, nil, pulses(1, 2, 3), pulses(4)}
			b := slices.DeleteFunc(among.Do(turn), func(e api.Event) bool {
				return (e.Kind == api.Strange || e.Kind == api.Gone) && e.A > 0
			})
			if !slices.Equal(a, b) {
				t.Fatalf("seed %d, turn %d: %s, not %s", seed, now, told(b), told(a))
			}
			for _, e := range a {
				if e.Kind == api.Value {
					values++
				}
			}
		}
	}
	if values < 1000 {
		t.Error(values)
	}
}
