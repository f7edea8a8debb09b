package station

import (
	"math/rand"
	"slices"
	"testing"

	"gurney/api"
)

// P17.4: with enough units, no numeric job is missed. Beds have samples and points of waves at all times, come and go, and take all of the capacity.

// clinic is a station of beds that always have something to be done.
type clinic struct {
	t      *testing.T
	r      *rand.Rand
	c      api.Conf
	s      *Station
	ready  map[[2]int][][]byte // frames, by their transmitter and group: they are the same in each run
	groups map[int]int         // each transmitter's next group
	churn  int                 // beds come and go once in so many ticks
	safe   bool
	full   int // ticks at which all of the capacity was taken
	values int
}

func newClinic(t *testing.T, seed int, ready map[[2]int][][]byte) *clinic {
	r := rand.New(rand.NewSource(int64(seed)))
	c := plain()
	c.Capacity, c.Ahead = 1+r.Intn(6), 1+r.Intn(3)
	return &clinic{t: t, r: r, c: c, s: New(c), ready: ready, groups: map[int]int{}, churn: 1 + r.Intn(12)}
}

func loadsOf(l []api.Bed) int {
	sum := 0
	for _, x := range l {
		sum += loadOf(x)
	}
	return sum
}

// frames are a transmitter's next group, and a greeting of a new session.
func (k *clinic) frames(tx int) [][]byte {
	at := [2]int{tx, k.groups[tx]}
	k.groups[tx] = (at[1] + 1) % 256
	if k.ready[at] == nil {
		text := textOf(k.c.Link.Code, pulse(1), point(2), sampleOf(2, 3), point(4), point(5))
		k.ready[at] = [][]byte{hello(tx, at[1], at[1]).bytes, shard(tx, at[1], 0, text).bytes}
	}
	return k.ready[at]
}

// supply is frames of all beds of which few samples wait, and of those that are to come.
func (k *clinic) supply(cmds []api.Cmd) [][]byte {
	var l [][]byte
	for id := range 10 {
		isThere := slices.ContainsFunc(k.s.Beds(), func(x api.Bed) bool { return x.Id == id })
		comes := slices.ContainsFunc(cmds, func(c api.Cmd) bool { return c.Kind == 1 && c.Bed.Id == id })
		if w, _, _ := k.s.Waits(id); w < 6 && (isThere || comes) {
			l = append(l, k.frames(id+10)...)
		}
	}
	return l
}

// fill are commands by which beds go, and others come, up to the last unit.
func (k *clinic) fill() []api.Cmd {
	var l []api.Cmd
	if k.r.Intn(k.churn) > 0 {
		return nil
	}
	for range 1 + k.r.Intn(3) {
		l = append(l, discharge(k.r.Intn(10)))
	}
	periods := []int{1, 2, 3, 4, 5, 6, 10, 12, 15, 20, 30, 60}
	for range k.r.Intn(6) {
		period := periods[k.r.Intn(len(periods))]
		l = append(l, admit(with(k.r.Intn(10), period, 1+k.r.Intn(period*k.c.Capacity), 1000)))
	}
	id, period := k.r.Intn(10), []int{60, 60, 30, 20}[k.r.Intn(4)]
	for cost := 100; cost > 0; cost-- {
		l = append(l, admit(with(id, period, cost, 1000)))
	}
	return slices.DeleteFunc(l, func(c api.Cmd) bool { return c.Kind == 1 && c.Bed.Cost > 100 })
}

// tick is a tick of a Budget: none is missed, but at one that gives up, where all are that waited, or at one without enough units.
func (k *clinic) tick(last, budget int) {
	cmds := k.fill()
	in := api.Input{Frames: k.supply(cmds), Cmds: cmds, Budget: budget}
	events, _ := k.s.Tick(in)
	enough := budget >= k.c.Capacity
	givesUp := enough && last < k.c.Capacity
	k.safe = enough && (k.safe || givesUp)
	for _, e := range events {
		switch {
		case e.Kind == 10 && k.safe && !givesUp:
			k.t.Fatalf("at %d, %v: %s; beds %v", k.s.Now(), k.c, told(events), k.s.Beds())
		case e.Kind == 9:
			k.values++
		}
	}
	if loadsOf(k.s.Beds()) == 60*k.c.Capacity {
		k.full++
	}
	if loadsOf(k.s.Beds()) > 60*k.c.Capacity {
		k.t.Fatalf("at %d: %v", k.s.Now(), k.s.Beds())
	}
}

// From the beginning on.
func TestDeadlines(t *testing.T) {
	t.Parallel()
	full, values, ready := 0, 0, map[[2]int][][]byte{}
	for seed := range 250 {
		k := newClinic(t, seed, ready)
		k.safe = true
		more := []int{0, 0, 1, 20}[seed%4]
		for range 250 {
			k.tick(k.c.Capacity, k.c.Capacity+k.r.Intn(more+1))
		}
		full, values = full+k.full, values+k.values
	}
	if full < 3000 || values < 10000 {
		t.Error(full, values)
	}
}

// From a tick on that gives all up, whatever was ahead of it.
func TestDeadlinesBehindTooLittle(t *testing.T) {
	t.Parallel()
	full, values, ready := 0, 0, map[[2]int][][]byte{}
	for seed := range 250 {
		k := newClinic(t, 1000+seed, ready)
		last, budget, ticks := 0, 0, 0
		for range 300 {
			if ticks--; ticks < 0 {
				ticks = k.r.Intn(60)
				budget = k.r.Intn(k.c.Capacity)
				if k.r.Intn(3) > 0 {
					budget = k.c.Capacity + k.r.Intn(2)
				}
			}
			k.tick(last, budget)
			last = budget
		}
		full, values = full+k.full, values+k.values
	}
	if full < 3000 || values < 10000 {
		t.Error(full, values)
	}
}

// With a unit less than the capacity some are missed, where all of it is taken.
func TestDeadlinesNeedTheCapacity(t *testing.T) {
	b := admitted(t, plain(), with(1, 2, 4, 1000), with(2, 4, 8, 1000))
	missed := 0
	for range 40 {
		for _, e := range b.tick(3, b.text(11, pulse(1)), b.text(12, pulse(1))) {
			if e.Kind == 10 {
				missed++
			}
		}
	}
	if missed < 5 {
		t.Error(missed)
	}
	for range 2 {
		b.tick(4)
	}
	for range 40 {
		for _, e := range b.tick(4, b.text(11, pulse(1)), b.text(12, pulse(1))) {
			if e.Kind == 10 {
				t.Errorf("at %d: %v", b.s.Now(), e)
			}
		}
	}
}

// A bed that comes, is done, and goes at each tick would delay another one for ever, if its load were not reserved.
func TestBedsThatComeAndGoDelayNoOthers(t *testing.T) {
	c := plain()
	c.Capacity = 1
	quick := with(1, 2, 1, 1000)
	b := admitted(t, c, with(9, 4, 2, 1000))
	b.want("3 1 0 0, 9 1 1 1", 1, admit(quick), b.greet(11), b.text(11, pulse(1)), b.text(19, pulse(7)))
	text := textOf(c.Link.Code, pulse(2))
	for now, want := range []string{"3 2 0 0, 3 1 10 0, 6 11 0 0, 6 11 0 0", "3 2 8 0, 3 1 0 0, 9 1 1 2", "3 2 0 0, 3 1 10 0, 6 11 0 0, 6 11 0 0, 9 9 1 7", "3 2 8 0, 3 1 0 0, 9 1 1 2"} {
		b.want(want, 1, discharge(1), admit(quick), hello(11, 0, now), shard(11, 0, 0, text))
	}
}

// A job that waited from a time of too few units could delay others for ever: it is given up at the first tick with enough.
func TestGivingUpDelaysNoOthers(t *testing.T) {
	c := plain()
	c.Capacity = 1
	b := admitted(t, c, with(1, 2, 1, 1000), with(2, 60, 30, 1000)) // all of the capacity
	b.want("11 2 1 0", 0, b.text(12, pulse(1), pulse(2)))
	for range 30 {
		b.tick(0)
	}
	b.want("10 2 1 0", 1)
	for range 120 {
		for _, e := range b.tick(1, b.text(11, pulse(5))) {
			if e.Kind == 10 {
				t.Fatalf("at %d: %v", b.s.Now(), e)
			}
		}
	}
}
