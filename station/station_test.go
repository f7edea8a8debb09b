package station

import (
	"slices"
	"testing"

	"gurney/api"
)

// bound is a number of a config, and from where to where it may be.
type bound struct {
	name     string
	at       func(c *api.Conf) *int
	from, to int
}

func bounds() []bound {
	return []bound{
		{"Room", func(c *api.Conf) *int { return &c.Roam.Room }, 1, 8},
		{"Age", func(c *api.Conf) *int { return &c.Roam.Age }, 1, 1000},
		{"Margin", func(c *api.Conf) *int { return &c.Roam.Margin }, 0, 127},
		{"K", func(c *api.Conf) *int { return &c.Link.Code.K }, 1, 6},  // of N 7
		{"N", func(c *api.Conf) *int { return &c.Link.Code.N }, 2, 10}, // of K 2
		{"Size", func(c *api.Conf) *int { return &c.Link.Code.Size }, 1, 24},
		{"Wait", func(c *api.Conf) *int { return &c.Link.Wait }, 1, 100},
		{"Most", func(c *api.Conf) *int { return &c.Link.Most }, 1, 9},
		{"Capacity", func(c *api.Conf) *int { return &c.Capacity }, 0, 10000},
		{"Calm", func(c *api.Conf) *int { return &c.Calm }, 1, 1000},
		{"Ahead", func(c *api.Conf) *int { return &c.Ahead }, 1, 100},
	}
}

func middle() api.Conf {
	c := plain()
	c.Link.Code = api.Code{K: 2, N: 7, Size: 8}
	return c
}

func wantMay(t *testing.T, c api.Conf, want bool) {
	t.Helper()
	if may := May(c); may != want {
		t.Errorf("May(%v) = %v", c, may)
	}
	if s := New(c); (s != nil) != want {
		t.Errorf("New(%v): there: %v", c, s != nil)
	}
}

// P17.1

func TestMayOfEachBound(t *testing.T) {
	for _, x := range bounds() {
		for _, n := range append(numbers, x.from-1, x.from, x.from+1, x.to-1, x.to, x.to+1) {
			c := middle()
			*x.at(&c) = n
			if want := n >= x.from && n <= x.to; May(c) != want || (New(c) != nil) != want {
				t.Errorf("%s %d: May: %v", x.name, n, May(c))
			}
		}
	}
}

func TestMayOfAllAtTheirEdges(t *testing.T) {
	least, most := middle(), middle()
	for _, x := range bounds() {
		*x.at(&least), *x.at(&most) = x.from, x.to
	}
	least.Link.Code = api.Code{K: 1, N: 1, Size: 1}
	wantMay(t, least, true)
	wantMay(t, most, true)
	for _, x := range bounds() {
		for _, c := range []api.Conf{least, most} {
			for _, n := range []int{x.from - 1, x.to + 1} {
				d := c
				*x.at(&d) = n
				if May(d) && x.name != "N" { // of K 1 one shard is enough
					t.Errorf("%s %d: May(%v)", x.name, n, d)
				}
			}
		}
	}
	wantMay(t, api.Conf{}, false)
}

// wantBare asks for a station at the time 0 without anything, at a time.
func wantBare(t *testing.T, s *Station, now int) {
	t.Helper()
	n, w := s.Left()
	if s.Now() != now || len(s.Beds()) != 0 || len(s.Alarms()) != 0 || s.Sounds() || n != 0 || w != 0 || len(s.Follows()) != 0 {
		t.Errorf("%d %v %v %v %d %d %v", s.Now(), s.Beds(), s.Alarms(), s.Sounds(), n, w, s.Follows())
	}
	for _, bed := range numbers {
		if a, b, c := s.Waits(bed); s.Lost(bed) || s.Level(bed) != 3 || a != 0 || b != 0 || c != 0 {
			t.Errorf("of the bed %d: %v %d %d %d %d", bed, s.Lost(bed), s.Level(bed), a, b, c)
		}
	}
}

func TestNew(t *testing.T) {
	for _, c := range []api.Conf{plain(), middle()} {
		s := New(c)
		wantBare(t, s, 0)
		for now := range 20 {
			if e, a := s.Tick(api.Input{Budget: now % 5}); len(e) != 0 || len(a) != 0 {
				t.Errorf("at %d: %v %x", now, e, a)
			}
			wantBare(t, s, now+1)
		}
	}
}

// The config that a station goes by is that of New: each number of it matters where the steps' tests ask for it.
func TestStationsOfOtherConfigs(t *testing.T) {
	for _, x := range bounds() {
		c := middle()
		for _, n := range []int{x.from, x.to} {
			*x.at(&c) = n
			b := begin(t, c)
			b.tick(3, admit(with(1, 60, 1, 5)), hello(11, 0, 0))
			for range 5 {
				b.tick(3, skip(11, 0))
			}
		}
	}
}

func TestOfANilStation(t *testing.T) {
	var s *Station
	for _, in := range []api.Input{{}, {Budget: 5, Cmds: []api.Cmd{admit(bedOf(1))}, Frames: [][]byte{hello(11, 0, 0).bytes, nil}}} {
		if e, a := s.Tick(in); e != nil || a != nil {
			t.Errorf("%v %x", e, a)
		}
		wantBare(t, s, 0)
	}
}

// P17.2

func TestNowIsOneMoreBehindEachTick(t *testing.T) {
	b := begin(t, plain())
	for now := range 300 {
		if b.s.Now() != now {
			t.Fatalf("Now() = %d, not %d", b.s.Now(), now)
		}
		b.tick(now, wire{e: 2})
	}
}

func TestBeds(t *testing.T) {
	b := begin(t, plain())
	var want []api.Bed
	for _, id := range []int{5, 3, 8, 1, 7, 2, 6, 4} {
		x := with(id, 60, id, 100+id)
		b.want("3 1 0 0", 1, admit(x))
		want = append(want, x)
		if l := b.s.Beds(); !slices.Equal(l, want) {
			t.Fatalf("%v, not %v", l, want)
		}
	}
	b.want("3 2 0 0, 3 2 0 0", 1, discharge(8), discharge(4))
	if l := b.s.Beds(); !slices.Equal(l, []api.Bed{want[0], want[1], want[3], want[4], want[5], want[6]}) {
		t.Errorf("%v", l)
	}
}

func TestLost(t *testing.T) {
	b := admitted(t, plain(), with(1, 2, 1, 3), with(2, 2, 1, 4))
	for _, lost := range [][2]bool{{false, false}, {false, false}, {false, false}, {true, false}, {true, true}} {
		b.tick(9)
		if b.s.Lost(1) != lost[0] || b.s.Lost(2) != lost[1] || b.s.Lost(3) || b.s.Lost(11) {
			t.Errorf("at %d: %v %v", b.s.Now(), b.s.Lost(1), b.s.Lost(2))
		}
	}
	b.tick(9, b.text(12, pulse(1)))
	if !b.s.Lost(1) || b.s.Lost(2) {
		t.Error(b.s.Lost(1), b.s.Lost(2))
	}
	b.tick(9, discharge(1))
	if b.s.Lost(1) {
		t.Error("discharged")
	}
}

func TestAlarmsAndSounds(t *testing.T) {
	b := admitted(t, plain(), with(1, 1, 1, 3), with(2, 1, 1, 2))
	b.tick(9, setLimit(1, 2, 90, 100, 1), b.text(11, sampleOf(2, 80)))
	b.wantAlarms(api.Alarm{Bed: 1, Kind: 2, Since: 1, On: true})
	if !b.s.Sounds() {
		t.Error("silent")
	}
	b.tick(9, ack(1, 2))
	b.wantAlarms(api.Alarm{Bed: 1, Kind: 2, Since: 1, On: true, Acked: true})
	if b.s.Sounds() {
		t.Error("all are acknowledged")
	}
	b.tick(9)
	b.wantAlarms(api.Alarm{Bed: 2, Since: 3, On: true}, api.Alarm{Bed: 1, Kind: 2, Since: 1, On: true, Acked: true})
	b.tick(9, silence(3)) // at 4
	for _, sounds := range []bool{false, false, true, true} {
		if b.s.Sounds() != sounds {
			t.Errorf("at %d: %v", b.s.Now(), !sounds)
		}
		b.tick(9)
	}
	b.tick(9, b.text(12, pulse(1)))
	b.wantAlarms(api.Alarm{Bed: 2, Since: 3}, api.Alarm{Bed: 1, Since: 5, On: true}, api.Alarm{Bed: 1, Kind: 2, Since: 1, On: true, Acked: true})
	b.tick(9, discharge(1), ack(2, 0))
	b.wantAlarms()
	if b.s.Sounds() {
		t.Error("without alarms")
	}
}

func TestLevel(t *testing.T) {
	x, y := bedOf(1), bedOf(2)
	y.Prio = 6
	b := admitted(t, plain(), y, x)
	b.tick(0, b.text(11, pulse(1)))
	for _, want := range []map[int]int{{1: 1, 2: 0, 3: 3, 0: 3}, {1: 2, 2: 0}, {1: 3, 2: 0}, {1: 3, 2: 1}} {
		b.wantLevels(want)
		b.tick(0, b.text(11, pulse(1)))
	}
	b.tick(9, discharge(1))
	b.wantLevels(map[int]int{1: 3, 2: 2})
	b.tick(9)
	b.wantLevels(map[int]int{2: 2})
	b.tick(9)
	b.wantLevels(map[int]int{2: 0, 1: 3})
}

func TestWaitsAndLeft(t *testing.T) {
	b := admitted(t, plain(), with(1, 4, 3, 99), with(2, 6, 2, 99))
	b.tick(1, b.text(11, pulse(1), point(2), pulse(3), point(4), pulse(5)), b.text(12, pulse(6), pulse(7)))
	b.wantWaits(1, 2, 2, 0)
	b.wantWaits(2, 1, 0, 0)
	b.wantWaits(3, 0, 0, 0)
	b.wantWaits(11, 0, 0, 0)
	b.wantLeft(4, 2)
	b.tick(5, b.text(12, point(1)))
	b.wantWaits(1, 2, 2, 2) // numeric jobs are given up at this tick, so that all units go to waves'
	b.wantWaits(2, 1, 1, 1)
}

func TestFollows(t *testing.T) {
	c := plain()
	c.Roam.Age = 50
	b := begin(t, c)
	b.tick(9, hello(5, 0, 0), heardBy(hello(3, 0, 0), 6, 70))
	b.tick(9, heardBy(skip(3, 0), 6, 60), hello(1, 0, 0))
	b.tick(9, heardBy(skip(5, 0), 1, 54))
	want := []api.Seen{{Tx: 5, Rssi: 50, Last: 2}, {Tx: 3, Ant: 6, Rssi: 60, Last: 1}, {Tx: 1, Rssi: 50, Last: 1}}
	if l := b.s.Follows(); !slices.Equal(l, want) {
		t.Errorf("%v, not %v", l, want)
	}
	b.tick(9, heardBy(skip(5, 0), 1, 55))
	want[0] = api.Seen{Tx: 5, Ant: 1, Rssi: 55, Last: 3}
	if l := b.s.Follows(); !slices.Equal(l, want) {
		t.Errorf("%v, not %v", l, want)
	}
	for range 48 { // up to the time 51
		b.tick(9)
	}
	if l := b.s.Follows(); len(l) != 3 {
		t.Errorf("at %d: %v", b.s.Now(), l)
	}
	b.want("4 3 0 0, 4 1 0 0", 9)
	if l := b.s.Follows(); !slices.Equal(l, want[:1]) {
		t.Errorf("%v", l)
	}
}

// What tells turns nothing.
func TestTellingTurnsNothing(t *testing.T) {
	b := admitted(t, plain(), with(1, 4, 3, 2), with(2, 6, 2, 99))
	for range 30 {
		b.tick(1, b.text(11, point(3), pulse(1)))
		for range 3 {
			b.check()
		}
	}
}

func TestTheExample(t *testing.T) {
	b := begin(t, plain())
	b.want("3 1 0 0", 9, admit(with(7, 2, 1, 3)))
	b.wait(3, 9)
	b.want("1 7 0 0", 9) // the fifth
}

// The ten examples of the whole, by the frames that the two devices send.
func TestTheExamplesOfTheWhole(t *testing.T) {
	c := api.Conf{Roam: api.Roam{Room: 8, Age: 50, Margin: 5}, Link: api.Link{Code: api.Code{K: 2, N: 3, Size: 8}, Wait: 2, Most: 3}, Capacity: 4, Calm: 3, Ahead: 2}
	b := begin(t, c)
	group := func(x api.Sample) []wire { return b.raw(0, textOf(c.Link.Code, x), 0, 1, 2) }
	b.want("6 0 0 0, 6 1 0 0", 4, hello(0, 0, 0), hello(1, 0, 0))
	bed := api.Bed{Id: 7, Tx: 0, Period: 2, Cost: 2, Watch: 5, Prio: 1}
	b.want("3 1 0 0, 3 3 0 0, 6 1 0 0, 9 7 1 95, 1 7 1 0", 4, admit(bed), setLimit(7, 1, 50, 90, 1), hello(0, 0, 0), group(pulse(95)), hello(1, 0, 0))
	b.wantAlarms(api.Alarm{Bed: 7, Kind: 1, Since: 1, On: true})
	b.wantWaits(7, 0, 0, 0)
	b.want("3 4 0 0, 6 1 0 0", 4, ack(7, 1), hello(1, 0, 0))
	b.wantAlarms(api.Alarm{Bed: 7, Kind: 1, Since: 1, On: true, Acked: true})
	b.want("", 4)
	b.want("6 1 0 0", 0, hello(1, 0, 0))
	b.want("6 1 0 0, 11 7 1 0", 0, group(pulse(80)), hello(1, 0, 0))
	b.wantLeft(2, 0)
	if b.s.Now() != 6 || len(b.s.Beds()) != 1 || len(b.s.Alarms()) != 1 || len(b.s.Follows()) != 2 {
		t.Error(b.s.Now())
	}
	b.want("10 7 1 0, 6 1 0 0", 99999, hello(1, 0, 0))
}
