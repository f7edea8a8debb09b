package station

import (
	"math"
	"slices"
	"strconv"
	"testing"

	"gurney/api"
)

// P17.1, step 1: Look

func TestLookRaisesWhatFellSilent(t *testing.T) {
	b := begin(t, plain())
	b.want("3 1 0 0, 3 1 0 0, 3 1 0 0, 3 1 0 0", 9, admit(with(5, 2, 1, 3)), admit(with(2, 2, 1, 3)), admit(with(9, 2, 1, 2)), admit(with(1, 2, 1, 1000)))
	b.wait(2, 9)
	b.want("1 9 0 0", 9)
	b.wantAlarms(api.Alarm{Bed: 9, Since: 3, On: true})
	b.want("1 5 0 0, 1 2 0 0", 9) // in the order in which they came
	b.wantAlarms(api.Alarm{Bed: 9, Since: 3, On: true}, api.Alarm{Bed: 2, Since: 4, On: true}, api.Alarm{Bed: 5, Since: 4, On: true})
	b.wait(996, 9) // once alone
	b.want("1 1 0 0", 9)
}

func TestLookOfEachWatch(t *testing.T) {
	for _, watch := range []int{1, 2, 3, 10, 127, 256, 999, 1000} {
		b := begin(t, plain())
		b.wait(5, 9)
		b.want("3 1 0 0", 9, admit(with(1, 2, 1, watch)))
		b.wait(watch, 9)
		b.want("1 1 0 0", 9)
	}
}

// A bed is lost again, when it was looked at, and fell silent again.
func TestLookAgain(t *testing.T) {
	b := admitted(t, plain(), with(1, 1, 1, 2))
	for _, since := range []int{3, 7, 11} {
		for b.s.Now() < since {
			b.want("", 9)
		}
		b.want("1 1 0 0", 9)
		b.wantAlarms(api.Alarm{Bed: 1, Since: since, On: true})
		b.want("9 1 1 5, 2 1 0 0", 9, b.text(11, pulse(5)))
		b.wantAlarms(api.Alarm{Bed: 1, Since: since})
	}
	b.want("3 4 0 0", 9, ack(1, 0))
	b.wantAlarms()
	b.wait(1, 9)
	b.want("1 1 0 0", 9)
}

// It is heard when a numeric sample is looked at: frames, points of waves, and samples that wait don't count.
func TestLookIsOfNumericSamplesLookedAt(t *testing.T) {
	b := admitted(t, plain(), with(1, 60, 1, 3), with(2, 60, 1, 3), with(3, 60, 1, 3))
	b.want("11 3 1 0", 0, b.text(12, pulse(1), pulse(2)))
	b.want("8 3 0 0, 11 3 2 0", 0, b.text(11, point(1)), skip(13, 0))
	b.want("11 3 3 0", 0, hello(13, 0, 9))
	b.want("1 1 0 0, 1 2 0 0, 1 3 0 0, 11 2 1 0", 0)
}

// Step 2: Commands

func TestAdmit(t *testing.T) {
	for _, x := range []api.Bed{
		{Id: 0, Tx: 0, Period: 60, Cost: 1, Watch: 1, Prio: 0}, {Id: 99, Tx: 255, Period: 30, Cost: 100, Watch: 1000, Prio: 9},
		{Id: 7, Tx: 3, Period: 1, Cost: 4, Watch: 5, Prio: 3}, // all of the capacity
	} {
		b := begin(t, plain())
		b.want("3 1 0 0", 0, admit(x))
		if l := b.s.Beds(); !slices.Equal(l, []api.Bed{x}) || b.s.Level(x.Id) != 0 {
			t.Errorf("%v", l)
		}
	}
}

func TestAdmitOfBedsThatMayNotBe(t *testing.T) {
	b := begin(t, plain())
	for _, turn := range []func(*api.Bed){
		func(x *api.Bed) { x.Id = -1 }, func(x *api.Bed) { x.Id = 100 }, func(x *api.Bed) { x.Tx = -1 }, func(x *api.Bed) { x.Tx = 256 },
		func(x *api.Bed) { x.Period = 0 }, func(x *api.Bed) { x.Period = 7 }, func(x *api.Bed) { x.Period = 61 }, func(x *api.Bed) { x.Period = 120 },
		func(x *api.Bed) { x.Period = -1 }, func(x *api.Bed) { x.Cost = 0 }, func(x *api.Bed) { x.Cost = 101 }, func(x *api.Bed) { x.Cost = -1 },
		func(x *api.Bed) { x.Watch = 0 }, func(x *api.Bed) { x.Watch = 1001 }, func(x *api.Bed) { x.Prio = -1 }, func(x *api.Bed) { x.Prio = 10 },
		func(x *api.Bed) { *x = api.Bed{} }, func(x *api.Bed) { x.Period, x.Cost = math.MinInt, math.MaxInt },
	} {
		x := with(7, 60, 1, 5)
		turn(&x)
		b.want("3 1 1 0", 9, admit(x))
	}
	if len(b.s.Beds()) != 0 || b.s.Level(7) != 3 {
		t.Error(b.s.Beds())
	}
}

func TestAdmitTwice(t *testing.T) {
	b := begin(t, plain())
	sameId, sameTx := bedOf(2), bedOf(2)
	sameId.Id, sameTx.Tx = 1, 11
	b.want("3 1 0 0, 3 1 9 0, 3 1 9 0, 3 1 9 0, 3 1 0 0", 9, admit(bedOf(1)), admit(bedOf(1)), admit(sameId), admit(sameTx), admit(bedOf(2)))
	sameId.Cost, sameId.Period = 100, 1 // too much load, too
	b.want("3 1 9 0", 9, admit(sameId))
	sameId.Cost = 101
	b.want("3 1 1 0", 9, admit(sameId))
}

func TestAdmitOfTheNinth(t *testing.T) {
	b := begin(t, plain())
	for id := 1; id <= 8; id++ {
		b.want("3 1 0 0", 9, admit(with(id, 60, 1, 1000)))
	}
	b.want("3 1 7 0, 3 1 7 0, 3 1 9 0, 3 1 1 0", 9, admit(with(9, 60, 1, 1000)), admit(with(9, 1, 100, 1000)), admit(bedOf(8)), admit(api.Bed{}))
	b.want("3 2 0 0, 3 1 0 0", 9, discharge(4), admit(with(9, 60, 1, 1000)))
}

func TestAdmitOfTooMuch(t *testing.T) {
	for _, x := range []struct {
		capacity int
		beds     []api.Bed
		want     string
	}{
		{0, []api.Bed{with(1, 60, 1, 500)}, "3 1 10 0"},
		{1, []api.Bed{with(1, 60, 61, 500), with(1, 60, 60, 500), with(2, 60, 1, 500)}, "3 1 10 0, 3 1 0 0, 3 1 10 0"},
		{1, []api.Bed{with(1, 60, 59, 500), with(2, 30, 1, 500), with(2, 60, 1, 500), with(3, 60, 1, 500)}, "3 1 0 0, 3 1 10 0, 3 1 0 0, 3 1 10 0"},
		{4, []api.Bed{with(1, 1, 5, 500), with(1, 1, 4, 500), with(2, 60, 1, 500)}, "3 1 10 0, 3 1 0 0, 3 1 10 0"},
		{100, []api.Bed{with(1, 1, 100, 500), with(2, 60, 1, 500)}, "3 1 0 0, 3 1 10 0"},
		{10000, []api.Bed{with(1, 1, 100, 500), with(2, 1, 100, 500), with(3, 1, 100, 500)}, "3 1 0 0, 3 1 0 0, 3 1 0 0"},
	} {
		c := plain()
		c.Capacity = x.capacity
		b := begin(t, c)
		var things []any
		for _, y := range x.beds {
			things = append(things, admit(y))
		}
		b.want(x.want, 9, things...)
	}
}

// One that isn't admitted is neither in the watch nor in the controller, and its frames are strange.
func TestARefusedBedIsNotThere(t *testing.T) {
	b := admitted(t, plain(), with(1, 2, 1, 1000))
	b.want("3 1 10 0, 3 1 1 0, 3 1 9 0, 6 12 0 0", 9, admit(with(2, 1, 100, 2)), admit(with(3, 1, 1, 0)), admit(with(1, 2, 1, 2)), hello(12, 0, 0))
	b.wait(10, 9)
	b.tick(0, b.text(11, pulse(1), pulse(1)))
	b.want("11 1 2 0", 0)
	if l := b.s.Beds(); len(l) != 1 || b.s.Level(2) != 3 || b.s.Lost(2) {
		t.Error(l)
	}
}

// A bed is in the controller by its priority, behind those of its own that came ahead.
func TestAnAdmittedBedIsInTheOrder(t *testing.T) {
	b := begin(t, plain())
	for i, prio := range []int{4, 9, 0, 4} {
		x := with(i+1, 30, 1, 1000)
		x.Prio = prio
		b.want("3 1 0 0", 9, admit(x))
	}
	b.want("11 3 1 0", 0, b.greet(12), b.text(12, pulse(1)))
	for _, want := range []string{"11 3 2 0", "11 3 3 0", "11 4 1 0", "11 4 2 0", "11 4 3 0", "11 1 1 0", "11 1 2 0", "11 1 3 0", "11 2 1 0", "11 2 2 0", "11 2 3 0", "", ""} {
		b.want(want, 0)
	}
}

func TestDischarge(t *testing.T) {
	b := begin(t, plain())
	b.want("3 2 8 0, 3 1 0 0, 3 2 8 0, 3 2 0 0, 3 2 8 0", 9, discharge(1), admit(bedOf(1)), discharge(2), discharge(1), discharge(1))
	for _, n := range numbers {
		b.want("3 2 8 0", 9, discharge(n))
	}
	b.want("3 1 0 0, 3 2 8 0, 3 2 8 0, 3 2 8 0", 9, admit(bedOf(1)), discharge(11), discharge(1<<32+1), api.Cmd{Kind: 2, B: 1, Bed: bedOf(1)})
}

// full is a station of the beds 1 and 2, of which there is of each all that may be: 1 is lost.
func full(t *testing.T) *both {
	t.Helper()
	b := admitted(t, plain(), with(1, 4, 3, 2), with(2, 4, 3, 1000))
	b.tick(9, setLimit(1, 1, 50, 60, 1), setLimit(2, 1, 50, 60, 1), b.text(11, pulse(70)), b.text(12, pulse(70)))
	b.wait(2, 9)
	b.want("1 1 0 0, 11 2 1 0", 0, b.text(11, point(1), point(2)), b.text(12, point(3), point(4)))
	b.tick(1, b.text(11, pulse(71), pulse(72)), b.text(12, pulse(71), pulse(72)))
	return b
}

func TestFull(t *testing.T) {
	b := full(t)
	b.wantAlarms(api.Alarm{Bed: 1, Since: 4, On: true}, api.Alarm{Bed: 1, Kind: 1, Since: 1, On: true}, api.Alarm{Bed: 2, Kind: 1, Since: 1, On: true})
	b.wantWaits(1, 1, 2, 0)
	b.wantWaits(2, 1, 2, 0)
	b.wantLeft(5, 4)
	b.wantLevels(map[int]int{1: 0, 2: 2})
}

// What goes with a bed: all that there is of it, and nothing of others.
func TestADischargedBedLeavesNothing(t *testing.T) {
	for _, x := range []struct {
		id, other, left int
		turn, next      string
		lost            bool
		level           int
		alarms          []api.Alarm
	}{
		{1, 2, 3, "3 2 0 0, 11 2 3 0", "10 2 1 0, 6 11 0 0", false, 3, []api.Alarm{{Bed: 2, Kind: 1, Since: 1, On: true}}},
		{2, 1, 2, "3 2 0 0, 11 1 1 0", "10 1 1 0, 6 12 0 0", true, 1, []api.Alarm{{Bed: 1, Since: 4, On: true}, {Bed: 1, Kind: 1, Since: 1, On: true}}},
	} {
		b := full(t)
		b.want(x.turn, 0, discharge(x.id))
		b.wantWaits(x.id, 0, 0, 0)
		b.wantWaits(x.other, 1, 2, 0)
		b.wantLeft(x.left, 2)
		b.wantAlarms(x.alarms...)
		b.wantLevels(map[int]int{x.id: 3, x.other: x.level})
		if b.s.Lost(x.id) || b.s.Lost(x.other) != x.lost {
			t.Errorf("without %d: lost %v, %v", x.id, b.s.Lost(x.id), b.s.Lost(x.other))
		}
		b.want(x.next, 9, skip(x.id+10, 3))
		b.wantAcks()
	}
}

// One that is admitted again has nothing of what there was.
func TestADischargedBedBeginsAnew(t *testing.T) {
	b := full(t)
	b.tick(9, discharge(1), discharge(2))
	for b.s.Now() < 20 {
		b.tick(9)
	}
	x := with(1, 4, 3, 1000)
	b.want("3 1 0 0", 9, admit(x), skip(11, 2), b.text(11, pulse(99))) // without a collector
	b.wantAcks()
	b.wantWaits(1, 0, 0, 0)
	b.wantAlarms()
	b.wantLevels(map[int]int{1: 0})
	b.want("9 1 1 99", 9, b.greet(11), b.text(11, pulse(99), point(1))) // without a limit
	b.wantWaits(1, 0, 1, 1)
	b.wait(20, 9)
	b.wantAlarms()
}

// Its next release is 0 again, too.
func TestADischargedBedReleasesAtOnce(t *testing.T) {
	b := admitted(t, plain(), with(1, 60, 5, 1000))
	b.want("9 1 1 1", 9, b.text(11, pulse(1), pulse(2)))
	b.wait(3, 9)
	b.want("3 2 0 0, 3 1 0 0, 9 1 1 3", 9, discharge(1), admit(with(1, 60, 5, 1000)), b.greet(11), b.text(11, pulse(3)))
}

// Loads that are reserved count until the bed's next release would be, and no more then.
func TestReservedLoads(t *testing.T) {
	c := plain()
	c.Capacity = 1
	for _, period := range []int{1, 2, 3, 4, 10, 60} {
		b := admitted(t, c, with(1, period, 1, 1000))
		b.want("9 1 1 5", 1, b.text(11, pulse(5))) // at 1: the next release is at 1 and the period
		x := with(2, 1, 1, 1000)                   // as much as there is
		want := "3 2 0 0, 3 1 10 0"
		if period == 1 {
			want = "3 2 0 0, 3 1 0 0"
		}
		b.want(want, 1, discharge(1), admit(x))
		for b.s.Now() < 1+period {
			b.want("3 1 10 0", 1, admit(x))
		}
		if period > 1 {
			b.want("3 1 0 0", 1, admit(x))
		}
	}
}

func TestReservedLoadsAreTheBeds(t *testing.T) {
	c := plain()
	c.Capacity = 1
	b := admitted(t, c, with(1, 4, 3, 1000), with(2, 10, 1, 1000)) // 45 and 6
	b.want("9 1 1 5, 9 2 1 5", 9, b.text(11, pulse(5)), b.text(12, pulse(5)))
	b.want("3 2 0 0, 3 1 10 0, 3 1 0 0", 9, discharge(1), admit(with(3, 60, 10, 1000)), admit(with(3, 60, 9, 1000)))
	b.want("3 1 10 0, 3 2 0 0, 3 1 10 0, 3 2 0 0, 3 1 0 0", 9, admit(with(1, 60, 1, 1000)), discharge(3), admit(with(4, 60, 10, 1000)), discharge(2), admit(with(4, 60, 9, 1000)))
	b.want("3 1 10 0", 9, admit(with(5, 60, 1, 1000))) // 45, 6 and 9 at 4
	b.want("3 1 10 0, 3 1 0 0", 9, admit(with(5, 60, 46, 1000)), admit(with(5, 60, 45, 1000)))
	for b.s.Now() < 11 {
		b.want("3 1 10 0", 9, admit(with(6, 60, 1, 1000)))
	}
	b.want("3 1 10 0, 3 1 0 0", 9, admit(with(6, 60, 7, 1000)), admit(with(6, 60, 6, 1000)))
}

// A bed of which nothing was released yet, or whose next release is past, has nothing reserved.
func TestNothingIsReserved(t *testing.T) {
	c := plain()
	c.Capacity = 1
	x := with(1, 60, 60, 1000)
	b := begin(t, c)
	b.want("3 1 0 0, 3 2 0 0, 3 1 0 0, 3 2 0 0, 3 1 0 0", 99, admit(x), discharge(1), admit(x), discharge(1), admit(x))
	b.tick(99, b.greet(11), b.text(11, pulse(1)))
	for b.s.Now() < 61 {
		b.want("", 99, skip(11, 9))
	}
	b.want("3 2 0 0, 3 1 0 0", 99, discharge(1), admit(with(2, 1, 1, 1000)))
}

// The errors of layer 11 that are named first are told first.
func TestReservedLoadsAreAskedForLast(t *testing.T) {
	c := plain()
	c.Capacity = 8
	b := admitted(t, c, with(1, 60, 100, 1000))
	b.tick(9, b.text(11, pulse(1)))
	x := with(2, 1, 7, 1000)
	b.want("3 2 0 0, 3 1 10 0", 9, discharge(1), admit(x))
	for id := 3; id <= 9; id++ {
		b.want("3 1 0 0", 9, admit(with(id, 60, 1, 1000)))
	}
	b.want("3 1 10 0, 3 1 0 0, 3 1 7 0, 3 1 9 0", 9, admit(x), admit(with(2, 60, 1, 1000)), admit(with(10, 1, 7, 1000)), admit(with(9, 1, 7, 1000)))
}

// Of several that are reserved each goes at its own time.
func TestManyReservedLoads(t *testing.T) {
	c := plain()
	c.Capacity = 1
	b := begin(t, c)
	var l []hold
	for i, period := range []int{60, 30, 20, 15, 12, 10, 6, 5} {
		b.want("3 1 0 0, 9 "+strconv.Itoa(i)+" 1 1", 9, admit(with(i, period, 1, 1000)), hello(10+i, 0, 0), b.text(10+i, pulse(1)))
		l = append(l, hold{60 / period, i + period})
	}
	b.want("3 2 0 0, 3 2 0 0, 3 2 0 0, 3 2 0 0, 3 2 0 0, 3 2 0 0, 3 2 0 0, 3 2 0 0", 9, discharge(0), discharge(1), discharge(2), discharge(3), discharge(4), discharge(5), discharge(6), discharge(7))
	for b.s.Now() < 70 {
		left := 60
		for _, h := range l {
			if h.until > b.s.Now() {
				left -= h.load
			}
		}
		b.want("3 1 10 0, 3 1 0 0, 3 2 0 0", 9, admit(with(40, 60, left+1, 1000)), admit(with(40, 60, left, 1000)), discharge(40))
	}
}

func TestLimit(t *testing.T) {
	b := admitted(t, plain(), with(1, 1, 1, 1000))
	b.want("3 3 0 0, 9 1 1 91, 1 1 1 0", 9, setLimit(1, 1, 50, 90, 1), b.text(11, pulse(91)))
	b.want("3 3 8 0, 3 3 8 0, 3 3 8 0", 9, setLimit(2, 1, 50, 90, 1), setLimit(11, 1, 50, 90, 1), setLimit(2, 9, 1, 0, 0))
	for _, n := range numbers {
		if n != 1 {
			b.want("3 3 8 0", 9, setLimit(n, 1, 50, 90, 1))
		}
	}
	for _, l := range [][4]int{{0, 50, 90, 1}, {5, 50, 90, 1}, {-1, 50, 90, 1}, {1, -1, 90, 1}, {1, 50, 1000, 1}, {1, 91, 90, 1}, {1, 50, 90, 0}, {1, 50, 90, 101}, {1, math.MinInt, math.MaxInt, math.MaxInt}} {
		b.want("3 3 1 0", 9, setLimit(1, l[0], l[1], l[2], l[3]))
	}
	b.want("9 1 1 90, 2 1 1 0", 9, b.text(11, pulse(90))) // the limit is as it was
	b.want("3 3 0 0, 3 3 0 0, 3 3 0 0, 3 3 0 0, 9 1 3 91", 9, setLimit(1, 2, 0, 999, 100), setLimit(1, 3, 91, 91, 1), setLimit(1, 4, 0, 0, 1), setLimit(1, 1, 0, 999, 1), b.text(11, sampleOf(3, 91)))
}

// A limit that is set again begins with none beyond.
func TestLimitAgain(t *testing.T) {
	b := admitted(t, plain(), with(1, 1, 1, 1000))
	l := setLimit(1, 1, 50, 90, 2)
	b.want("3 3 0 0, 9 1 1 91", 9, l, b.text(11, pulse(91)))
	b.want("3 3 0 0, 9 1 1 92", 9, l, b.text(11, pulse(92)))
	b.want("9 1 1 93, 1 1 1 0", 9, b.text(11, pulse(93)))
	b.want("3 3 0 0, 9 1 1 94", 9, l, b.text(11, pulse(94)))
	b.wantAlarms(api.Alarm{Bed: 1, Kind: 1, Since: 3, On: true})
	b.want("9 1 1 95, 1 1 1 0", 9, b.text(11, pulse(95))) // it is an alarm now, and wasn't
	b.wantAlarms(api.Alarm{Bed: 1, Kind: 1, Since: 3, On: true})
}

func TestAck(t *testing.T) {
	b := admitted(t, plain(), with(1, 1, 1, 1000), with(2, 1, 1, 1000))
	b.want("3 3 0 0, 3 3 0 0, 9 1 1 91, 1 1 1 0, 9 2 1 91, 1 2 1 0", 9, setLimit(1, 1, 50, 90, 1), setLimit(2, 1, 50, 90, 1), b.text(11, pulse(91)), b.text(12, pulse(91)))
	for _, n := range numbers {
		if n != 1 {
			b.want("3 4 8 0, 3 4 8 0", 9, ack(1, n), ack(n, 3))
		}
	}
	b.want("3 4 8 0, 3 4 0 0, 3 4 8 0", 9, ack(11, 1), ack(1, 1), ack(1, 1))
	b.wantAlarms(api.Alarm{Bed: 2, Kind: 1, Since: 1, On: true}, api.Alarm{Bed: 1, Kind: 1, Since: 1, On: true, Acked: true})
	b.want("9 1 1 90, 2 1 1 0, 9 2 1 90, 2 2 1 0", 9, b.text(11, pulse(90)), b.text(12, pulse(90)))
	b.wantAlarms(api.Alarm{Bed: 2, Kind: 1, Since: 1})
	b.want("3 4 8 0, 3 4 0 0, 3 4 8 0", 9, ack(1, 1), ack(2, 1), ack(2, 1))
	b.wantAlarms()
}

func TestSilence(t *testing.T) {
	t.Parallel()
	for _, n := range append(numbers, 17) {
		b := begin(t, plain())
		b.want("3 1 0 0", 9, admit(with(1, 1, 1, 2)))
		b.wait(2, 9)
		b.want("1 1 0 0", 9)
		want := "3 5 1 0"
		if n >= 0 && n <= 1000 {
			want = "3 5 0 0"
		}
		b.want(want, 9, silence(n)) // at 4
		for b.s.Now() < 1010 {
			if silent := n >= 0 && n <= 1000 && b.s.Now() < 4+n; b.s.Sounds() == silent {
				t.Fatalf("silence %d, at %d: %v", n, b.s.Now(), !silent)
			}
			b.wait(1, 9)
		}
	}
}

// The last one holds, also where it is for fewer ticks.
func TestSilenceAgain(t *testing.T) {
	b := admitted(t, plain(), with(1, 1, 1, 1))
	b.wait(1, 9)
	b.want("1 1 0 0, 3 5 0 0", 9, silence(10)) // at 2
	b.want("3 5 0 0, 3 5 0 0, 3 5 1 0", 9, silence(20), silence(2), silence(1001))
	for _, sounds := range []bool{false, true, true} { // from 4 on
		if b.s.Sounds() != sounds {
			t.Errorf("at %d: %v", b.s.Now(), !sounds)
		}
		b.wait(1, 9)
	}
	b.want("3 5 0 0", 9, silence(100))
	b.want("3 5 0 0", 9, silence(0))
	if !b.s.Sounds() {
		t.Error("silent")
	}
}

// Commands of no kind.
func TestCommandsOfNoKind(t *testing.T) {
	b := full(t)
	for _, n := range numbers {
		if n >= 1 && n <= 5 {
			continue
		}
		c := api.Cmd{Kind: n, A: 1, B: 1, Bed: bedOf(3), Limit: api.Limit{Bed: 1, Kind: 1, Count: 1}}
		e := b.tick(0, c)
		i := slices.Index(e, api.Event{Kind: 3, A: n, B: 1})
		if i < 0 {
			t.Errorf("%v", e)
		}
	}
}

// Each command sees what those ahead of it did.
func TestCommandsAreDoneInOrder(t *testing.T) {
	b := begin(t, plain())
	b.want("3 3 8 0, 3 1 0 0, 3 3 0 0, 3 4 8 0, 3 1 9 0, 3 2 0 0, 3 3 8 0, 3 1 0 0, 3 5 0 0, 3 5 1 0, 3 0 1 0, 3 2 0 0, 3 2 8 0", 9,
		setLimit(1, 1, 0, 9, 1), admit(bedOf(1)), setLimit(1, 1, 0, 9, 1), ack(1, 1), admit(bedOf(1)), discharge(1), setLimit(1, 1, 0, 9, 1),
		admit(bedOf(1)), silence(4), silence(-4), api.Cmd{}, discharge(1), discharge(1))
}

// Step 3: Forget

func TestForget(t *testing.T) {
	c := plain()
	c.Roam.Age = 6
	b := admitted(t, c, with(1, 1, 1, 1000), with(2, 1, 1, 1000))
	b.want("6 99 0 0", 9, hello(99, 0, 0))
	b.wait(3, 9)
	b.want("9 2 1 5", 9, b.text(12, pulse(5)))
	b.wait(1, 9)
	b.want("4 11 0 0", 9) // at 7: it was heard last at 0
	b.want("4 99 0 0", 9)
	b.wait(3, 9)
	b.want("4 12 0 0", 9)
	if l := b.s.Beds(); len(l) != 2 || len(b.s.Follows()) != 0 {
		t.Error(l)
	}
}

func TestForgetOfSeveralIsInTheTablesOrder(t *testing.T) {
	c := plain()
	c.Roam.Age = 3
	b := begin(t, c)
	b.want("3 1 0 0, 6 30 0 0, 6 20 0 0", 9, admit(bedOf(1)), hello(30, 0, 0), hello(11, 0, 0), hello(20, 0, 0))
	b.wait(3, 9)
	b.want("4 30 0 0, 4 11 0 0, 4 20 0 0", 9)
}

// The collector of its bed goes, the bed stays, with what waits.
func TestForgetTakesTheCollector(t *testing.T) {
	c := plain()
	c.Roam.Age = 3
	b := admitted(t, c, with(1, 10, 1, 1000), with(2, 10, 1, 1000))
	b.want("9 1 1 1", 9, b.text(11, pulse(1), pulse(2), point(3)))
	b.wait(1, 9)
	b.want("", 9, skip(12, 9)) // not open
	b.wait(1, 9)
	b.want("4 11 0 0", 9) // at 5
	b.wantWaits(1, 1, 1, 1)
	b.want("9 2 1 4", 9, b.text(11, pulse(3)), b.text(12, pulse(4))) // nothing of 11: its collector is gone
	b.wantAcks(api.Frame{Tx: 12, Kind: 1, Data: []byte{1, 0}})
	b.wantWaits(1, 1, 1, 1)
	b.want("", 9, hello(11, b.next[11], 0), b.text(11, pulse(5))) // of the session that it had
	b.wantWaits(1, 2, 1, 1)
	b.wait(2, 9)
	b.want("4 12 0 0", 9)
	b.want("4 11 0 0, 9 1 1 2", 9) // what waits stays
}
