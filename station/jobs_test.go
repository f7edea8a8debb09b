package station

import (
	"math"
	"slices"
	"strconv"
	"testing"

	"gurney/api"
)

// P17.1, step 4: Give up

// behind is a station of the capacity 4, of which three beds' jobs wait that are due in another order than that of the beds, with nothing done, at the time 2: the last Budget was 0.
func behind(t *testing.T) *both {
	t.Helper()
	b := admitted(t, plain(), with(5, 60, 7, 1000), with(3, 20, 6, 1000), with(4, 20, 8, 1000))
	b.want("11 4 1 0", 0, b.text(15, pulse(1), pulse(4), point(9)), b.text(13, sampleOf(2, 2), pulse(5)), b.text(14, sampleOf(3, 3)))
	b.wantLeft(21, 1)
	return b
}

// All go at the first tick whose Budget is at least the Capacity, in the order in which they are due, and no wave's goes.
func TestGiveUp(t *testing.T) {
	for _, budget := range []int{4, 5, 6, 100, 100000, 100001, math.MaxInt} {
		b := behind(t)
		b.want("10 3 2 0, 10 4 3 0, 10 5 1 0", budget)
		b.wantLeft(0, 0)
		b.wantWaits(5, 1, 1, 1)
		b.wait(18, budget) // up to their next releases
		b.want("9 3 1 5", max(budget, 6))
		if budget >= 7 {
			b.wait(39, budget)
			b.want("9 5 1 4", budget)
		}
	}
}

func TestNothingIsGivenUpWithLessThanTheCapacity(t *testing.T) {
	for _, budget := range []int{1, 2, 3} {
		b := behind(t)
		b.tick(budget)
		b.wantLeft(21-budget, 1)
		b.tick(-1)
		b.wantLeft(21-budget, 1)
		b.tick(math.MinInt)
		b.tick(2)
		b.wantLeft(19-budget, 1)
		b.want("10 3 2 0, 10 4 3 0, 10 5 1 0", 4)
	}
}

// It is given up once: what comes behind isn't.
func TestNothingIsGivenUpBehindEnough(t *testing.T) {
	b := behind(t)
	b.want("10 3 2 0, 10 4 3 0, 10 5 1 0", 4)
	b.wait(18, 4) // 3 is released at 21
	b.want("", 4)
	b.wantLeft(2, 0)
	b.want("9 3 1 5", 4)
	b.wait(38, 4) // 5 is released at 61
	b.want("", 4)
	b.want("9 5 1 4", 4)
}

// The budgets of the last tick and this one count, no others: from enough to enough nothing goes.
func TestGiveUpIsOfTheLastTick(t *testing.T) {
	c := plain()
	c.Ahead = 100
	b := admitted(t, c, with(1, 60, 100, 1000))
	b.want("", 4, b.text(11, pulse(1)))
	b.wantLeft(96, 0)
	b.want("", 9)
	b.want("", 4)
	b.wantLeft(83, 0)
	b.want("", 3)
	b.want("", 3)
	b.want("10 1 1 0", 4)
	b.want("", 4)
}

// At the first tick of all there is nothing to be given up, and a Budget that was less matters at the second one.
func TestGiveUpOfTheFirstTicks(t *testing.T) {
	b := begin(t, plain())
	b.want("3 1 0 0", 4, admit(with(1, 60, 9, 1000)), b.greet(11), b.text(11, pulse(1)))
	b.wantLeft(5, 0)
	b.want("", 4)
	b = begin(t, plain())
	b.want("3 1 0 0, 11 1 1 0", 3, admit(with(1, 60, 10, 1000)), b.greet(11), b.text(11, pulse(1)))
	b.want("10 1 1 0", 4)
}

// Numeric jobs that are late go, each told, in order; a tick ahead they don't.
func TestLateJobsAreMissed(t *testing.T) {
	b := admitted(t, plain(), with(5, 4, 2, 1000), with(2, 4, 2, 1000), with(7, 3, 2, 1000), with(1, 6, 2, 1000))
	b.tick(0, b.text(15, pulse(1), pulse(2)), b.text(12, sampleOf(4, 1)), b.text(17, sampleOf(2, 3)), b.text(11, sampleOf(3, 4)))
	b.tick(0)
	b.tick(0)
	b.wantLeft(8, 0)
	b.want("10 7 2 0, 11 7 1 0", 0) // at 4
	b.wantLeft(6, 0)
	b.want("10 2 4 0, 10 5 1 0, 11 7 2 0", 0) // at 5, and 5 has a new one
	b.wantLeft(4, 0)
	b.tick(0)
	b.want("10 1 3 0, 11 2 1 0", 0)
	b.wantLeft(2, 0)
	b.tick(0)
	b.want("10 5 1 0", 0)
	b.wantLeft(0, 0)
	b.wait(1, 0)
}

// What was done in part is missed like all else.
func TestLateJobsThatWereDoneInPart(t *testing.T) {
	b := admitted(t, plain(), with(5, 2, 8, 1000))
	b.tick(4, b.text(15, pulse(1), pulse(2)))
	b.tick(3)
	b.wantLeft(1, 0)
	b.tick(3)
	b.wantLeft(5, 0)
	b.want("10 5 1 0", 4)
	b.wantLeft(0, 0)
	b = admitted(t, plain(), with(5, 2, 8, 1000))
	b.want("", 4, b.text(15, pulse(1), pulse(2)))
	b.want("9 5 1 1", 4) // in its last tick
}

// Waves' jobs that are late go untold.
func TestLateWaves(t *testing.T) {
	b := admitted(t, plain(), bedOf(1))
	b.tick(0, b.text(11, point(1), point(2)))
	b.tick(0, b.text(11, point(3)))
	for range 6 { // up to 8
		b.tick(0)
		if n, w := b.s.Left(); n != 0 || w != 3 {
			t.Fatalf("at %d: %d %d", b.s.Now(), n, w)
		}
	}
	b.tick(0) // at 9
	b.wantLeft(0, 1)
	b.tick(0)
	b.wantLeft(0, 0)
	b.wantWaits(1, 0, 3, 0)
	b.tick(9)
	b.wantWaits(1, 0, 3, 0)
}

// In its last tick a wave's job is done yet.
func TestWavesInTheirLastTick(t *testing.T) {
	b := admitted(t, plain(), bedOf(1))
	b.tick(0, b.text(11, point(1), point(2)))
	for range 6 {
		b.tick(0)
	}
	b.tick(1) // at 8
	b.wantWaits(1, 0, 2, 1)
	b.tick(9)
	b.wantWaits(1, 0, 2, 1)
}

// Step 7: Release

// The next sample is released at exactly the next release, not a tick ahead of it.
func TestRelease(t *testing.T) {
	for _, period := range []int{1, 2, 3, 4, 5, 6, 10, 12, 15, 20, 30, 60} {
		b := admitted(t, plain(), with(1, period, 1, 1000))
		b.want("9 1 1 10", 9, b.text(11, pulse(10), pulse(11), pulse(12)))
		for v := 11; v <= 12; v++ {
			b.wait(period-1, 9)
			b.want("9 1 1 "+strconv.Itoa(v), 9)
		}
		b.wait(period+2, 9)
		b.want("9 1 1 13", 9, b.text(11, pulse(13), pulse(14))) // at once: its next release is past
		b.wait(period-1, 9)
		b.want("9 1 1 14", 9)
	}
}

// A sample that comes when the next release is past is released at once, and the next release counts from then on.
func TestReleaseCountsFromTheRelease(t *testing.T) {
	b := admitted(t, plain(), with(1, 4, 1, 1000))
	b.want("9 1 1 1", 9, b.text(11, pulse(1))) // at 1
	b.wait(5, 9)
	b.want("9 1 1 2", 9, b.text(11, pulse(2), pulse(3))) // at 7, not at 5
	b.wait(3, 9)
	b.want("9 1 1 3", 9) // at 11, not at 9
}

// A job is of the bed's Cost, by the time and the Period: it is done with so many units, and late then.
func TestAReleasedJobsParts(t *testing.T) {
	c := plain()
	c.Capacity = 10000
	for _, x := range []struct{ period, cost int }{{1, 1}, {1, 100}, {2, 3}, {6, 50}, {60, 1}, {60, 99}} {
		b := admitted(t, c, with(1, x.period, x.cost, 1000))
		b.tick(0, b.text(11, pulse(5)))
		b.wantLeft(x.cost, 0)
		for range x.period - 1 {
			b.tick(0)
			b.wantLeft(x.cost, 0)
		}
		e := b.tick(0)
		b.wantLeft(0, 0)
		if e[0] != (api.Event{Kind: 10, A: 1, B: 1}) {
			t.Errorf("%v: %v", x, e)
		}
		b = admitted(t, c, with(1, x.period, x.cost, 1000))
		b.tick(x.cost-1, b.text(11, pulse(5)))
		b.wantLeft(1, 0)
		b = admitted(t, c, with(1, x.period, x.cost, 1000))
		b.want("9 1 1 5", x.cost, b.text(11, pulse(5)))
	}
}

// Samples are released in the order in which they came, of each bed for itself.
func TestReleaseIsInOrder(t *testing.T) {
	b := admitted(t, plain(), with(3, 1, 1, 1000), with(1, 2, 1, 1000))
	b.want("9 3 1 1, 9 1 2 7", 9, b.text(13, pulse(1), sampleOf(4, 2), sampleOf(3, 3)), b.text(11, sampleOf(2, 7), pulse(8)))
	b.want("9 3 4 2", 9)
	b.want("9 3 3 3, 9 1 1 8", 9)
	b.wait(2, 9)
}

// Beds that are released at once by the same time are done by their numbers, not in the order in which they came.
func TestReleaseAtOnce(t *testing.T) {
	b := admitted(t, plain(), with(3, 2, 1, 1000), with(1, 2, 1, 1000), with(2, 2, 1, 1000))
	b.want("9 1 1 1, 9 2 1 2, 9 3 1 3", 9, b.text(13, pulse(3)), b.text(12, pulse(2)), b.text(11, pulse(1)))
}

// Of a bed without samples nothing is released, and its next release isn't moved.
func TestReleaseOfNothing(t *testing.T) {
	b := admitted(t, plain(), with(1, 60, 1, 1000))
	b.wait(7, 9)
	b.want("9 1 1 1", 9, b.text(11, point(5), pulse(1)))
}

// Step 8: Work

// Numeric jobs come first, those that are due first ahead; of what is left over waves' are done.
func TestWorkOfTheBudget(t *testing.T) {
	for _, x := range []struct {
		budget         int
		events         string
		numeric, waves int
		looked         int
	}{
		{0, "11 2 1 0", 6, 3, 0}, {1, "11 2 1 0", 5, 3, 0}, {2, "9 2 1 2, 11 2 1 0", 4, 3, 0}, {3, "9 2 1 2", 3, 3, 0}, {5, "9 2 1 2", 1, 3, 0},
		{6, "9 2 1 2, 9 1 1 1", 0, 3, 0}, {7, "9 2 1 2, 9 1 1 1", 0, 2, 1}, {8, "9 2 1 2, 9 1 1 1", 0, 1, 2}, {9, "9 2 1 2, 9 1 1 1", 0, 0, 3}, {100000, "9 2 1 2, 9 1 1 1", 0, 0, 3},
		{-1, "11 2 1 0", 6, 3, 0}, {math.MinInt, "11 2 1 0", 6, 3, 0}, {math.MaxInt, "9 2 1 2, 9 1 1 1", 0, 0, 3}, {100001, "9 2 1 2, 9 1 1 1", 0, 0, 3}, {1<<32 + 1, "9 2 1 2, 9 1 1 1", 0, 0, 3},
	} {
		c := plain()
		c.Capacity, c.Ahead = 10, 2
		b := admitted(t, c, with(1, 30, 4, 1000), with(2, 20, 2, 1000))
		b.want(x.events, x.budget, b.text(11, pulse(1), point(1), point(2), point(3)), b.text(12, pulse(2)))
		b.wantLeft(x.numeric, x.waves)
		b.wantWaits(1, 0, 3, x.looked)
		b.wantWaits(2, 0, 0, 0)
	}
}

// How many points were looked at counts for the bed that they are of.
func TestLookedAtIsOfTheBed(t *testing.T) {
	b := admitted(t, plain(), bedOf(1), bedOf(2))
	b.tick(3, b.text(12, point(1), point(2)), b.text(11, point(3), point(4)))
	b.wantWaits(1, 0, 2, 2) // by the same time, those of the lesser bed are done first
	b.wantWaits(2, 0, 2, 1)
	b.tick(4)
	b.wantWaits(2, 0, 2, 2)
}

func TestValue(t *testing.T) {
	for kind := 1; kind <= 4; kind++ {
		for _, v := range []int{0, 1, 255, 256, 998, 999} {
			b := admitted(t, plain(), with(99, 1, 1, 1000))
			b.want("9 99 "+strconv.Itoa(kind)+" "+strconv.Itoa(v), 9, b.text(109, sampleOf(kind, v)))
		}
	}
}

// The watch hears it when it is looked at: the next silence counts from then on, not from when it came.
func TestValueIsHeardWhenItIsLookedAt(t *testing.T) {
	b := admitted(t, plain(), with(1, 60, 10, 5))
	b.tick(2, b.text(11, pulse(1)))
	for range 3 {
		b.tick(2)
	}
	b.want("9 1 1 1", 2) // at 5
	b.wait(5, 2)
	b.want("1 1 0 0", 2)
}

func TestValueOfOneThatWasLost(t *testing.T) {
	b := admitted(t, plain(), with(1, 1, 1, 2), with(2, 1, 1, 2))
	b.wait(2, 9)
	b.want("1 1 0 0, 1 2 0 0", 9)
	b.want("9 1 1 5, 2 1 0 0, 9 2 1 6, 2 2 0 0", 9, b.text(11, pulse(5), pulse(5)), b.text(12, pulse(6)))
	b.wantAlarms(api.Alarm{Bed: 1, Since: 3}, api.Alarm{Bed: 2, Since: 3})
	b.want("3 4 0 0, 9 1 1 5", 9, ack(1, 0))
	b.wantAlarms(api.Alarm{Bed: 2, Since: 3})
}

// An alarm that was acknowledged goes when it is cleared.
func TestClearedOfOneThatWasAcked(t *testing.T) {
	b := admitted(t, plain(), with(1, 1, 1, 2))
	b.wait(2, 9)
	b.want("1 1 0 0, 3 4 0 0", 9, ack(1, 0))
	b.want("3 3 0 0, 9 1 2 5, 2 1 0 0, 1 1 2 0", 9, setLimit(1, 2, 6, 9, 1), b.text(11, sampleOf(2, 5)))
	b.wantAlarms(api.Alarm{Bed: 1, Kind: 2, Since: 4, On: true})
	b.want("3 4 0 0, 9 1 2 6, 2 1 2 0", 9, ack(1, 2), b.text(11, sampleOf(2, 6)))
	b.wantAlarms()
}

func TestLimits(t *testing.T) {
	b := admitted(t, plain(), with(1, 1, 1, 1000), with(2, 1, 1, 1000))
	b.want("3 3 0 0, 3 3 0 0", 9, setLimit(1, 1, 50, 90, 2), setLimit(1, 3, 10, 10, 1))
	for _, x := range []struct {
		sample api.Sample
		want   string
	}{
		{pulse(91), ""}, {pulse(49), "1 1 1 0"}, {pulse(999), ""}, {sampleOf(2, 70), ""}, {pulse(50), "2 1 1 0"}, {pulse(49), ""}, {pulse(90), ""}, {pulse(91), ""},
		{sampleOf(3, 10), ""}, {sampleOf(3, 11), "1 1 3 0"}, {pulse(0), "1 1 1 0"}, {sampleOf(3, 9), ""}, {sampleOf(3, 10), "2 1 3 0"}, {sampleOf(4, 0), ""}, {pulse(51), "2 1 1 0"}, {pulse(51), ""},
	} {
		want := told([]api.Event{{Kind: 9, A: 1, B: x.sample.Kind, C: x.sample.Value}})
		if x.want != "" {
			want += ", " + x.want
		}
		want += ", " + told([]api.Event{{Kind: 9, A: 2, B: x.sample.Kind, C: x.sample.Value}}) // a bed without limits
		b.want(want, 9, b.text(11, x.sample), b.text(12, x.sample))
	}
	b.wantAlarms(api.Alarm{Bed: 1, Kind: 1, Since: 12}, api.Alarm{Bed: 1, Kind: 3, Since: 11})
}

// Points of waves are no values: neither told, nor held against limits.
func TestPointsAreNoValues(t *testing.T) {
	b := admitted(t, plain(), with(1, 1, 1, 1000))
	for kind := 1; kind <= 4; kind++ {
		b.tick(9, setLimit(1, kind, 100, 100, 1))
	}
	b.want("", 9, b.text(11, point(0), point(255)))
	b.wantAlarms()
	b.wantWaits(1, 0, 2, 2)
}

// Step 9: Shed

// A tick is overloaded at just more than Budget times Ahead, and not at that.
func TestOverloadAtTheEdge(t *testing.T) {
	for _, ahead := range []int{1, 2, 3, 7, 100} {
		for _, budget := range []int{1, 2, 3, 10} {
			c := plain()
			c.Capacity, c.Ahead = 20, ahead
			left := budget * ahead
			if left+budget+1 > 100 {
				continue
			}
			b := admitted(t, c, with(1, 60, left+budget, 1000))
			b.want("", budget, b.text(11, pulse(1)))
			b.wantLeft(left, 0)
			b = admitted(t, c, with(1, 60, left+budget+1, 1000))
			b.want("11 1 1 0", budget, b.text(11, pulse(1)))
			b.wantLeft(left+1, 0)
		}
	}
}

// Units of both queues count, and nothing is left where Budgets are as they may not be.
func TestOverloadOfBothQueues(t *testing.T) {
	c := plain()
	c.Capacity, c.Ahead = 20, 1
	b := admitted(t, c, with(1, 60, 7, 1000))
	b.want("", 5, b.text(11, pulse(1), point(1), point(2), point(3)))
	b.wantLeft(2, 3)
	b = admitted(t, c, with(1, 60, 7, 1000))
	b.want("11 1 1 0", 5, b.text(11, pulse(1), point(1), point(2), point(3), point(4)))
	b.wantLeft(2, 4)
	b = admitted(t, c, with(1, 60, 8, 1000))
	b.want("11 1 1 0", 5, b.text(11, pulse(1), point(1), point(2), point(3)))
	for _, budget := range []int{0, -1, -5, math.MinInt, math.MinInt + 1, math.MinInt32, 1 << 62, 1 << 61, math.MaxInt, math.MaxInt/2 + 1} {
		for _, ahead := range []int{1, 2, 4, 100} {
			c.Ahead = ahead
			b := admitted(t, c, with(1, 60, 7, 1000))
			b.wait(3, budget)
			b.wantLevels(map[int]int{1: 0})
		}
	}
}

// The bed that was shed is told with its level; the last one in the order, until it is Off.
func TestShed(t *testing.T) {
	b := admitted(t, plain(), bedOf(1), bedOf(2))
	b.want("11 2 1 0", 0, b.text(11, point(1)))
	for _, want := range []string{"11 2 2 0", "11 2 3 0", "11 1 1 0", "11 1 2 0", "11 1 3 0", ""} {
		b.want(want, 0)
	}
	b.wantLevels(map[int]int{1: 3, 2: 3})
	b.wait(2, 9)
	b.wantLevels(map[int]int{1: 3, 2: 3})
	b.wait(1, 9) // the third calm one
	b.wantLevels(map[int]int{1: 0, 2: 0})
}

// Calm ticks that were broken off don't count.
func TestCalmTicksBehindOneAnother(t *testing.T) {
	for _, calm := range []int{1, 2, 5, 100, 450} {
		c := plain()
		c.Calm = calm
		b := begin(t, c)
		b.want("3 1 0 0, 11 1 1 0", 0, admit(bedOf(1)), b.greet(11), b.text(11, point(1)))
		b.wait(calm-1, 9)
		if calm > 1 {
			b.tick(0, b.text(11, point(1), point(2), point(3)))
			b.wantLevels(map[int]int{1: 2})
			b.wait(calm-1, 9)
			b.wantLevels(map[int]int{1: 2})
		}
		for b.s.Level(1) > 0 && b.s.Now() < 2*calm+5 {
			b.tick(9)
		}
		if want := 2*calm + 1; calm > 1 && b.s.Now() != want || calm == 1 && b.s.Now() != 2 {
			t.Errorf("calm %d: at %d", calm, b.s.Now())
		}
	}
}

// Without beds nothing is shed.
func TestShedWithoutBeds(t *testing.T) {
	b := begin(t, plain())
	b.wait(9, 0)
	b.want("6 11 0 0", 0, hello(11, 0, 0))
}

// A wave at each level: which points are looked at goes by the bed's level and their places, from 0 on.
func TestPointsByLevel(t *testing.T) {
	for level, want := range [4][]int{{0, 1, 2, 3, 4, 5, 6, 7, 8, 9, 10, 11, 12}, {0, 2, 4, 6, 8, 10, 12}, {0, 4, 8, 12}, {}} {
		c := plain()
		c.Calm = 1000
		b := admitted(t, c, bedOf(1), with(2, 60, 100, 1000))
		b.tick(0, b.text(12, pulse(1)))
		for b.s.Level(2) < 3 {
			b.tick(0)
		}
		for range level {
			b.tick(0)
		}
		b.wantLevels(map[int]int{1: level})
		b.tick(9) // gives the job up
		var got []int
		for i := range 13 {
			_, _, before := b.s.Waits(1)
			b.tick(9, b.text(11, point(i)))
			if _, points, looked := b.s.Waits(1); looked > before {
				got = append(got, points-1)
			}
		}
		if !slices.Equal(got, want) {
			t.Errorf("level %d: %v, not %v", level, got, want)
		}
	}
}
