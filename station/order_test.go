package station

import (
	"slices"
	"testing"

	"gurney/api"
)

// P17.1: the ten steps in their order, each against the next one, and against others where it matters.

// One tick in which each step that tells something does.
func TestAllStepsInOneTick(t *testing.T) {
	c := plain()
	c.Roam.Age, c.Capacity, c.Ahead = 6, 4, 1
	b := admitted(t, c, with(1, 60, 4, 7), with(2, 60, 60, 1000), with(3, 60, 2, 1000))
	b.want("6 90 0 0", 4, hello(90, 0, 0), skip(12, 9), skip(13, 9))
	b.tick(0, b.text(12, pulse(1)))
	b.tick(0)
	for range 3 {
		b.tick(0, skip(11, 9), skip(12, 9), skip(13, 9))
	}
	b.tick(0, skip(11, 9))
	b.want("1 1 0 0, 3 5 0 0, 3 0 1 0, 4 90 0 0, 10 2 1 0, 5 2 0 0, 7 13 5 0, 6 70 0 0, 8 3 0 0, 9 1 1 5, 2 1 0 0, 11 1 1 0", 4,
		silence(5), api.Cmd{}, bad(nil, 2), heardBy(skip(13, 0), 5, 60), hello(70, 0, 0), b.text(11, pulse(5)), b.many(11, 7, point(1)))
	b.wantAcks(api.Frame{Tx: 11, Kind: 1, Data: []byte{2, 0}}, api.Frame{Tx: 13, Ant: 5, Kind: 1, Data: []byte{1, 0}})
}

// 1 and 2: what fell silent is told, and on the panel, ahead of commands.
func TestLookIsAheadOfCommands(t *testing.T) {
	b := begin(t, plain())
	b.want("3 1 0 0, 3 1 0 0", 9, admit(with(1, 2, 1, 2)), admit(with(2, 2, 1, 2)))
	b.wait(2, 9)
	b.want("1 1 0 0, 1 2 0 0, 3 4 0 0, 3 2 0 0, 3 4 8 0, 3 1 0 0", 9, ack(1, 0), discharge(2), ack(2, 0), admit(with(2, 2, 1, 2)))
	b.wantAlarms(api.Alarm{Bed: 1, Since: 3, On: true, Acked: true})
	b.wait(2, 9)
	b.want("1 2 0 0", 9) // it came at 3
}

// 2 and 3: commands are done ahead of forgetting.
func TestCommandsAreAheadOfForget(t *testing.T) {
	c := plain()
	c.Roam.Age = 3
	b := admitted(t, c, bedOf(1), bedOf(2))
	b.wait(3, 9)
	b.want("3 2 0 0, 3 1 0 0, 3 5 1 0, 4 11 0 0, 4 12 0 0", 9, discharge(1), admit(bedOf(3)), silence(-1))
}

// 2 and 4: jobs of a bed that is discharged aren't missed.
func TestCommandsAreAheadOfGiveUp(t *testing.T) {
	b := behind(t)
	b.want("3 2 0 0, 10 3 2 0, 10 5 1 0", 9, discharge(4))
	b = admitted(t, plain(), with(1, 2, 1, 1000), with(2, 2, 1, 1000))
	b.tick(0, b.text(11, pulse(1)), b.text(12, pulse(1)))
	b.tick(0)
	b.want("3 2 0 0, 10 2 1 0", 0, discharge(1))
}

// 2 and 5: frames are of the beds that there are behind the commands.
func TestCommandsAreAheadOfFrames(t *testing.T) {
	b := begin(t, plain())
	b.want("3 1 0 0, 9 1 1 5", 9, admit(bedOf(1)), b.greet(11), b.text(11, pulse(5)))
	b.wantAcks(api.Frame{Tx: 11, Kind: 1, Data: []byte{1, 0}})
	b.want("3 2 0 0, 6 11 0 0", 9, discharge(1), b.text(11, pulse(5)))
	b.wantAcks()
	x := bedOf(2)
	x.Tx = 11
	b.want("3 1 0 0", 9, admit(x), skip(11, 1)) // another bed's collector is none of this one's
	b.wantAcks()
}

// 2 and 8: a limit counts for values of its tick, and an alarm of the tick is there for the next one's commands.
func TestCommandsAreAheadOfWork(t *testing.T) {
	b := admitted(t, plain(), with(1, 1, 1, 1000))
	b.want("3 3 0 0, 3 4 8 0, 9 1 1 5, 1 1 1 0", 9, setLimit(1, 1, 9, 9, 1), ack(1, 1), b.text(11, pulse(5)))
	b.want("3 4 0 0", 9, ack(1, 1))
}

// 3 and 4
func TestForgetIsAheadOfGiveUp(t *testing.T) {
	c := plain()
	c.Roam.Age = 2
	b := admitted(t, c, with(1, 60, 9, 1000))
	b.tick(0, b.text(11, pulse(1)))
	b.tick(0)
	b.tick(0)
	b.want("4 11 0 0, 10 1 1 0", 9)
}

// 3 and 5: one that is forgotten comes anew: it neither moves, nor is its collector there.
func TestForgetIsAheadOfFrames(t *testing.T) {
	c := plain()
	c.Roam.Age, c.Roam.Room = 2, 1
	b := admitted(t, c, bedOf(1))
	b.wait(2, 9)
	b.want("4 11 0 0", 9, heardBy(skip(11, 0), 6, 127))
	b.wantAcks()
	if l := b.s.Follows(); !slices.Equal(l, []api.Seen{{Tx: 11, Ant: 6, Rssi: 127, Last: 3}}) {
		t.Errorf("%v", l)
	}
	b.wait(2, 9)
	b.want("4 11 0 0, 6 12 0 0, 6 11 0 0", 9, hello(12, 0, 0), hello(11, 0, 0)) // there is room for another one
}

// 4 and 5
func TestGiveUpIsAheadOfFrames(t *testing.T) {
	b := behind(t)
	b.want("10 3 2 0, 10 4 3 0, 10 5 1 0, 5 2 0 0, 6 77 0 0", 9, bad(nil, 2), hello(77, 0, 0))
}

// 4 and 6: points that come have the room of those that are late.
func TestGiveUpIsAheadOfParts(t *testing.T) {
	c := plain()
	c.Ahead = 100
	b := admitted(t, c, bedOf(1), bedOf(2))
	b.want("", 1, b.many(12, 28, point(2)), b.many(11, 12, point(1))) // all of the room
	b.wantLeft(0, 39)
	b.wait(7, 1)
	b.wantWaits(1, 0, 12, 8)
	b.want("", 3, b.many(11, 28, point(3))) // at 9
	b.wantWaits(1, 0, 40, 11)
	b.wantLeft(0, 25)
}

// 4 and 7: a bed's job that is late goes, and its next one is released, in the same tick.
func TestGiveUpIsAheadOfRelease(t *testing.T) {
	b := admitted(t, plain(), with(1, 3, 2, 1000))
	b.tick(0, b.text(11, pulse(1), sampleOf(2, 2)))
	b.tick(0)
	b.tick(0)
	b.want("10 1 1 0, 9 1 2 2", 3) // at 4
	b = admitted(t, plain(), with(1, 1, 2, 1000))
	b.want("11 1 1 0", 0, b.text(11, pulse(1), sampleOf(2, 2)))
	b.want("10 1 1 0, 9 1 2 2", 9) // what is released in that tick isn't given up
}

// 5 and 6: all frames come ahead of all parts, so that parts are in the groups' order.
func TestFramesAreAheadOfParts(t *testing.T) {
	b := admitted(t, plain(), with(1, 60, 1, 1000), with(2, 60, 1, 1000))
	b.want("5 2 0 0, 6 66 0 0, 8 1 0 0, 8 1 2 0, 8 2 0 0, 9 1 1 7", 9, skip(12, 0), skip(11, 2), bad(nil, 2), shard(11, 1, 0, textOf(b.m.c.Link.Code, pulse(7))), skip(11, 0), hello(66, 0, 0))
	b.want("", 9, skip(11, 3), hello(11, 9, 1)) // what the old collector had goes ahead of its parts
	b.wantAcks(api.Frame{Tx: 11, Kind: 1, Data: []byte{9, 0}})
}

// 5 and 10: acks go by the home and the collector behind all frames, and parts.
func TestFramesAreAheadOfAcks(t *testing.T) {
	b := admitted(t, plain(), bedOf(1))
	b.want("7 11 4 0, 8 1 0 0", 9, skip(11, 0), heardBy(skip(11, 2), 4, 60))
	b.wantAcks(api.Frame{Tx: 11, Ant: 4, Kind: 1, Data: []byte{1, 2}})
	b.want("8 1 1 0, 8 1 2 0", 9, skip(11, 1), hello(11, 9, 0))
	b.wantAcks(api.Frame{Tx: 11, Ant: 4, Kind: 1, Data: []byte{3, 0}})
	b.want("", 9, skip(11, 3), hello(11, 9, 1))
	b.wantAcks(api.Frame{Tx: 11, Ant: 4, Kind: 1, Data: []byte{9, 0}})
}

// 6 and 7: what comes is released in the same tick, and what is to be released takes room yet.
func TestPartsAreAheadOfRelease(t *testing.T) {
	b := admitted(t, plain(), with(1, 1, 1, 1000))
	b.want("12 1 0 0, 12 1 0 0, 12 1 0 0, 12 1 0 0, 9 1 1 7", 9, b.many(11, 28, pulse(7)))
	b.wantWaits(1, 23, 0, 0)
	b.want("12 1 0 0, 9 1 1 7", 9, b.text(11, pulse(8), pulse(9)))
	b.wantWaits(1, 23, 0, 0)
}

// 6 and 9: points are looked at by the level ahead of the tick's own shedding, and filling up.
func TestPartsAreAheadOfShed(t *testing.T) {
	c := plain()
	c.Calm = 1
	b := admitted(t, c, bedOf(1))
	b.tick(0, b.text(11, point(0), point(1), point(2)))
	b.wantLevels(map[int]int{1: 1})
	b.wantLeft(0, 3)
	b.tick(9, b.text(11, point(3), point(4), point(5))) // at Half: 4 alone
	b.wantLevels(map[int]int{1: 0})
	b.wantWaits(1, 0, 6, 4)
	b.tick(9, b.text(11, point(6), point(7)))
	b.wantWaits(1, 0, 8, 6)
}

// 7 and 8: what is released is done in the same tick, by its deadline.
func TestReleaseIsAheadOfWork(t *testing.T) {
	b := admitted(t, plain(), with(1, 60, 9, 1000), with(2, 2, 2, 1000))
	b.want("", 4, b.text(11, pulse(1)))
	b.want("9 2 1 2", 4, b.text(12, pulse(2)))
	b.wantLeft(3, 0)
	b.want("9 1 1 1", 4)
}

// 8 and 9: what was done in the tick is not left.
func TestWorkIsAheadOfShed(t *testing.T) {
	c := plain()
	c.Ahead, c.Capacity = 1, 100
	b := admitted(t, c, with(1, 1, 10, 1000))
	b.want("9 1 1 1", 11, b.text(11, pulse(1), point(1), point(2), point(3)))
	b.wantLeft(0, 2)
	b.wantLevels(map[int]int{1: 0})
	b.want("9 1 1 1, 11 1 1 0", 10, b.text(11, pulse(1), point(1), point(2), point(3), point(4), point(5), point(6)), b.text(11, point(7), point(8), point(9)))
}

// 1 and 8: a bed may be lost and found in one tick.
func TestLookIsAheadOfWork(t *testing.T) {
	b := admitted(t, plain(), with(1, 2, 1, 3))
	b.wait(3, 9)
	b.want("1 1 0 0, 9 1 1 5, 2 1 0 0", 9, b.text(11, pulse(5)))
	b.wantAlarms(api.Alarm{Bed: 1, Since: 4})
}
