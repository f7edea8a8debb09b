package ward

import (
	"bytes"
	"math"
	"slices"
	"testing"

	"gurney/api"
	"gurney/frame"
	"gurney/station"
)

// P19.1: a ward of one to four devices, of the transmitters from 0 on.
func TestNew(t *testing.T) {
	for devices := 1; devices <= 4; devices++ {
		w := New(plain(), devices)
		if w == nil || w.Station() == nil {
			t.Fatal(devices, "devices: nil")
		}
		wantLate(t, w, 0, 0)
		if w.Station().Now() != 0 || len(w.Station().Follows()) != 0 || len(w.Station().Beds()) != 0 {
			t.Error(devices, "devices: something was done")
		}
		for tx := range devices {
			l := w.Device(tx).Tick()
			if len(l) != 1 {
				t.Fatalf("device %d of %d: %d frames", tx, devices, len(l))
			}
			f, e := frame.Parse(l[0])
			if e != api.OK || f.Tx != tx || f.Kind != api.Hello {
				t.Errorf("device %d of %d: %v, %v", tx, devices, f, e)
			}
		}
		if w.Device(devices) != nil || w.Device(-1) != nil {
			t.Error(devices, "devices: one more")
		}
	}
}

// P19.1: the config is that of the station, its Link that of the devices too.
func TestNewHasItsConfig(t *testing.T) {
	c := plain()
	c.Roam.Room, c.Link.Code.N, c.Capacity = 1, 5, 1
	w := New(c, 2)
	two := bedOf(7, 0)
	two.Cost = 2
	if e := told(w.Do(and(taking(pulses(50), 6), admit(two), admit(bedOf(8, 0))))); e != "3 1 10 0, 3 1 0 0" {
		t.Error(e)
	}
	wantLate(t, w, 7, 0)
	if e := told(w.Do(fated(4))); e != "6 1 0 0, 9 8 1 50" {
		t.Error(e)
	}
}

// P19.1: none of a config that may not be, of a link that no device may have, or of another number of devices.
func TestNewIsNil(t *testing.T) {
	for _, n := range numbers {
		if w := New(plain(), n); (w != nil) != (n >= 1 && n <= 4) {
			t.Errorf("%d devices: %v", n, w)
		}
	}
	for i, turn := range []func(c *api.Conf){
		func(c *api.Conf) { c.Roam.Room = 0 },
		func(c *api.Conf) { c.Roam.Room = 9 },
		func(c *api.Conf) { c.Roam.Age = 0 },
		func(c *api.Conf) { c.Roam.Margin = 128 },
		func(c *api.Conf) { c.Link.Code.K = 0 },
		func(c *api.Conf) { c.Link.Code.N = 1 },
		func(c *api.Conf) { c.Link.Code.Size = 25 },
		func(c *api.Conf) { c.Link.Wait = 0 },
		func(c *api.Conf) { c.Link.Most = 10 },
		func(c *api.Conf) { c.Capacity = -1 },
		func(c *api.Conf) { c.Capacity = 10001 },
		func(c *api.Conf) { c.Calm = 0 },
		func(c *api.Conf) { c.Ahead = 101 },
		func(c *api.Conf) { *c = api.Conf{} },
	} {
		c := plain()
		turn(&c)
		for devices := 1; devices <= 4; devices++ {
			if New(c, devices) != nil {
				t.Errorf("config %d, %d devices: a ward", i, devices)
			}
		}
	}
	// A text of 3 bytes has no room for a sample, one of 4 has for one.
	c := plain()
	c.Link.Code = api.Code{K: 1, N: 1, Size: 3}
	if !station.May(c) || New(c, 1) != nil {
		t.Error("a ward whose devices send nothing")
	}
	c.Link.Code.Size = 4
	if New(c, 1) == nil {
		t.Error("no ward, though a sample has room")
	}
}

// P19.1, the first step: what begins anew does so ahead of its samples; of no such number none does.
func TestResetComesFirst(t *testing.T) {
	b := pair(t, plain(), 2)
	six := pulses(50, 51, 52, 53, 54, 55)
	b.want("3 1 0 0, 6 1 0 0, 9 7 1 50", and(taking(six), admit(bedOf(7, 0))))
	if k := b.w.Device(0).Kept(); k != 1 {
		t.Fatal("kept", k)
	}
	turn := taking(pulses(60))
	turn.Reset = 1
	b.want("6 1 0 0, 9 7 1 51", turn)
	if b.w.Device(0).Session() != 1 || b.w.Device(1).Session() != 0 {
		t.Error("it isn't the device 0 that began anew")
	}
	for _, v := range []string{"52", "53", "54", "60"} {
		b.want("6 1 0 0, 9 7 1 "+v, fated())
	}
	for _, n := range []int{0, -1, 3, 4, 256, 257, math.MinInt, math.MinInt + 1, math.MaxInt} {
		turn := fated()
		turn.Reset = n
		b.want("6 1 0 0", turn)
	}
	turn = fated()
	turn.Reset = 2
	b.want("6 1 0 0", turn)
	if b.w.Device(0).Session() != 1 || b.w.Device(1).Session() != 1 {
		t.Error("it isn't the device 1 that began anew")
	}
}

// P19.1, the second step: each device takes its samples, in order, and what it doesn't take is lost; so are lists beyond the devices.
func TestSamples(t *testing.T) {
	b := pair(t, plain(), 2)
	b.want("3 1 0 0, 3 1 0 0, 9 6 2 97, 9 7 1 61", api.Turn{
		Samples: [][]api.Sample{
			{{Kind: 1, Value: 61}, {Kind: 0, Value: 62}, {Kind: 6, Value: 62}, {Kind: 1, Value: 1000}, {Kind: 1, At: 256}, {Kind: 1, At: -1}, {Kind: 3, At: 255, Value: 63}},
			{{Kind: 2, Value: 97}},
			pulses(64),
			nil,
			pulses(65),
		},
		Cmds:   []api.Cmd{admit(bedOf(7, 0)), admit(bedOf(6, 1))},
		Budget: 4,
	})
	b.want("9 7 3 63", fated())
	b.want("", fated())
	many := make([]int, 70)
	for i := range many {
		many[i] = i
	}
	b.do(api.Turn{Samples: [][]api.Sample{nil, pulses(many...)}})
	if b.w.Device(0).Kept() != 0 || b.w.Device(1).Kept() != 55 {
		t.Error("kept", b.w.Device(0).Kept(), b.w.Device(1).Kept())
	}
	b.do(api.Turn{Samples: [][]api.Sample{nil, pulses(many...)}})
	if b.w.Device(1).Kept() != 55 {
		t.Error("kept", b.w.Device(1).Kept())
	}
}

// P19.1, the third step: what was late arrives ahead of all else, as the antenna of its own turn heard it; then the devices tick, in order.
func TestLateArrivesFirst(t *testing.T) {
	b := pair(t, plain(), 3)
	b.want("6 0 0 0, 6 2 0 0", fated(0, 6|2<<3|1<<5, 0))
	wantLate(t, b.w, 1, 0)
	b.want("6 1 0 0, 6 0 0 0, 5 5 0 0", fated(0, 7, 6))
	wantLate(t, b.w, 1, 0)
	wantFollows(t, b.w, api.Seen{Tx: 0, Rssi: 40, Last: 1}, api.Seen{Tx: 2, Rssi: 40}, api.Seen{Tx: 1, Ant: 2, Rssi: 48, Last: 1})
	b.want("6 2 0 0", fated(4))
	wantLate(t, b.w, 0, 0)
	b.want("", fated(6))
	wantLate(t, b.w, 3, 0)
	b.want("6 0 0 0, 6 1 0 0, 6 2 0 0", fated(6))
	wantLate(t, b.w, 3, 0)
	b.want("6 0 0 0, 6 1 0 0, 6 2 0 0, 6 0 0 0, 6 1 0 0, 6 2 0 0", fated())
	wantLate(t, b.w, 0, 0)
}

// P19.1, the first and the third step: what is late is of the session that it was sent in.
func TestLateStaysWhenADeviceBeginsAnew(t *testing.T) {
	b := pair(t, plain(), 1)
	b.want("3 1 0 0", and(taking(pulses(50), 6), admit(bedOf(7, 0))))
	wantLate(t, b.w, 4, 0)
	turn := taking(pulses(60))
	turn.Reset = 1
	// The group of the old session is put together of shards that are late, and goes with its collector, when the greeting behind them is heard.
	b.want("9 7 1 60", turn)
	b.want("", fated())
}

// P19.1, the fourth step: the station has the turn's commands and Budget, and what arrived; a turn is a tick.
func TestTheStationTicks(t *testing.T) {
	b := pair(t, plain(), 1)
	x := bedOf(7, 0)
	x.Period, x.Cost, x.Watch = 4, 3, 1
	limit := api.Cmd{Kind: 3, Limit: api.Limit{Bed: 7, Kind: 1, From: 60, To: 90, Count: 1}}
	turn := and(taking(pulses(50)), limit, admit(x), limit)
	turn.Budget = 2
	b.want("3 3 8 0, 3 1 0 0, 3 3 0 0", turn)
	if n, v := b.w.Station().Left(); n != 1 || v != 0 {
		t.Error("left", n, v)
	}
	turn.Cmds, turn.Samples, turn.Budget = nil, nil, 0
	b.want("11 7 1 0", turn)
	turn.Budget = -1
	b.want("1 7 0 0, 11 7 2 0", turn)
	turn.Budget = 1
	b.want("9 7 1 50, 2 7 0 0, 1 7 1 0", turn)
	b.want("3 5 0 0, 3 4 0 0, 3 4 8 0, 3 9 1 0", and(turn, api.Cmd{Kind: 5, A: 9}, api.Cmd{Kind: 4, A: 7, B: 1}, api.Cmd{Kind: 4, A: 7, B: 1}, api.Cmd{Kind: 9}))
	if b.w.Station().Now() != 5 {
		t.Error("now", b.w.Station().Now())
	}
}

// P19.1, the fifth step: an ack arrives behind the station's tick, so that the next tick knows of it; one that is late arrives in the next turn, behind the device's tick.
func TestAcksArrive(t *testing.T) {
	b := pair(t, plain(), 1)
	b.want("3 1 0 0, 9 7 1 50", and(taking(pulses(50)), admit(bedOf(7, 0))))
	if b.w.Device(0).Out() != 0 {
		t.Error("out, though it was acked")
	}
	b.want("", fated(6))
	wantLate(t, b.w, 0, 0) // it doesn't greet again

	b = pair(t, plain(), 1)
	b.want("3 1 0 0, 9 7 1 50", and(taking(pulses(50), 0, 0, 0, 0, 6), admit(bedOf(7, 0))))
	wantLate(t, b.w, 0, 1)
	if b.w.Device(0).Out() != 1 {
		t.Error("the ack isn't late")
	}
	b.want("", fated(6))
	wantLate(t, b.w, 1, 0) // it wasn't acked yet, and greeted
	if b.w.Device(0).Out() != 0 {
		t.Error("the late ack didn't arrive")
	}
	b.want("", fated(6))
	wantLate(t, b.w, 0, 1) // the late greeting was heard, and acked late
}

// P19.1, the fifth step: a late ack arrives ahead of those of the turn.
func TestLateAcksArriveFirst(t *testing.T) {
	b := pair(t, plain(), 1)
	b.want("3 1 0 0", and(taking(pulses(50), 0, 4, 4, 4, 0), admit(bedOf(7, 0))))
	b.want("", taking(pulses(51), 0, 4, 4, 6))
	wantLate(t, b.w, 0, 1) // the group 2 isn't there by this ack
	b.want("", taking(pulses(52), 4, 4, 4, 0, 0, 0, 0))
	wantLate(t, b.w, 0, 0) // it is by this one
	b.want("", fated(6))
	wantLate(t, b.w, 3, 0) // the group 1, which was sent two turns ahead
	b.want("", fated(6))
	wantLate(t, b.w, 3, 1) // the group 0 alone
}

// P19.1, the fifth step: acks have their fates in the order of the beds, and arrive at the devices of their transmitters.
func TestAcksHaveTheirDevices(t *testing.T) {
	for lost, want := range map[int][3]int{0: {0, 0, 1}, 1: {1, 0, 0}, 2: {0, 1, 0}, 3: {0, 0, 0}} {
		b := pair(t, plain(), 3)
		f := make([]byte, 16)
		f[12+lost] = 4
		b.do(api.Turn{
			Samples: [][]api.Sample{pulses(50), pulses(60), pulses(70)},
			Cmds:    []api.Cmd{admit(bedOf(1, 2)), admit(bedOf(9, 0)), admit(bedOf(4, 1))},
			Fates:   f,
		})
		if got := [3]int{b.w.Device(0).Out(), b.w.Device(1).Out(), b.w.Device(2).Out()}; got != want {
			t.Errorf("the ack %d lost: out %v, not %v", lost, got, want)
		}
	}
}

// P19.1: fates are used from the first one on in each turn, again and again, for the devices' bytes, and for acks behind them; none are 0.
func TestFatesGoRound(t *testing.T) {
	b := pair(t, plain(), 4)
	b.want("3 1 0 0, 6 1 0 0, 6 3 0 0", and(fated(0, 0, 4), admit(bedOf(7, 0)))) // 0 0 4 0, and 0 of the ack
	b.want("6 2 0 0", fated(4, 0))                                               // 4 0 4: the device 0 was acked
	b.want("6 1 0 0, 6 1 0 0, 6 2 0 0, 6 3 0 0", fated(5, 0, 0, 4))
	b.want("6 1 0 0, 6 1 0 0, 6 2 0 0, 6 3 0 0, 6 3 0 0", fated(5, 0))
	b.want("6 1 0 0, 6 2 0 0, 6 3 0 0", fated())
	b.want("6 1 0 0, 6 2 0 0, 6 3 0 0", api.Turn{Fates: []byte{}})
	b.want("6 2 0 0", fated(4, 0, 4, 0))

	// A greeting and three shards of each device have the fates 0 to 15, and two acks those behind them.
	turn := api.Turn{
		Samples: [][]api.Sample{pulses(50), pulses(51), pulses(52), pulses(53)},
		Cmds:    []api.Cmd{admit(bedOf(7, 0)), admit(bedOf(8, 1))},
		Fates:   slices.Repeat([]byte{0}, 17),
	}
	turn.Fates[16] = 6
	b = pair(t, plain(), 4)
	b.do(turn)
	wantLate(t, b.w, 0, 1)
	turn.Fates = turn.Fates[9:]
	b = pair(t, plain(), 4)
	b.do(turn)
	wantLate(t, b.w, 2, 0) // 7 and 15
	turn.Fates = turn.Fates[7:]
	b = pair(t, plain(), 4)
	b.do(turn)
	wantLate(t, b.w, 16, 0)
}

// seenBy is a transmitter 0 by the antenna and the strength that a fate tells.
func seenBy(fate, last int) api.Seen {
	return api.Seen{Tx: 0, Ant: fate / 8 % 4, Rssi: 40 + 8*(fate/32), Last: last}
}

// P19.1: what befalls a device's bytes, by each fate; the antenna and the strength are those of its upper bits.
func TestFatesToTheStation(t *testing.T) {
	for fate := range 256 {
		b := pair(t, plain(), 1)
		at := b.w
		switch fate % 8 {
		default:
			b.want("6 0 0 0", fated(byte(fate)))
			wantFollows(t, at, seenBy(fate, 0))
		case 4:
			b.want("", fated(byte(fate)))
			wantFollows(t, at)
		case 5:
			b.want("6 0 0 0, 6 0 0 0", fated(byte(fate)))
			wantFollows(t, at, seenBy(fate, 0))
		case 6:
			b.want("", fated(byte(fate)))
			wantFollows(t, at)
			wantLate(t, at, 1, 0)
			b.want("6 0 0 0", fated(4))
			wantFollows(t, at, seenBy(fate, 1))
		case 7:
			// A greeting has 12 bytes, 7 of which are the head and its sum.
			b.want(map[bool]string{true: "5 3 0 0", false: "5 5 0 0"}[fate%12 < 7], fated(byte(fate)))
			wantFollows(t, at)
		}
		wantLate(t, at, 0, 0)
		b.want("6 0 0 0", fated())
		b.want("6 0 0 0", fated())
	}
}

// P19.1: a shard of 19 bytes has another bit turned by the same fate.
func TestShardsAreTurned(t *testing.T) {
	for fate := 7; fate < 256; fate += 8 {
		b := pair(t, plain(), 1)
		e := "3 1 0 0, 5 5 0 0, 5 5 0 0"
		if fate%19 < 7 {
			e = "3 1 0 0, 5 3 0 0, 5 3 0 0"
		}
		b.want(e, and(taking(pulses(50), 0, byte(fate), byte(fate), 0, 0), admit(bedOf(7, 0))))
		b.want("", fated())
		b.want("9 7 1 50", fated())
	}
}

// P19.1: what befalls an ack, by each fate; its upper bits tell nothing.
func TestFatesToADevice(t *testing.T) {
	for fate := range 256 {
		b := pair(t, plain(), 1)
		b.want("3 1 0 0, 9 7 1 50", and(taking(pulses(50), 0, 0, 0, 0, byte(fate)), admit(bedOf(7, 0))))
		out, late := 0, 0
		switch fate % 8 {
		case 4, 7:
			out = 1
		case 6:
			out, late = 1, 1
		}
		if got := b.w.Device(0).Out(); got != out {
			t.Errorf("fate %d: out %d, not %d", fate, got, out)
		}
		wantLate(t, b.w, 0, late)
		b.want("", fated(4))
		wantLate(t, b.w, 0, 0)
		if got := b.w.Device(0).Out(); got != out-late {
			t.Errorf("fate %d: out %d in the next turn, not %d", fate, got, out-late)
		}
	}
}

// P19.1: what befalls bytes, byte for byte.
func TestBytes(t *testing.T) {
	for length := 1; length < 80; length++ {
		for fate := range 256 {
			b := make([]byte, length)
			for i := range b {
				b[i] = byte(i*37 + fate)
			}
			was := bytes.Clone(b)
			arrived, late := [][]byte{{1}}, [][]byte(nil)
			switch fate % 8 {
			case 0, 1, 2, 3:
				arrived = append(arrived, was)
			case 5:
				arrived = append(arrived, was, was)
			case 6:
				late = append(late, was)
			case 7:
				one := bytes.Clone(b)
				if i := fate % length; one[i]%2 == 0 {
					one[i]++
				} else {
					one[i]--
				}
				arrived = append(arrived, one)
			}
			p := begin([][]byte{{1}})
			p.send(b, byte(fate))
			if !slices.EqualFunc(p.arrived, arrived, bytes.Equal) || !slices.EqualFunc(p.late, late, bytes.Equal) || !bytes.Equal(b, was) {
				t.Fatalf("fate %d of %x: %x arrived, %x is late; it is %x", fate, was, p.arrived, p.late, b)
			}
		}
	}
}

// The way: nothing is appended over the room of what is late.
func TestLateKeepsItsRoom(t *testing.T) {
	late := make([][]byte, 3, 9)
	p := begin(late[:1])
	p.send([]byte{1}, 0)
	p.send([]byte{2}, 5)
	if len(p.arrived) != 4 || slices.ContainsFunc(late[:9], func(b []byte) bool { return b != nil }) {
		t.Errorf("%x, %x", p.arrived, late[:9])
	}
}

// P19.2: the station and the devices are as they are: whoever turns them, turns the ward.
func TestParts(t *testing.T) {
	w := New(plain(), 2)
	if w.Station() != w.Station() || w.Device(0) != w.Device(0) || w.Device(1) != w.Device(1) || w.Device(0) == w.Device(1) {
		t.Error("others each time")
	}
	w.Station().Tick(api.Input{Cmds: []api.Cmd{admit(bedOf(7, 1))}, Budget: 4})
	for _, x := range pulses(50, 51) {
		w.Device(1).Take(x)
	}
	w.Device(0).Reset()
	if e := told(w.Do(fated())); e != "6 0 0 0, 9 7 1 50" {
		t.Error(e)
	}
	if w.Station().Now() != 2 || w.Device(0).Session() != 1 {
		t.Error("now", w.Station().Now(), "session", w.Device(0).Session())
	}
	w.Device(1).Take(pulses(52)[0])
	w.Device(1).Tick() // goes nowhere
	if e := told(w.Do(fated())); e != "6 0 0 0, 9 7 1 51" {
		t.Error(e)
	}
	for _, n := range numbers {
		if (w.Device(n) != nil) != (n == 0 || n == 1) {
			t.Errorf("Device(%d)", n)
		}
	}
}

// P19.1: a bed whose transmitter is none of the devices is there, and nothing arrives of it.
func TestBedsOfOthers(t *testing.T) {
	w := New(plain(), 1)
	hello := frame.Put(api.Frame{Tx: 9, Kind: 3, Data: []byte{0}})
	w.Station().Tick(api.Input{Frames: [][]byte{hello}, Cmds: []api.Cmd{admit(bedOf(7, 9))}})
	for range 3 {
		if e := told(w.Do(fated(6))); e != "" && e != "6 0 0 0" {
			t.Error(e)
		}
		wantLate(t, w, 1, 0)
	}
}

// P19.2: how many are late, each way; for one tick.
func TestLate(t *testing.T) {
	b := pair(t, plain(), 2)
	two := [][]api.Sample{pulses(50), pulses(60)}
	b.want("3 1 0 0, 3 1 0 0", api.Turn{Samples: two, Cmds: []api.Cmd{admit(bedOf(7, 0)), admit(bedOf(8, 1))}, Budget: 4, Fates: []byte{6}})
	wantLate(t, b.w, 8, 0)
	b.want("9 7 1 50, 9 8 1 60", fated(6))
	wantLate(t, b.w, 2, 2)
	b.want("", fated(4))
	wantLate(t, b.w, 0, 0)
	if b.w.Device(0).Out() != 0 || b.w.Device(1).Out() != 0 {
		t.Error("late acks didn't arrive")
	}
	b.want("", fated(6))
	wantLate(t, b.w, 0, 0)
}

// P19.2: a nil ward.
func TestNilWard(t *testing.T) {
	var w *Ward
	turn := and(taking(pulses(50), 5), admit(bedOf(7, 0)))
	turn.Reset = 1
	if e := w.Do(turn); len(e) != 0 {
		t.Error(e)
	}
	if w.Station() != nil || w.Device(0) != nil || w.Device(-1) != nil {
		t.Error("something")
	}
	wantLate(t, w, 0, 0)
}

// The chapter's example, and the document's ten, as turns.
func TestExamples(t *testing.T) {
	w := New(plain(), 1)
	if e := told(w.Do(api.Turn{})); e != "6 0 0 0" {
		t.Error(e)
	}
	wantFollows(t, w, api.Seen{Rssi: 40})

	b := pair(t, plain(), 2)
	b.want("6 0 0 0, 6 1 0 0", fated())
	x := api.Bed{Id: 7, Tx: 0, Period: 2, Cost: 2, Watch: 5, Prio: 1}
	limit := api.Cmd{Kind: 3, Limit: api.Limit{Bed: 7, Kind: 1, From: 50, To: 90, Count: 1}}
	b.want("3 1 0 0, 3 3 0 0, 6 1 0 0, 9 7 1 95, 1 7 1 0", and(taking([]api.Sample{{Kind: 1, At: 1, Value: 95}}), admit(x), limit))
	if l := b.w.Station().Alarms(); !slices.Equal(l, []api.Alarm{{Bed: 7, Kind: 1, Since: 1, On: true}}) {
		t.Error(l)
	}
	b.want("3 4 0 0, 6 1 0 0", and(fated(), api.Cmd{Kind: 4, A: 7, B: 1}))
	b.want("", taking([]api.Sample{{Kind: 1, At: 3, Value: 80}}, 4))
	turn := fated()
	turn.Budget = 0
	b.want("6 1 0 0", turn)
	b.want("6 1 0 0, 11 7 1 0", turn)
	if n, v := b.w.Station().Left(); b.w.Station().Now() != 6 || len(b.w.Station().Alarms()) != 1 || len(b.w.Station().Follows()) != 2 || n != 2 || v != 0 {
		t.Error("left", n, v)
	}
	turn.Budget = 99999
	b.want("10 7 1 0, 6 1 0 0", turn)
}
