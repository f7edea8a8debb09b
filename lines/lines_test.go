package lines

import (
	"fmt"
	"testing"

	"gurney/api"
)

// Of P20.1: a console has no ward at first.
func TestNew(t *testing.T) {
	c := New()
	if c == nil {
		t.Fatal("New() = nil")
	}
	talk(t, c, "status: error 11")
	if New() == c {
		t.Error("New() is the same console twice")
	}
}

// Of P20.1: a nil console tells what? of any line.
func TestNilConsole(t *testing.T) {
	var none *Console
	for _, line := range []string{"status", "open 2 4 3", "turn", "", "nothing", "fate", "bed 7", "alarms", "\x00"} {
		if got := none.Do(line); got != "what?" {
			t.Errorf("%q: %q", line, got)
		}
	}
}

// Of P20.1, open: which numbers of devices, which capacities and which calm ticks may be.
func TestOpen(t *testing.T) {
	for line, want := range map[string]string{
		"open 1 4 3": "ok", "open 2 4 3": "ok", "open 3 4 3": "ok", "open 4 4 3": "ok",
		"open 0 4 3": "error 1", "open 5 4 3": "error 1", "open 99999 4 3": "error 1",
		"open 1 0 3": "ok", "open 1 10000 3": "ok", "open 1 10001 3": "error 1", "open 1 99999 3": "error 1",
		"open 1 4 1": "ok", "open 1 4 1000": "ok", "open 1 4 0": "error 1", "open 1 4 1001": "error 1",
		"open 0 10001 0": "error 1", "open 99999 99999 99999": "error 1",
	} {
		c := New()
		if got := c.Do(line); got != want {
			t.Errorf("%s: %q, not %q", line, got, want)
		}
		status := "now 0 beds 0 alarms 0 follows 0 left 0 0"
		if want != "ok" {
			status = "error 11"
		}
		talk(t, c, "status: "+status)
	}
}

func TestOpenHasItsDevices(t *testing.T) {
	for devices, events := range []string{"", "6 0 0 0", "6 0 0 0, 6 1 0 0", "6 0 0 0, 6 1 0 0, 6 2 0 0", "6 0 0 0, 6 1 0 0, 6 2 0 0, 6 3 0 0"} {
		if devices > 0 {
			talk(t, opened(t, devices), "turn: "+events)
		}
	}
}

func TestOpenHasItsConfig(t *testing.T) {
	for _, n := range [][2]int{{4, 3}, {0, 1}, {10000, 1000}, {17, 5}} {
		if got, want := conf(n[0], n[1]), plain(n[0], n[1]); got != want {
			t.Errorf("conf%v = %v, not %v", n, got, want)
		}
	}
}

// The Budget is the Capacity, until it is another: a bed of the Cost 3 is done in one turn of a Capacity of 3, and in three of 1 of 60.
func TestOpenHasItsCapacity(t *testing.T) {
	c := New()
	talk(t, c, `
		open 1 3 5: ok
		admit 7 0 1 4 9 1: ok
		admit 7 0 1 3 9 1: ok
		take 0 1 60: ok
		turn: 3 1 10 0, 3 1 0 0, 9 7 1 60
		status: now 1 beds 1 alarms 0 follows 1 left 0 0
		open 1 1 5: ok
		admit 7 0 3 3 9 1: ok
		take 0 1 60: ok
		turn: 3 1 0 0
		status: now 1 beds 1 alarms 0 follows 1 left 2 0
		turn: none
		status: now 2 beds 1 alarms 0 follows 1 left 1 0
		turn: 9 7 1 60
		status: now 3 beds 1 alarms 0 follows 1 left 0 0`)
}

// Behind so many calm ticks a wave is full again.
func TestOpenHasItsCalm(t *testing.T) {
	for calm := 1; calm <= 4; calm++ {
		c := New()
		talk(t, c, fmt.Sprintf(`
			open 1 4 %d: ok
			admit 7 0 60 1 99 1: ok
			budget 0: ok
			take 0 5 10: ok
			turn: 3 1 0 0, 11 7 1 0
			bed 7: level 1 lost 0 waits 0 points 1 seen 0
			budget 4: ok`, calm))
		for range calm - 1 {
			talk(t, c, `
				turn: none
				bed 7: level 1 lost 0 waits 0 points 1 seen 1`)
		}
		talk(t, c, `
			turn: none
			bed 7: level 0 lost 0 waits 0 points 1 seen 1`)
	}
}

// Of P20.1, open with a ward that there is: a new one, and nothing stays for the next turn.
func TestOpenAgain(t *testing.T) {
	c := opened(t, 2)
	talk(t, c, `
		admit 7 0 2 2 5 1: ok
		turn: 3 1 0 0, 6 1 0 0
		admit 8 1 2 2 5 1: ok
		take 0 1 60: ok
		take 1 1 60: ok
		budget 0: ok
		fate 4: ok
		reset 1: ok
		open 2 5 3: ok
		status: now 0 beds 0 alarms 0 follows 0 left 0 0
		bed 7: error 8
		alarms: none`)
	if got := turnOf(c.next); got != turnOf(api.Turn{Budget: 5}) {
		t.Errorf("the next turn is %s", got)
	}
	talk(t, c, `
		turn: 6 0 0 0, 6 1 0 0
		turn: 6 0 0 0, 6 1 0 0
		admit 7 0 2 5 5 1: ok
		take 0 1 60: ok
		turn: 3 1 0 0, 6 1 0 0, 9 7 1 60
		open 1 4 3: ok
		take 1 1 60: error 8`)
}

// Of P20.1, open that is refused: all stays.
func TestOpenRefused(t *testing.T) {
	c := opened(t, 2)
	talk(t, c, `
		turn: 6 0 0 0, 6 1 0 0
		admit 7 0 2 4 5 1: ok
		limit 7 1 70 80 1: ok
		take 0 1 60: ok
		budget 3: ok
		fate 0 0 4: ok
		reset 1: ok`)
	w, next := c.ward, turnOf(c.next)
	for _, line := range []string{"open 0 4 3", "open 5 4 3", "open 2 10001 3", "open 2 4 0", "open 2 4 1001"} {
		talk(t, c, line+": error 1")
		if c.ward != w || turnOf(c.next) != next {
			t.Errorf("behind %s: %s, not %s", line, turnOf(c.next), next)
		}
	}
	talk(t, c, `
		open 2 4: what?
		status: now 1 beds 0 alarms 0 follows 2 left 0 0
		turn: 3 1 0 0, 3 3 0 0, 6 1 0 0
		status: now 2 beds 1 alarms 0 follows 2 left 1 0
		fate: ok
		turn: 6 1 0 0, 9 7 1 60, 1 7 1 0`)
}

// Of P20.1: lines but open, without a ward: error 11; what is no line is none there too.
func TestWithoutAWard(t *testing.T) {
	c := New()
	talk(t, c, `
		admit 7 0 2 2 5 1: error 11
		discharge 7: error 11
		ack 7 1: error 11
		silence 5: error 11
		limit 7 1 50 90 1: error 11
		take 0 1 72: error 11
		take 9 1 72: error 11
		budget 4: error 11
		fate: error 11
		fate 4: error 11
		reset 0: error 11
		reset 9: error 11
		turn: error 11
		status: error 11
		bed 7: error 11
		alarms: error 11
		nothing: what?
		turn 1: what?
		take 0 1: what?
		take 0 01 1: what?
		budget 100000: what?
		fate 256: what?
		bed: what?
		bed x: what?
		open 5 4 3: error 1
		open 1 4: what?
		status: error 11
		open 1 4 3: ok`)
	if got := turnOf(c.next); got != turnOf(api.Turn{Budget: 4}) {
		t.Errorf("the next turn is %s", got)
	}
	talk(t, c, "turn: 6 0 0 0")
}

// Of P20.1, the commands: each word in its place, in the order of the lines.
func TestCommands(t *testing.T) {
	c := opened(t, 1)
	talk(t, c, `
		admit 11 12 13 14 15 16: ok
		discharge 17: ok
		ack 18 19: ok
		silence 20: ok
		limit 21 22 23 24 25: ok
		discharge 99999: ok
		admit 0 0 0 0 0 0: ok`)
	want := []api.Cmd{
		{Kind: api.DoAdmit, Bed: api.Bed{Id: 11, Tx: 12, Period: 13, Cost: 14, Watch: 15, Prio: 16}},
		{Kind: api.DoDischarge, A: 17},
		{Kind: api.DoAck, A: 18, B: 19},
		{Kind: api.DoSilence, A: 20},
		{Kind: api.DoLimit, Limit: api.Limit{Bed: 21, Kind: 22, From: 23, To: 24, Count: 25}},
		{Kind: api.DoDischarge, A: 99999},
		{Kind: api.DoAdmit},
	}
	if got := fmt.Sprint(c.next.Cmds); got != fmt.Sprint(want) {
		t.Errorf("%s, not %v", got, want)
	}
	talk(t, c, "turn: 3 1 1 0, 3 2 8 0, 3 4 8 0, 3 5 0 0, 3 3 8 0, 3 2 8 0, 3 1 1 0, 6 0 0 0")
}

// What becomes of commands, a turn tells: ok isn't yet that a command may be.
func TestWhatBecomesOfCommands(t *testing.T) {
	talk(t, opened(t, 1), `
		admit 7 0 2 2 5 1: ok
		admit 7 0 2 2 5 1: ok
		admit 8 0 2 2 5 1: ok
		admit 8 1 1 4 5 1: ok
		admit 8 1 2 2 5 1: ok
		admit 9 2 2 0 5 1: ok
		discharge 9: ok
		discharge 8: ok
		silence 1000: ok
		silence 1001: ok
		limit 9 1 1 1 1: ok
		limit 7 5 1 1 1: ok
		ack 7 1: ok
		turn: 3 1 0 0, 3 1 9 0, 3 1 9 0, 3 1 10 0, 3 1 0 0, 3 1 1 0, 3 2 8 0, 3 2 0 0, 3 5 0 0, 3 5 1 0, 3 3 8 0, 3 3 1 0, 3 4 8 0
		status: now 1 beds 1 alarms 0 follows 1 left 0 0
		bed 7: level 0 lost 0 waits 0 points 0 seen 0
		bed 8: error 8`)
}

// silence: the panel is silent until then.
func TestSilence(t *testing.T) {
	c := opened(t, 1)
	talk(t, c, `
		admit 7 0 2 2 9 1: ok
		limit 7 1 50 90 1: ok
		take 0 1 95: ok
		turn: 3 1 0 0, 3 3 0 0, 9 7 1 95, 1 7 1 0`)
	if !c.ward.Station().Sounds() {
		t.Error("it doesn't sound")
	}
	talk(t, c, `
		silence 3: ok
		turn: 3 5 0 0`)
	for _, sounds := range []bool{false, false, true} {
		if c.ward.Station().Sounds() != sounds {
			t.Errorf("at %d: it isn't %t that it sounds", c.ward.Station().Now(), sounds)
		}
		c.Do("turn")
	}
}

// Of P20.1, take: of which device, of which kind and value, at the station's time.
func TestTake(t *testing.T) {
	c := opened(t, 3)
	talk(t, c, `
		turn: 6 0 0 0, 6 1 0 0, 6 2 0 0
		turn: 6 0 0 0, 6 1 0 0, 6 2 0 0
		take 2 1 60: ok
		take 0 2 97: ok
		take 2 5 255: ok
		take 2 9 99999: ok
		take 3 1 60: error 8
		take 4 1 60: error 8
		take 99999 1 60: error 8`)
	want := [][]api.Sample{
		{{Kind: 2, At: 2, Value: 97}},
		nil,
		{{Kind: 1, At: 2, Value: 60}, {Kind: 5, At: 2, Value: 255}, {Kind: 9, At: 2, Value: 99999}},
	}
	if got := fmt.Sprint(c.next.Samples); got != fmt.Sprint(want) {
		t.Errorf("%s, not %v", got, want)
	}
	talk(t, c, `
		admit 1 0 2 1 9 1: ok
		admit 2 1 2 1 9 1: ok
		admit 3 2 2 1 9 1: ok
		turn: 3 1 0 0, 3 1 0 0, 3 1 0 0, 9 1 2 97, 9 3 1 60
		bed 1: level 0 lost 0 waits 0 points 0 seen 0
		bed 2: level 0 lost 0 waits 0 points 0 seen 0
		bed 3: level 0 lost 0 waits 0 points 1 seen 1`)
	for devices := 1; devices <= 4; devices++ {
		c := opened(t, devices)
		for i := range 6 {
			want := "ok"
			if i >= devices {
				want = "error 8"
			}
			talk(t, c, fmt.Sprintf("take %d 1 60: %s\nreset %d: %s", i, want, i, want))
		}
	}
}

// take: the station's time modulo 256.
func TestTakeAt(t *testing.T) {
	c := opened(t, 1)
	talk(t, c, "admit 7 0 1 1 1000 1: ok")
	for now := range 600 {
		talk(t, c, fmt.Sprintf("take 0 1 %d: ok", now))
		if at := c.next.Samples[0][0].At; at != now%256 {
			t.Fatalf("at %d: %d", now, at)
		}
		events := fmt.Sprintf("9 7 1 %d", now)
		if now == 0 {
			events = "3 1 0 0, " + events
		}
		talk(t, c, "turn: "+events)
	}
}

// Of P20.1, budget: that of the next turns.
func TestBudget(t *testing.T) {
	talk(t, opened(t, 1), `
		admit 7 0 4 4 9 1: ok
		take 0 1 60: ok
		budget 99999: ok
		budget 3: ok
		turn: 3 1 0 0
		status: now 1 beds 1 alarms 0 follows 1 left 1 0
		budget 0: ok
		turn: 11 7 1 0
		turn: 11 7 2 0
		status: now 3 beds 1 alarms 0 follows 1 left 1 0
		budget 1: ok
		turn: 9 7 1 60
		budget 99999: ok
		turn: none`)
}

// Of P20.1, fate: those of the next turns, none, or up to 12, in order, again and again.
func TestFate(t *testing.T) {
	talk(t, opened(t, 2), `
		fate 4 0: ok
		turn: 6 1 0 0
		turn: 6 1 0 0
		fate 0 4: ok
		turn: 6 0 0 0
		fate 5: ok
		turn: 6 0 0 0, 6 0 0 0, 6 1 0 0, 6 1 0 0
		fate 6: ok
		turn: none
		fate 255 4: ok
		turn: 6 0 0 0, 6 1 0 0, 5 3 0 0
		fate 0 8: ok
		turn: 6 0 0 0, 6 1 0 0
		fate 8 48: ok
		turn: 6 0 0 0, 7 1 2 0, 6 1 0 0
		fate: ok
		turn: 6 0 0 0, 6 1 0 0
		fate 4 4 4 4 4 4 4 4 4 4 4 0: ok
		turn: none
		fate 4 4 4 4 4 4 4 4 4 4 4 4 0: what?
		fate 0 256: what?
		turn: none`)
	c := opened(t, 1)
	talk(t, c, "fate 0 1 2 3 252 253 254 255 128 127 9 10: ok")
	if got := fmt.Sprint(c.next.Fates); got != "[0 1 2 3 252 253 254 255 128 127 9 10]" {
		t.Error(got)
	}
}

// Of P20.1, reset: the device begins anew in the next turn, once; of several the last one that was told.
func TestReset(t *testing.T) {
	c := opened(t, 2)
	sessions := func(a, b int) {
		t.Helper()
		if x, y := c.ward.Device(0).Session(), c.ward.Device(1).Session(); x != a || y != b {
			t.Fatalf("sessions %d, %d, not %d, %d", x, y, a, b)
		}
	}
	talk(t, c, "reset 1: ok")
	sessions(0, 0)
	c.Do("turn")
	sessions(0, 1)
	c.Do("turn")
	sessions(0, 1)
	talk(t, c, `
		reset 0: ok
		reset 0: ok
		reset 2: error 8
		reset 99999: error 8`)
	c.Do("turn")
	sessions(1, 1)
	talk(t, c, `
		reset 0: ok
		reset 1: ok`)
	c.Do("turn")
	sessions(1, 2)
}

// reset: what the device kept goes.
func TestResetLetsGo(t *testing.T) {
	talk(t, opened(t, 1), `
		admit 7 0 2 2 20 1: ok
		turn: 3 1 0 0
		fate 4: ok
		take 0 1 60: ok
		turn: none
		fate: ok
		reset 0: ok
		take 0 1 61: ok
		turn: 9 7 1 61
		turn: none
		turn: none
		turn: none
		turn: none`)
}

// Of P20.1, turn: all but Budget and fates is used up then.
func TestWhatATurnUsesUp(t *testing.T) {
	c := opened(t, 2)
	talk(t, c, `
		admit 7 0 2 2 5 1: ok
		discharge 7: ok
		take 0 1 60: ok
		take 1 1 60: ok
		reset 1: ok
		budget 17: ok
		fate 0 1 2 3: ok
		turn: 3 1 0 0, 3 2 0 0, 6 0 0 0, 6 0 0 0, 6 0 0 0, 6 0 0 0, 6 1 0 0, 6 1 0 0, 6 1 0 0, 6 1 0 0`)
	if got := turnOf(c.next); got != turnOf(api.Turn{Budget: 17, Fates: []byte{0, 1, 2, 3}}) {
		t.Errorf("the next turn is %s", got)
	}
	talk(t, opened(t, 1), `
		admit 7 0 2 2 9 1: ok
		turn: 3 1 0 0
		take 0 1 60: ok
		silence 1: ok
		reset 0: ok
		turn: 3 5 0 0, 9 7 1 60
		turn: none
		turn: none
		take 0 1 61: ok
		turn: 9 7 1 61`)
}

// Of P20.1, turn: none; one event; several.
func TestTurn(t *testing.T) {
	talk(t, opened(t, 1), `
		turn: 6 0 0 0
		admit 7 0 2 2 9 1: ok
		turn: 3 1 0 0
		turn: none
		take 0 3 999: ok
		turn: 9 7 3 999
		discharge 7: ok
		admit 99 0 2 2 9 1: ok
		take 0 1 999: ok
		turn: 3 2 0 0, 3 1 0 0`)
}

// Of P20.1, status and bed: each number in its place.
func TestStatusAndBed(t *testing.T) {
	talk(t, opened(t, 2), `
		status: now 0 beds 0 alarms 0 follows 0 left 0 0
		bed 0: error 8
		turn: 6 0 0 0, 6 1 0 0
		status: now 1 beds 0 alarms 0 follows 2 left 0 0
		admit 0 0 6 4 3 1: ok
		admit 99 1 60 2 5 2: ok
		admit 98 2 60 2 4 3: ok
		limit 0 1 50 90 1: ok
		budget 2: ok
		take 0 1 40: ok
		take 0 1 41: ok
		take 0 1 42: ok
		take 0 5 42: ok
		take 1 5 1: ok
		take 1 5 2: ok
		turn: 3 1 0 0, 3 1 0 0, 3 1 0 0, 3 3 0 0, 11 0 1 0
		status: now 2 beds 3 alarms 0 follows 2 left 2 3
		bed 0: level 1 lost 0 waits 2 points 1 seen 0
		bed 99: level 0 lost 0 waits 0 points 2 seen 0
		bed 98: level 0 lost 0 waits 0 points 0 seen 0
		bed 1: error 8
		bed 97: error 8
		bed 99999: error 8
		turn: 9 0 1 40, 1 0 1 0
		status: now 3 beds 3 alarms 1 follows 2 left 0 3
		turn: none
		status: now 4 beds 3 alarms 1 follows 2 left 0 1
		bed 0: level 1 lost 0 waits 2 points 1 seen 1
		bed 99: level 0 lost 0 waits 0 points 2 seen 1
		turn: none
		turn: none
		status: now 6 beds 3 alarms 1 follows 2 left 0 0
		turn: 1 0 0 0, 1 98 0 0
		bed 0: level 0 lost 1 waits 2 points 1 seen 1
		bed 99: level 0 lost 0 waits 0 points 2 seen 2
		bed 98: level 0 lost 1 waits 0 points 0 seen 0
		status: now 7 beds 3 alarms 3 follows 2 left 0 0
		turn: 1 99 0 0
		bed 0: level 0 lost 1 waits 1 points 1 seen 1
		bed 99: level 0 lost 1 waits 0 points 2 seen 2
		status: now 8 beds 3 alarms 4 follows 2 left 2 0`)
}

// bed: a level of each kind.
func TestLevels(t *testing.T) {
	talk(t, opened(t, 1), `
		admit 7 0 60 1 99 1: ok
		budget 0: ok
		take 0 5 1: ok
		turn: 3 1 0 0, 11 7 1 0
		bed 7: level 1 lost 0 waits 0 points 1 seen 0
		turn: 11 7 2 0
		bed 7: level 2 lost 0 waits 0 points 1 seen 0
		turn: 11 7 3 0
		bed 7: level 3 lost 0 waits 0 points 1 seen 0
		turn: none
		bed 7: level 3 lost 0 waits 0 points 1 seen 0`)
}

// Of P20.1, alarms: in the panel's order; On and Acked.
func TestAlarms(t *testing.T) {
	talk(t, New(), `
		open 1 2 3: ok
		alarms: none
		admit 7 0 4 2 20 1: ok
		limit 7 1 50 90 1: ok
		limit 7 2 90 100 1: ok
		take 0 1 40: ok
		take 0 2 80: ok
		turn: 3 1 0 0, 3 3 0 0, 3 3 0 0, 9 7 1 40, 1 7 1 0
		alarms: 7 1 0 1 0
		turn: none
		turn: none
		turn: none
		turn: 9 7 2 80, 1 7 2 0
		alarms: 7 1 0 1 0, 7 2 4 1 0
		take 0 1 70: ok
		turn: none
		turn: none
		turn: none
		turn: 9 7 1 70, 2 7 1 0
		alarms: 7 1 0 0 0, 7 2 4 1 0
		ack 7 2: ok
		alarms: 7 1 0 0 0, 7 2 4 1 0
		turn: 3 4 0 0
		alarms: 7 1 0 0 0, 7 2 4 1 1
		ack 7 1: ok
		turn: 3 4 0 0
		alarms: 7 2 4 1 1
		discharge 7: ok
		turn: 3 2 0 0
		alarms: none`)
}

// A signal that is lost, and comes back.
func TestLost(t *testing.T) {
	talk(t, opened(t, 1), `
		admit 7 0 2 2 3 1: ok
		turn: 3 1 0 0
		turn: none
		turn: none
		turn: none
		bed 7: level 0 lost 0 waits 0 points 0 seen 0
		turn: 1 7 0 0
		bed 7: level 0 lost 1 waits 0 points 0 seen 0
		alarms: 7 0 4 1 0
		take 0 1 60: ok
		turn: 9 7 1 60, 2 7 0 0
		bed 7: level 0 lost 0 waits 0 points 0 seen 0
		alarms: 7 0 4 0 0
		ack 7 0: ok
		turn: 3 4 0 0
		alarms: none`)
}

// The chapter's example.
func TestExample(t *testing.T) {
	talk(t, New(), `
		open 2 4 3: ok
		admit 7 0 2 2 5 1: ok
		take 0 1 72: ok
		turn: 3 1 0 0, 6 1 0 0, 9 7 1 72`)
}

// The document's ten examples of the whole, from the beginning.
func TestTenExamples(t *testing.T) {
	c := New()
	for _, script := range []string{
		"status: error 11\nopen 5 4 3: error 1",
		"open 2 4 3: ok\nturn: 6 0 0 0, 6 1 0 0",
		"admit 7 0 2 2 5 1: ok\nlimit 7 1 50 90 1: ok\ntake 0 1 95: ok",
		"turn: 3 1 0 0, 3 3 0 0, 6 1 0 0, 9 7 1 95, 1 7 1 0",
		"alarms: 7 1 1 1 0\nbed 7: level 0 lost 0 waits 0 points 0 seen 0",
		"ack 7 1: ok\nturn: 3 4 0 0, 6 1 0 0\nalarms: 7 1 1 1 1",
		"fate 4: ok\ntake 0 1 80: ok\nturn: none",
		"fate: ok\nbudget 0: ok\nturn: 6 1 0 0",
		"turn: 6 1 0 0, 11 7 1 0\nstatus: now 6 beds 1 alarms 1 follows 2 left 2 0",
		"budget 99999: ok\nturn: 10 7 1 0, 6 1 0 0",
	} {
		talk(t, c, script)
	}
}
