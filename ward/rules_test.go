package ward

import (
	"bytes"
	"fmt"
	"math/rand"
	"slices"
	"testing"

	"gurney/api"
)

// wild is any turn.
func wild(r *rand.Rand) api.Turn {
	n := func() int { return numbers[r.Intn(len(numbers))] }
	turn := api.Turn{Budget: n(), Reset: n(), Fates: make([]byte, r.Intn(20))}
	r.Read(turn.Fates)
	for range r.Intn(7) {
		var l []api.Sample
		for range r.Intn(80) {
			l = append(l, api.Sample{Kind: n(), At: n(), Value: n()})
		}
		turn.Samples = append(turn.Samples, l)
	}
	for range r.Intn(9) {
		turn.Cmds = append(turn.Cmds, api.Cmd{
			Kind: n(), A: n(), B: n(),
			Bed:   api.Bed{Id: n(), Tx: n(), Period: n(), Cost: n(), Watch: n(), Prio: n()},
			Limit: api.Limit{Bed: n(), Kind: n(), From: n(), To: n(), Count: n()},
		})
	}
	return turn
}

// Rule 1: any turns, any configs, any numbers; of a nil ward too. The answers are the model's.
func TestAnyArguments(t *testing.T) {
	t.Parallel()
	r := rand.New(rand.NewSource(1))
	n := func() int { return numbers[r.Intn(len(numbers))] }
	for range 20000 {
		c := api.Conf{
			Roam:     api.Roam{Room: n(), Age: n(), Margin: n()},
			Link:     api.Link{Code: api.Code{K: n(), N: n(), Size: n()}, Wait: n(), Most: n()},
			Capacity: n(), Calm: n(), Ahead: n(),
		}
		if w := New(c, n()); w != nil {
			w.Do(wild(r))
		}
	}
	var none *Ward
	for range 60 {
		b := pair(t, drawConf(r), 1+r.Intn(4))
		for range 40 {
			turn := wild(r)
			b.do(turn)
			if len(none.Do(turn)) != 0 || none.Device(turn.Reset) != nil {
				t.Fatal("a nil ward tells something")
			}
		}
	}
}

// The least and the greatest of configs that may be.
func TestEdgesOfConfigs(t *testing.T) {
	t.Parallel()
	for i, c := range []api.Conf{
		{Roam: api.Roam{Room: 1, Age: 1}, Link: api.Link{Code: api.Code{K: 1, N: 1, Size: 4}, Wait: 1, Most: 1}, Calm: 1, Ahead: 1},
		{Roam: api.Roam{Room: 8, Age: 1000, Margin: 127}, Link: api.Link{Code: api.Code{K: 6, N: 10, Size: 24}, Wait: 100, Most: 9}, Capacity: 10000, Calm: 1000, Ahead: 100},
		{Roam: api.Roam{Room: 8, Age: 1}, Link: api.Link{Code: api.Code{K: 6, N: 6, Size: 24}, Wait: 1, Most: 9}, Capacity: 10000, Calm: 1, Ahead: 100},
	} {
		for devices := 1; devices <= 4; devices++ {
			s := &script{r: rand.New(rand.NewSource(int64(i))), c: c, devices: devices, busy: 4, watch: 20}
			b := pair(t, c, devices)
			for range 150 {
				b.do(s.turn())
			}
		}
	}
}

// A device's groups and sessions go round.
func TestLongWays(t *testing.T) {
	t.Parallel()
	b := pair(t, plain(), 1)
	b.do(and(taking(pulses(0)), admit(bedOf(7, 0))))
	for i := 1; i < 700; i++ {
		b.want(fmt.Sprint("9 7 1 ", i), taking(pulses(i)))
	}
	for i := 1; i < 300; i++ {
		turn := taking(pulses(i))
		turn.Reset = 1
		b.want(fmt.Sprint("9 7 1 ", i), turn)
	}
	if b.w.Device(0).Session() != 299-256 {
		t.Error("session", b.w.Device(0).Session())
	}
}

// Rule 3: nil and empty lists are one.
func TestNilAndEmpty(t *testing.T) {
	for seed := range 20 {
		s := newScript(rand.New(rand.NewSource(int64(seed))))
		a, b := New(s.c, s.devices), New(s.c, s.devices)
		for range 60 {
			turn := s.turn()
			other := turn
			if len(turn.Fates) == 0 {
				turn.Fates, other.Fates = nil, []byte{}
			}
			if len(turn.Cmds) == 0 {
				turn.Cmds, other.Cmds = nil, []api.Cmd{}
			}
			if len(turn.Samples) == 0 {
				turn.Samples, other.Samples = nil, [][]api.Sample{}
			}
			other.Samples = slices.Clone(other.Samples)
			for i, l := range other.Samples {
				if len(l) == 0 {
					other.Samples[i] = []api.Sample{}
				}
			}
			if x, y := a.Do(turn), b.Do(other); !slices.Equal(x, y) || stateOf(a) != stateOf(b) {
				t.Fatalf("%s, not %s", told(y), told(x))
			}
		}
	}
}

// roomy is a list with room behind it that isn't its own.
func roomy[T any](l []T, x T) []T {
	all := slices.Concat(l, []T{x, x, x})
	return all[:len(l)]
}

// roomyTurn is a turn whose lists have room, in which something stands.
func roomyTurn(turn api.Turn) api.Turn {
	turn.Fates = roomy(turn.Fates, 5)
	turn.Cmds = roomy(turn.Cmds, admit(bedOf(3, 0)))
	turn.Samples = roomy(slices.Clone(turn.Samples), pulses(3))
	for i, l := range turn.Samples {
		turn.Samples[i] = roomy(l, api.Sample{Kind: 2, Value: 3})
	}
	return turn
}

// sameTurn holds turns' lists against each other, their room included.
func sameTurn(a, b api.Turn) bool {
	sameSamples := func(a, b []api.Sample) bool { return slices.Equal(a[:cap(a)], b[:cap(b)]) }
	return bytes.Equal(a.Fates[:cap(a.Fates)], b.Fates[:cap(b.Fates)]) &&
		slices.Equal(a.Cmds[:cap(a.Cmds)], b.Cmds[:cap(b.Cmds)]) &&
		slices.EqualFunc(a.Samples[:cap(a.Samples)], b.Samples[:cap(b.Samples)], sameSamples)
}

func spoil[T any](l []T, x T) {
	l = l[:cap(l)]
	for i := range l {
		l[i] = x
	}
}

func spoilTurn(turn api.Turn) {
	spoil(turn.Fates, 4)
	spoil(turn.Cmds, discharge(1))
	for _, l := range turn.Samples[:cap(turn.Samples)] {
		spoil(l, api.Sample{Kind: 4, Value: 4})
	}
	spoil(turn.Samples, nil)
}

// Rule 4: what is handed in is neither changed nor kept, and an answer is new memory, their room included.
func TestWhatIsHandedInAndAnswered(t *testing.T) {
	t.Parallel()
	for seed := range 60 {
		s := newScript(rand.New(rand.NewSource(int64(seed))))
		b := pair(t, s.c, s.devices)
		for range 60 {
			turn := s.turn()
			one, two := roomyTurn(turn), roomyTurn(turn)
			want := b.m.do(turn)
			got := b.w.Do(one)
			if !slices.Equal(got, want) {
				t.Fatalf("seed %d: %s, not %s", seed, told(got), told(want))
			}
			if !sameTurn(one, two) {
				t.Fatalf("seed %d: the turn is %v, not %v", seed, one, two)
			}
			spoilTurn(one)
			spoil(got, api.Event{Kind: 99, A: 99})
			b.check()
		}
	}
}

// Rule 4: what was answered stays as it was.
func TestAnswersStay(t *testing.T) {
	s := newScript(rand.New(rand.NewSource(3)))
	w := New(s.c, s.devices)
	var got, was [][]api.Event
	for range 200 {
		e := w.Do(s.turn())
		got, was = append(got, e[:cap(e)]), append(was, slices.Clone(e[:cap(e)]))
	}
	if !slices.EqualFunc(got, was, func(a, b []api.Event) bool { return slices.Equal(a, b) }) {
		t.Error("an answer was changed")
	}
}

// Rule 6: wards side by side turn nothing of each other; what asks turns nothing.
func TestSideBySide(t *testing.T) {
	t.Parallel()
	for seed := range 10 {
		var scripts []*script
		var wards []*both
		for i := range 4 {
			s := newScript(rand.New(rand.NewSource(int64(10*seed + i))))
			scripts, wards = append(scripts, s), append(wards, pair(t, s.c, s.devices))
		}
		for range 60 {
			for i, s := range scripts {
				wards[i].do(s.turn())
			}
			for _, b := range wards {
				b.check()
			}
		}
	}
}
