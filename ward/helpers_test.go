package ward

import (
	"fmt"
	"math"
	"slices"
	"strconv"
	"strings"
	"testing"

	"gurney/api"
)

// numbers are any, at the edges of what a ward has, and such that low bits of them alone would do.
var numbers = []int{
	math.MinInt, math.MinInt + 1, -1 << 40, math.MinInt32, -1 << 32, -256, -5, -4, -3, -2, -1,
	0, 1, 2, 3, 4, 5, 6, 7, 8, 9, 10, 24, 25, 60, 61, 99, 100, 101, 127, 128, 255, 256, 257, 999, 1000, 1001,
	10000, 10001, 1<<16 + 1, 100000, 100001, math.MaxInt32, 1 << 32, 1<<32 + 1, 1 << 40, math.MaxInt - 1, math.MaxInt,
}

// plain is a config of texts for 5 samples, in 3 shards, two of which will do.
func plain() api.Conf {
	return api.Conf{
		Roam:     api.Roam{Room: 8, Age: 50, Margin: 5},
		Link:     api.Link{Code: api.Code{K: 2, N: 3, Size: 8}, Wait: 2, Most: 3},
		Capacity: 4, Calm: 3, Ahead: 2,
	}
}

// both is a ward and the model, to which the same is done; what they answer is held against each other.
type both struct {
	t *testing.T
	w *Ward
	m *model
}

func pair(t *testing.T, c api.Conf, devices int) *both {
	t.Helper()
	w := New(c, devices)
	if w == nil {
		t.Fatalf("New(%v, %d) = nil", c, devices)
	}
	b := &both{t: t, w: w, m: newModel(c, devices)}
	b.check()
	return b
}

// do is a turn.
func (b *both) do(t api.Turn) []api.Event {
	b.t.Helper()
	now := b.m.desk.now
	got, want := b.w.Do(t), b.m.do(t)
	if !slices.Equal(got, want) {
		b.t.Fatalf("turn %d: %s, not %s", now, told(got), told(want))
	}
	b.check()
	return got
}

// want is a turn, and asks for its events.
func (b *both) want(events string, t api.Turn) {
	b.t.Helper()
	now := b.m.desk.now
	if e := told(b.do(t)); e != events {
		b.t.Fatalf("turn %d: %q, not %q", now, e, events)
	}
}

// check holds all that the ward tells against the model.
func (b *both) check() {
	b.t.Helper()
	d := b.m.desk
	if a, z := b.w.Late(); a != len(b.m.in) || z != len(b.m.out) {
		b.t.Fatalf("ahead of turn %d: Late() = %d, %d, not %d, %d", d.now, a, z, len(b.m.in), len(b.m.out))
	}
	for i, p := range b.m.posts {
		x := b.w.Device(i)
		got := [4]int{x.Kept(), x.Out(), x.Lost(), x.Session()}
		if want := [4]int{len(p.kept), len(p.out), p.lost, p.session}; got != want {
			b.t.Fatalf("ahead of turn %d: device %d: kept, out, lost, session: %v, not %v", d.now, i, got, want)
		}
	}
	if got, want := stateOf(b.w), d.state(); got != want {
		b.t.Fatalf("ahead of turn %d: the station is %s, not %s", d.now, got, want)
	}
}

// stateOf is all that a ward's station tells of itself.
func stateOf(w *Ward) string {
	s := w.Station()
	n, v := s.Left()
	l := fmt.Sprint(s.Now(), s.Beds(), s.Alarms(), s.Sounds(), s.Follows(), n, v)
	for _, x := range s.Beds() {
		waits, points, looked := s.Waits(x.Id)
		l += fmt.Sprint("; ", x.Id, s.Lost(x.Id), s.Level(x.Id), waits, points, looked)
	}
	return l
}

func (m *desk) state() string {
	n, v := m.left()
	l := fmt.Sprint(m.now, m.list(), m.alarms(), m.sounds(), m.seen, n, v)
	for _, p := range m.beds {
		l += fmt.Sprint("; ", p.Id, p.lost, p.level, len(p.waits), p.points, p.looked)
	}
	return l
}

// told are events as numbers, a comma between two.
func told(events []api.Event) string {
	var l []string
	for _, e := range events {
		var words []string
		for _, n := range []int{e.Kind, e.A, e.B, e.C} {
			words = append(words, strconv.Itoa(n))
		}
		l = append(l, strings.Join(words, " "))
	}
	return strings.Join(l, ", ")
}

func wantLate(t *testing.T, w *Ward, in, out int) {
	t.Helper()
	if a, b := w.Late(); a != in || b != out {
		t.Fatalf("Late() = %d, %d, not %d, %d", a, b, in, out)
	}
}

func wantFollows(t *testing.T, w *Ward, want ...api.Seen) {
	t.Helper()
	if l := w.Station().Follows(); !slices.Equal(l, want) {
		t.Fatalf("follows %v, not %v", l, want)
	}
}

// Turns.

func fated(f ...byte) api.Turn { return api.Turn{Budget: 4, Fates: f} }

// taking is a turn in which the device 0 takes samples.
func taking(l []api.Sample, f ...byte) api.Turn {
	return api.Turn{Samples: [][]api.Sample{l}, Budget: 4, Fates: f}
}

// and is a turn of commands too.
func and(t api.Turn, l ...api.Cmd) api.Turn {
	t.Cmds = append(t.Cmds, l...)
	return t
}

func pulses(values ...int) []api.Sample {
	var l []api.Sample
	for _, v := range values {
		l = append(l, api.Sample{Kind: 1, Value: v})
	}
	return l
}

// bedOf is a bed of little load, whose transmitter is a device.
func bedOf(id, tx int) api.Bed {
	return api.Bed{Id: id, Tx: tx, Period: 1, Cost: 1, Watch: 1000, Prio: 1}
}

func admit(b api.Bed) api.Cmd { return api.Cmd{Kind: 1, Bed: b} }

func discharge(id int) api.Cmd { return api.Cmd{Kind: 2, A: id} }
