package panel

import (
	"math"
	"math/rand"
	"slices"
	"testing"

	"gurney/api"
)

// What is asked for is reckoned by the tests themselves: by a table of what comes of an alarm's states, and by going through the rules of the order one inside the other, with the document's numbers written out.

// States of an alarm.
const (
	gone    = iota // it isn't there
	fresh          // on, not acknowledged
	held           // on, acknowledged
	latched        // not on, not acknowledged
)

// Acts that an alarm is turned by.
const (
	raise = iota
	clearing
	ack
)

// becomes is an alarm's state behind an act, by the one ahead of it. An act turned something just if the state is another one.
var becomes = [4][3]int{
	gone:    {raise: fresh, clearing: gone, ack: gone},
	fresh:   {raise: fresh, clearing: latched, ack: held},
	held:    {raise: held, clearing: gone, ack: held},
	latched: {raise: fresh, clearing: latched, ack: gone},
}

// owner is what has at most one alarm.
type owner struct{ bed, kind int }

// entry is what is there of it.
type entry struct{ state, since int }

// sheet is a panel by its words.
type sheet struct {
	of    map[owner]entry
	until int
}

const end = 1 << 40 // the greatest time of the layers around this one

// numbers are any, at the edges of what a panel has, and such that low bits of them alone would do.
var numbers = []int{
	math.MinInt, math.MinInt + 1, -end - 1, -end, -1 << 32, math.MinInt32, -1000, -256, -255, -252, -41, -40, -5, -4, -3, -2, -1,
	0, 1, 2, 3, 4, 5, 6, 7, 8, 9, 39, 40, 41, 99, 100, 127, 128, 255, 256, 257, 260, 261, 1000, 1 << 16, 1<<16 + 1,
	math.MaxInt32, 1 << 31, 1 << 32, 1<<32 + 1, 1<<32 + 4, 1<<32 + 5, end - 1, end, end + 1, 1 << 62, math.MaxInt - 1, math.MaxInt,
}

// act does an act: whether it turned something.
func (s *sheet) act(what, bed, kind, now int) bool {
	if kind < 0 || kind > 4 {
		return false
	}
	o := owner{bed, kind}
	was := s.of[o]
	is := entry{becomes[was.state][what], was.since}
	if is.state == was.state || was.state == gone && len(s.of) == 40 {
		return false
	}
	if what == raise {
		is.since = now
	}
	if is.state == gone {
		delete(s.of, o)
	} else {
		s.of[o] = is
	}
	return true
}

func (s *sheet) drop(bed int) int {
	many := 0
	for kind := range 5 {
		if _, there := s.of[owner{bed, kind}]; there {
			delete(s.of, owner{bed, kind})
			many++
		}
	}
	return many
}

func (s *sheet) sounds(now int) bool {
	for _, e := range s.of {
		if e.state != held && now >= s.until {
			return true
		}
	}
	return false
}

// list goes through the rules one inside the other: acknowledged or not, the kind, and of these each time the one that is longest there, of the least bed.
func (s *sheet) list() []api.Alarm {
	var list []api.Alarm
	for _, acked := range []bool{false, true} {
		for kind := range 5 {
			list = append(list, s.column(acked, kind)...)
		}
	}
	return list
}

func (s *sheet) column(acked bool, kind int) []api.Alarm {
	rest := map[int]entry{}
	for o, e := range s.of {
		if o.kind == kind && (e.state == held) == acked {
			rest[o.bed] = e
		}
	}
	var column []api.Alarm
	for len(rest) > 0 {
		least, found := 0, false
		for bed, e := range rest {
			if !found || e.since < rest[least].since || e.since == rest[least].since && bed < least {
				least, found = bed, true
			}
		}
		e := rest[least]
		column = append(column, api.Alarm{Bed: least, Kind: kind, Since: e.since, On: e.state != latched, Acked: acked})
		delete(rest, least)
	}
	return column
}

// both is a panel and its sheet, to which the same is done; what they answer is held against each other.
type both struct {
	t *testing.T
	p *Panel
	s sheet
}

func begin(t *testing.T) *both {
	t.Helper()
	p := New()
	if p == nil {
		t.Fatal("New() = nil")
	}
	b := &both{t, p, sheet{of: map[owner]entry{}}}
	b.check()
	return b
}

// full is a panel with 40 alarms, those of the beds 1 to 8 of each kind, that were raised at 10, behind which so many in turn are on, acknowledged, latched.
func full(t *testing.T) *both {
	t.Helper()
	b := begin(t)
	for i := range 40 {
		b.must(raise, 1+i/5, i%5, 10)
		if i%3 > 0 {
			b.must([]int{1: ack, 2: clearing}[i%3], 1+i/5, i%5, 0)
		}
	}
	if l := b.p.List(); len(l) != 40 {
		t.Fatalf("%d alarms", len(l))
	}
	return b
}

func (b *both) check() {
	b.t.Helper()
	want := b.s.list()
	if l := b.p.List(); !slices.Equal(l, want) {
		b.t.Fatalf("List() = %v, not %v", l, want)
	}
	for _, now := range []int{math.MinInt, -1, 0, 1, b.s.until - 1, b.s.until, b.s.until + 1, end, math.MaxInt} {
		if sounds := b.p.Sounds(now); sounds != b.s.sounds(now) {
			b.t.Fatalf("Sounds(%d) = %v, silent until %d, of %v", now, sounds, b.s.until, want)
		}
	}
}

func (b *both) act(what, bed, kind, now int) bool {
	b.t.Helper()
	var turned bool
	switch what {
	case raise:
		turned = b.p.Raise(bed, kind, now)
	case clearing:
		turned = b.p.Clear(bed, kind)
	case ack:
		turned = b.p.Ack(bed, kind)
	}
	ahead := b.s.list()
	if want := b.s.act(what, bed, kind, now); turned != want {
		b.t.Fatalf("act %d of %d, %d at %d: %v, not %v, of %v", what, bed, kind, now, turned, want, ahead)
	}
	b.check()
	return turned
}

func (b *both) raise(bed, kind, now int) bool {
	b.t.Helper()
	return b.act(raise, bed, kind, now)
}

func (b *both) clear(bed, kind int) bool {
	b.t.Helper()
	return b.act(clearing, bed, kind, 0)
}

func (b *both) ack(bed, kind int) bool {
	b.t.Helper()
	return b.act(ack, bed, kind, 0)
}

func (b *both) must(what, bed, kind, now int) {
	b.t.Helper()
	if !b.act(what, bed, kind, now) {
		b.t.Fatalf("act %d of %d, %d turned nothing", what, bed, kind)
	}
}

func (b *both) drop(bed int) int {
	b.t.Helper()
	many, want := b.p.Drop(bed), b.s.drop(bed)
	if many != want {
		b.t.Fatalf("Drop(%d) = %d, not %d", bed, many, want)
	}
	b.check()
	return many
}

func (b *both) silence(until int) {
	b.t.Helper()
	b.p.Silence(until)
	b.s.until = until
	b.check()
}

func (b *both) want(want ...api.Alarm) {
	b.t.Helper()
	if l := b.p.List(); !slices.Equal(l, want) {
		b.t.Fatalf("List() = %v, not %v", l, want)
	}
}

// bring brings an alarm into a state, from its being raised at a time on.
func (b *both) bring(bed, kind, since, state int) {
	b.t.Helper()
	b.must(raise, bed, kind, since)
	switch state {
	case held:
		b.must(ack, bed, kind, 0)
	case latched:
		b.must(clearing, bed, kind, 0)
	}
}

// P16.1

func TestANewPanelHasNoAlarms(t *testing.T) {
	p := New()
	if p == nil || len(p.List()) != 0 {
		t.Fatal("New")
	}
	for _, n := range numbers {
		if p.Clear(n, 1) || p.Ack(n, 1) || p.Clear(1, n) || p.Ack(1, n) || p.Drop(n) != 0 || p.Sounds(n) || len(p.List()) != 0 {
			t.Errorf("of %d", n)
		}
	}
}

func TestNewPanelsShareNothing(t *testing.T) {
	a, b := begin(t), begin(t)
	a.must(raise, 7, 1, 5)
	b.want()
	b.must(raise, 7, 1, 9)
	a.must(ack, 7, 1, 0)
	a.silence(20)
	b.check()
	b.must(clearing, 7, 1, 0)
	a.want(api.Alarm{Bed: 7, Kind: 1, Since: 5, On: true, Acked: true})
	b.want(api.Alarm{Bed: 7, Kind: 1, Since: 9})
	a.drop(7)
	b.want(api.Alarm{Bed: 7, Kind: 1, Since: 9})
}

func TestRaiseOfOneThatIsntThere(t *testing.T) {
	for kind := range 5 {
		for _, bed := range numbers {
			for _, now := range numbers {
				p := New()
				if !p.Raise(bed, kind, now) {
					t.Errorf("Raise(%d, %d, %d)", bed, kind, now)
				}
				if l := p.List(); !slices.Equal(l, []api.Alarm{{Bed: bed, Kind: kind, Since: now, On: true}}) {
					t.Errorf("Raise(%d, %d, %d): %v", bed, kind, now, l)
				}
			}
		}
	}
}

func TestRaiseOfMany(t *testing.T) {
	b := begin(t)
	for i := range 40 {
		b.must(raise, 1+i*3%8, i%5, 100-i)
		if l := b.p.List(); len(l) != i+1 {
			t.Fatalf("%d alarms of %d", len(l), i+1)
		}
	}
}

func TestRaiseOfOneThatIsOn(t *testing.T) {
	for _, state := range []int{fresh, held} {
		for _, now := range numbers {
			b := begin(t)
			b.bring(7, 1, 5, state)
			if b.raise(7, 1, now) {
				t.Errorf("state %d, at %d", state, now)
			}
			b.want(api.Alarm{Bed: 7, Kind: 1, Since: 5, On: true, Acked: state == held})
		}
	}
}

// Since is the new time, be it later, earlier or the same.
func TestRaiseOfOneThatIsLatched(t *testing.T) {
	for _, now := range numbers {
		b := begin(t)
		b.must(raise, 6, 1, 3)
		b.bring(7, 1, 5, latched)
		b.want(api.Alarm{Bed: 6, Kind: 1, Since: 3, On: true}, api.Alarm{Bed: 7, Kind: 1, Since: 5})
		if !b.raise(7, 1, now) {
			t.Errorf("at %d", now)
		}
		if l := b.p.List(); len(l) != 2 || !slices.Contains(l, api.Alarm{Bed: 7, Kind: 1, Since: now, On: true}) {
			t.Errorf("at %d: %v", now, l)
		}
		if b.raise(7, 1, now) { // on again
			t.Errorf("at %d, twice", now)
		}
	}
}

func TestRaiseOfNoKind(t *testing.T) {
	some, all := begin(t), full(t)
	some.must(raise, 7, 0, 1)
	some.bring(7, 4, 1, latched)
	for _, kind := range numbers {
		if kind >= 0 && kind <= 4 {
			continue
		}
		for _, bed := range []int{-1, 0, 1, 7, 9} {
			if some.raise(bed, kind, 5) || all.raise(bed, kind, 5) {
				t.Errorf("of %d, %d", bed, kind)
			}
			if some.clear(bed, kind) || some.ack(bed, kind) || all.clear(bed, kind) || all.ack(bed, kind) {
				t.Errorf("of %d, %d: there", bed, kind)
			}
		}
	}
	some.want(api.Alarm{Bed: 7, Kind: 0, Since: 1, On: true}, api.Alarm{Bed: 7, Kind: 4, Since: 1})
}

func TestRaiseWhenThereAre40(t *testing.T) {
	b := full(t)
	ahead := b.p.List()
	for kind := range 5 {
		for _, bed := range []int{math.MinInt, -1, 0, 9, 1 << 32, 1<<32 + 1, math.MaxInt} {
			if b.raise(bed, kind, 20) {
				t.Errorf("a new one of %d, %d", bed, kind)
			}
		}
	}
	b.want(ahead...)
	for i := range 40 { // just those that are latched are raised, in their places
		if turned := b.raise(1+i/5, i%5, 20); turned != (i%3 == 2) {
			t.Errorf("one that is there, %d: %v", i, turned)
		}
	}
	if l := b.p.List(); len(l) != 40 {
		t.Errorf("%d alarms", len(l))
	}
}

func TestThereIsRoomBehindOneThatWent(t *testing.T) {
	leave := map[string]func(*both){
		"acked, then cleared": func(b *both) { b.must(clearing, 1, 1, 0) },
		"cleared, then acked": func(b *both) { b.must(ack, 1, 2, 0) },
		"both acts": func(b *both) {
			b.must(ack, 1, 0, 0)
			b.must(clearing, 1, 0, 0)
		},
	}
	for name, goes := range leave {
		b := full(t)
		goes(b)
		if l := b.p.List(); len(l) != 39 {
			t.Errorf("%s: %d alarms", name, len(l))
		}
		if !b.raise(9, 1, 20) || b.raise(9, 2, 20) {
			t.Errorf("%s: no room for just one", name)
		}
	}
	b := full(t)
	b.drop(3)
	for kind := range 5 {
		b.must(raise, 9, kind, 20)
	}
	if b.raise(10, 0, 20) {
		t.Error("no room for just five")
	}
}

func TestClear(t *testing.T) {
	b := begin(t)
	b.must(raise, 7, 1, 5)
	if !b.clear(7, 1) {
		t.Error("of one that is on")
	}
	b.want(api.Alarm{Bed: 7, Kind: 1, Since: 5}) // latched
	if b.clear(7, 1) {
		t.Error("of one that isn't on")
	}
	b.want(api.Alarm{Bed: 7, Kind: 1, Since: 5})

	b = begin(t)
	b.bring(7, 1, 5, held)
	if !b.clear(7, 1) {
		t.Error("of one that is on and acknowledged")
	}
	b.want()
	if b.clear(7, 1) {
		t.Error("of one that went")
	}
}

func TestAck(t *testing.T) {
	b := begin(t)
	b.must(raise, 7, 1, 5)
	if !b.ack(7, 1) {
		t.Error("of one that isn't acknowledged")
	}
	b.want(api.Alarm{Bed: 7, Kind: 1, Since: 5, On: true, Acked: true})
	if b.ack(7, 1) {
		t.Error("of one that is acknowledged")
	}
	b.want(api.Alarm{Bed: 7, Kind: 1, Since: 5, On: true, Acked: true})

	b = begin(t)
	b.bring(7, 1, 5, latched)
	if !b.ack(7, 1) {
		t.Error("of one that isn't on")
	}
	b.want()
	if b.ack(7, 1) {
		t.Error("of one that went")
	}
}

// One of another bed or another kind isn't the one that is meant, whatever is there.
func TestClearAndAckOfOneThatIsntThere(t *testing.T) {
	for _, state := range []int{fresh, held, latched} {
		b := begin(t)
		b.bring(3, 2, 5, state)
		b.bring(2, 1, 5, state)
		ahead := b.p.List()
		for _, n := range numbers {
			for kind := -1; kind <= 5; kind++ {
				if n == 3 && kind == 2 || n == 2 && kind == 1 {
					continue
				}
				if b.clear(n, kind) || b.ack(n, kind) {
					t.Errorf("state %d: of %d, %d", state, n, kind)
				}
			}
			if n != 2 && (b.clear(3, n) || b.ack(3, n)) || n != 1 && (b.clear(2, n) || b.ack(2, n)) {
				t.Errorf("state %d: of the kind %d", state, n)
			}
		}
		b.want(ahead...)
	}
}

// What is done to one of 40 turns that one alone.
func TestActsTurnOneAlone(t *testing.T) {
	for what := range 3 {
		for i := range 40 {
			b := full(t)
			ahead := b.p.List()
			b.act(what, 1+i/5, i%5, 20)
			for _, a := range ahead {
				if (a.Bed != 1+i/5 || a.Kind != i%5) && !slices.Contains(b.p.List(), a) {
					t.Errorf("act %d of %d: %v is another one, or went", what, i, a)
				}
			}
		}
	}
}

func TestDrop(t *testing.T) {
	for bed := range 10 {
		b := full(t)
		var stay []api.Alarm
		for _, a := range b.p.List() {
			if a.Bed != bed {
				stay = append(stay, a)
			}
		}
		if many := b.drop(bed); many != 40-len(stay) {
			t.Errorf("Drop(%d) = %d", bed, many)
		}
		b.want(stay...)
		if many := b.drop(bed); many != 0 {
			t.Errorf("Drop(%d) = %d, twice", bed, many)
		}
		b.want(stay...)
	}
}

func TestDropOfEachState(t *testing.T) {
	for n := range 4 * 4 * 4 * 4 * 4 {
		b := begin(t)
		b.must(raise, 6, 3, 4)
		want := 0
		for kind := range 5 {
			state := n >> (2 * kind) & 3
			if state != gone {
				b.bring(7, kind, kind*3%4, state)
				want++
			}
		}
		b.bring(8, 3, 4, held)
		if many := b.drop(7); many != want {
			t.Errorf("%d, not %d", many, want)
		}
		b.want(api.Alarm{Bed: 6, Kind: 3, Since: 4, On: true}, api.Alarm{Bed: 8, Kind: 3, Since: 4, On: true, Acked: true})
	}
}

func TestDropOfABedThatHasNone(t *testing.T) {
	b := full(t)
	ahead := b.p.List()
	for _, bed := range numbers {
		if bed >= 1 && bed <= 8 {
			continue
		}
		if many := b.drop(bed); many != 0 {
			t.Errorf("Drop(%d) = %d", bed, many)
		}
	}
	b.want(ahead...)
}

// Of what was dropped nothing is left: one that is raised behind it is a new one.
func TestRaiseOfOneThatWasDropped(t *testing.T) {
	for _, state := range []int{fresh, held, latched} {
		b := begin(t)
		b.bring(7, 1, 5, state)
		b.drop(7)
		if b.clear(7, 1) || b.ack(7, 1) || !b.raise(7, 1, 9) {
			t.Errorf("state %d", state)
		}
		b.want(api.Alarm{Bed: 7, Kind: 1, Since: 9, On: true})
	}
}

// Of one alarm: each row of acts.
func TestEachRowOfActs(t *testing.T) {
	for n := range 4 * 4 * 4 * 4 * 4 * 4 * 4 {
		b := begin(t)
		for at := range 7 {
			if what := n >> (2 * at) & 3; what < 3 {
				b.act(what, 7, 1, at)
			} else {
				b.drop(7)
			}
		}
	}
}

// Of two that differ in one of bed and kind: each row of acts.
func TestEachRowOfActsOfTwo(t *testing.T) {
	for _, other := range []owner{{7, 2}, {8, 1}, {6, 0}} {
		for n := range 8 * 8 * 8 * 8 {
			b := begin(t)
			for at := range 4 {
				draw := n >> (3 * at) & 7
				o := []owner{{7, 1}, other}[draw&1]
				if what := draw >> 1; what < 3 {
					b.act(what, o.bed, o.kind, 9-at)
				} else {
					b.drop(o.bed)
				}
			}
		}
	}
}

// P16.2

// pair raises two alarms, the first of which is wanted ahead, in both orders.
func pair(t *testing.T, ahead, behind api.Alarm) {
	t.Helper()
	for _, l := range [][]api.Alarm{{ahead, behind}, {behind, ahead}} {
		p := New()
		for _, a := range l {
			p.Raise(a.Bed, a.Kind, a.Since)
			if a.Acked {
				p.Ack(a.Bed, a.Kind)
			}
			if !a.On {
				p.Clear(a.Bed, a.Kind)
			}
		}
		if got := p.List(); !slices.Equal(got, []api.Alarm{ahead, behind}) {
			t.Errorf("List() = %v, not %v, %v", got, ahead, behind)
		}
	}
}

// Each rule where all behind it tell no difference (as far as two of one bed and kind may not be).
func TestEachRuleAlone(t *testing.T) {
	on := api.Alarm{Bed: 7, Kind: 2, Since: 5, On: true}
	acked, kind, since, bed := on, on, on, on
	acked.Bed, acked.Acked = 8, true
	pair(t, on, acked)
	acked.Bed, acked.Kind = 7, 3
	pair(t, on, acked)
	kind.Kind = 3
	pair(t, on, kind)
	since.Bed, since.Since = 8, 6
	pair(t, on, since)
	bed.Bed = 8
	pair(t, on, bed)
}

// Each rule where all behind it tell the contrary.
func TestEachRuleAgainstTheNextOnes(t *testing.T) {
	alarm := func(acked bool, kind, since, bed int) api.Alarm {
		return api.Alarm{Bed: bed, Kind: kind, Since: since, On: true, Acked: acked}
	}
	pair(t, alarm(false, 4, 9, 9), alarm(true, 0, 0, 0))
	pair(t, alarm(false, 4, 5, 7), alarm(true, 0, 5, 7))
	pair(t, alarm(false, 2, 9, 6), alarm(true, 2, 0, 7))
	pair(t, alarm(false, 2, 5, 8), alarm(true, 2, 5, 7))
	for _, acked := range []bool{false, true} {
		for kind := range 4 {
			pair(t, alarm(acked, kind, 9, 9), alarm(acked, kind+1, 0, 0))
			pair(t, alarm(acked, kind, 9, 7), alarm(acked, kind+1, 0, 7))
			pair(t, alarm(acked, kind, 5, 9), alarm(acked, kind+1, 5, 0))
		}
		for kind := range 5 {
			pair(t, alarm(acked, kind, 4, 9), alarm(acked, kind, 5, 0))
			pair(t, alarm(acked, kind, 4, 0), alarm(acked, kind, 4, 9))
		}
	}
}

// Whether one is on doesn't matter to the order.
func TestOneThatIsLatchedStandsAsIfOn(t *testing.T) {
	for _, on := range []bool{false, true} {
		pair(t, api.Alarm{Bed: 7, Kind: 1, Since: 5, On: on}, api.Alarm{Bed: 8, Kind: 1, Since: 5, On: !on})
		pair(t, api.Alarm{Bed: 8, Kind: 1, Since: 4, On: on}, api.Alarm{Bed: 7, Kind: 1, Since: 5, On: !on})
		pair(t, api.Alarm{Bed: 8, Kind: 1, Since: 6, On: on}, api.Alarm{Bed: 7, Kind: 2, Since: 5, On: !on})
		pair(t, api.Alarm{Bed: 8, Kind: 4, Since: 6, On: on}, api.Alarm{Bed: 7, Kind: 0, Since: 5, On: true, Acked: true})
	}
}

// Times and beds of any numbers don't wrap round.
func TestOrderOfAnyNumbers(t *testing.T) {
	if !slices.IsSorted(numbers) {
		t.Fatal("numbers")
	}
	for i, less := range numbers {
		for _, more := range numbers[i+1:] {
			pair(t, api.Alarm{Bed: 8, Since: less, On: true}, api.Alarm{Bed: 7, Since: more, On: true})
			pair(t, api.Alarm{Bed: less, Since: 5, On: true}, api.Alarm{Bed: more, Since: 5, On: true})
		}
	}
}

// Each two of a small ward.
func TestOrderOfEachTwo(t *testing.T) {
	var all []api.Alarm
	for n := range 3 * 3 * 3 * 3 {
		state := n / 27
		all = append(all, api.Alarm{Bed: n % 3, Kind: n / 3 % 3, Since: n / 9 % 3, On: state != 2, Acked: state == 1})
	}
	for _, x := range all {
		for _, y := range all {
			if x.Bed == y.Bed && x.Kind == y.Kind {
				continue
			}
			b := begin(t)
			for _, a := range []api.Alarm{x, y} {
				state := fresh
				if a.Acked {
					state = held
				} else if !a.On {
					state = latched
				}
				b.bring(a.Bed, a.Kind, a.Since, state)
			}
		}
	}
}

// As many as there may be, raised in whichever order, are shown in the same one.
func TestOrderOfMany(t *testing.T) {
	r := rand.New(rand.NewSource(1))
	want := full(t).p.List()
	for range 50 {
		b := begin(t)
		for _, i := range r.Perm(40) {
			b.bring(1+i/5, i%5, 10, []int{fresh, held, latched}[i%3])
		}
		b.want(want...)
	}
}

// An act may turn where one stands.
func TestOrderBehindActs(t *testing.T) {
	b := begin(t)
	beds := func(want ...int) {
		t.Helper()
		var got []int
		for _, a := range b.p.List() {
			got = append(got, a.Bed)
		}
		if !slices.Equal(got, want) {
			t.Errorf("%v, not %v", got, want)
		}
	}
	b.must(raise, 5, 1, 0)
	b.must(raise, 3, 1, 0)
	b.must(raise, 4, 0, 8)
	b.must(raise, 9, 2, 0)
	beds(4, 3, 5, 9)
	b.must(ack, 4, 0, 0)
	beds(3, 5, 9, 4)
	b.must(ack, 3, 1, 0)
	beds(5, 9, 4, 3)
	b.must(clearing, 5, 1, 0)
	beds(5, 9, 4, 3)
	b.must(raise, 8, 1, 2)
	beds(5, 8, 9, 4, 3)
	b.must(raise, 5, 1, 3)
	beds(8, 5, 9, 4, 3)
	b.must(clearing, 4, 0, 0)
	beds(8, 5, 9, 3)
	b.must(raise, 4, 0, 9)
	beds(4, 8, 5, 9, 3)
}

func TestListTurnsNothing(t *testing.T) {
	b := full(t)
	b.silence(3)
	first := b.p.List()
	for range 5 {
		b.want(first...)
		b.check()
	}
}

func TestItSoundsIfOneIsntAcknowledged(t *testing.T) {
	b := begin(t)
	sounds := func(want bool) {
		t.Helper()
		if b.p.Sounds(0) != want || b.p.Sounds(end) != want {
			t.Errorf("not %v, of %v", want, b.p.List())
		}
	}
	sounds(false)
	b.must(raise, 7, 1, 0)
	sounds(true)
	b.must(ack, 7, 1, 0)
	sounds(false) // though on
	b.must(raise, 3, 4, 0)
	sounds(true) // one of two
	b.must(clearing, 3, 4, 0)
	sounds(true) // latched
	b.must(ack, 3, 4, 0)
	sounds(false)
	b.must(raise, 9, 0, 0)
	sounds(true)
	b.drop(9)
	sounds(false)
	b.must(clearing, 7, 1, 0)
	sounds(false)
}

func TestItIsSilentUntil0AtFirst(t *testing.T) {
	p := New()
	p.Raise(7, 1, -5)
	for _, now := range numbers {
		if p.Sounds(now) != (now >= 0) {
			t.Errorf("Sounds(%d) = %v", now, p.Sounds(now))
		}
	}
}

func TestSilenceAtTheEdges(t *testing.T) {
	for _, until := range numbers {
		p, acked, none := New(), New(), New()
		p.Raise(7, 1, 0)
		acked.Raise(7, 1, 0)
		acked.Ack(7, 1)
		for _, x := range []*Panel{p, acked, none} {
			x.Silence(until)
		}
		if !p.Sounds(until) {
			t.Errorf("silent at %d", until)
		}
		if until != math.MinInt && p.Sounds(until-1) {
			t.Errorf("sounds one below %d", until)
		}
		if until != math.MaxInt && !p.Sounds(until+1) {
			t.Errorf("silent one above %d", until)
		}
		for _, now := range numbers {
			if p.Sounds(now) != (now >= until) || acked.Sounds(now) || none.Sounds(now) {
				t.Errorf("at %d, silent until %d", now, until)
			}
		}
	}
}

// The last one holds, be it a lesser or a greater time.
func TestSilenceAgain(t *testing.T) {
	for _, first := range numbers {
		for _, second := range numbers {
			p := New()
			p.Raise(7, 1, 0)
			p.Silence(first)
			p.Silence(second)
			for _, now := range numbers {
				if p.Sounds(now) != (now >= second) {
					t.Errorf("at %d, silent until %d, then %d", now, first, second)
				}
			}
		}
	}
}

// It stays silent whatever is raised, and what is shown stays whatever the silence.
func TestSilenceAndAlarmsDontMatterToEachOther(t *testing.T) {
	b := full(t)
	ahead := b.p.List()
	for _, until := range numbers {
		b.silence(until)
		b.want(ahead...)
	}
	b.drop(3)
	b.silence(50)
	b.must(raise, 3, 0, 60)
	if b.p.Sounds(49) || !b.p.Sounds(50) {
		t.Error("raised")
	}
	b.must(ack, 3, 0, 0)
	b.must(clearing, 3, 0, 0)
	for bed := range 10 {
		b.drop(bed)
	}
	b.must(raise, 1, 0, 0)
	if b.p.Sounds(49) || !b.p.Sounds(50) {
		t.Error("the silence went with alarms")
	}
}

// Asking whether it sounds turns nothing: it is no end of the silence.
func TestSoundsTurnsNothing(t *testing.T) {
	b := begin(t)
	b.must(raise, 7, 1, 0)
	b.silence(10)
	for range 3 {
		if !b.p.Sounds(10) || b.p.Sounds(9) {
			t.Error("sounds")
		}
	}
	b.check()
}

func TestOfANilPanel(t *testing.T) {
	var p *Panel
	for _, n := range numbers {
		for _, m := range numbers {
			if p.Raise(n, m, n) || p.Raise(m, 1, n) || p.Clear(n, m) || p.Ack(n, m) {
				t.Errorf("of %d, %d", n, m)
			}
		}
		p.Silence(n)
		if p.Sounds(n) || p.Drop(n) != 0 || len(p.List()) != 0 {
			t.Errorf("of %d", n)
		}
	}
}

// step does something drawn at a time.
func (b *both) step(r *rand.Rand, beds, now int) {
	b.t.Helper()
	bed, kind := r.Intn(beds), r.Intn(5)
	switch draw := r.Intn(40); {
	case draw == 0:
		b.drop(bed)
	case draw == 1:
		b.silence(now + r.Intn(7) - 3)
	case draw == 2:
		b.act(r.Intn(3), bed, r.Intn(9)-2, now)
	case draw < 24:
		b.raise(bed, kind, now+r.Intn(5)-2)
	case draw < 32:
		b.clear(bed, kind)
	default:
		b.ack(bed, kind)
	}
}

func TestDrawnActs(t *testing.T) {
	r := rand.New(rand.NewSource(2))
	crowded := 0
	for range 200 {
		b := begin(t)
		beds, now := 1+r.Intn(20), r.Intn(20)
		for range 200 {
			b.step(r, beds, now)
			now += r.Intn(3)
			if len(b.s.of) == 40 {
				crowded++
			}
		}
	}
	if crowded < 500 {
		t.Errorf("only %d times 40 were there", crowded)
	}
}

// P16.3

// story is what befell an alarm since it was raised, or raised anew.
type story struct {
	since          int
	cleared, acked bool
}

// book is the alarms' stories, as far as their panel told that something was turned.
type book map[owner]story

// live does something drawn, and writes down what of it the panel took on.
func (k book) live(r *rand.Rand, p *Panel, beds, now int) {
	o := owner{r.Intn(beds), r.Intn(5)}
	s, was := k[o]
	switch r.Intn(8) {
	case 0, 1, 2:
		if p.Raise(o.bed, o.kind, now) {
			k[o] = story{since: now}
		}
		return
	case 3, 4:
		p.Clear(o.bed, o.kind)
		s.cleared = true
	case 5, 6:
		p.Ack(o.bed, o.kind)
		s.acked = true
	default:
		if r.Intn(6) == 0 {
			p.Drop(o.bed)
			for kind := range 5 {
				delete(k, owner{o.bed, kind})
			}
		}
		return
	}
	if was {
		k[o] = s
	}
}

// hold holds what is shown against the stories.
func (k book) hold(t *testing.T, l []api.Alarm) (over int) {
	t.Helper()
	there := map[owner]bool{}
	for _, a := range l {
		o := owner{a.Bed, a.Kind}
		if there[o] {
			t.Fatalf("%v is shown twice: %v", o, l)
		}
		there[o] = true
		if s, was := k[o]; !was || a != (api.Alarm{Bed: o.bed, Kind: o.kind, Since: s.since, On: !s.cleared, Acked: s.acked}) {
			t.Fatalf("%v is shown, of %v", a, s)
		}
	}
	for o, s := range k {
		if there[o] == (s.cleared && s.acked) {
			t.Fatalf("%v, of %v, is shown: %v", o, s, there[o])
		}
		if s.cleared && s.acked {
			over++
		}
	}
	if len(l) > 40 {
		t.Fatalf("%d are shown", len(l))
	}
	return over
}

// holdOrder holds that no alarm that isn't acknowledged stands behind one that is.
func holdOrder(t *testing.T, l []api.Alarm) (mixed bool) {
	t.Helper()
	acked := false
	for _, a := range l {
		if acked && !a.Acked {
			t.Fatalf("%v stands behind one that is acknowledged: %v", a, l)
		}
		acked = acked || a.Acked
	}
	return acked && !l[0].Acked
}

func TestWhatWasRaisedIsShownUntilItWasClearedAndAcknowledged(t *testing.T) {
	r := rand.New(rand.NewSource(3))
	over, mixed, most := 0, 0, 0
	for range 300 {
		p, k, beds := New(), book{}, 1+r.Intn(30)
		for now := range 300 {
			k.live(r, p, beds, now/4)
			l := p.List()
			over += k.hold(t, l)
			if holdOrder(t, l) {
				mixed++
			}
			most = max(most, len(l))
		}
	}
	if over < 1000 || mixed < 1000 || most != 40 {
		t.Errorf("only %d over, %d mixed, %d at once", over, mixed, most)
	}
}

func TestInWhicheverOrder(t *testing.T) {
	for kind := range 5 {
		for round := range 2 {
			b := begin(t)
			b.must(raise, 7, kind, 5)
			b.must(raise, 8, kind, 5)
			first, second := clearing, ack
			if round == 1 {
				first, second = ack, clearing
			}
			b.must(first, 7, kind, 0)
			if l := b.p.List(); len(l) != 2 {
				t.Errorf("kind %d, behind act %d: %v", kind, first, l)
			}
			b.must(second, 7, kind, 0)
			b.want(api.Alarm{Bed: 8, Kind: kind, Since: 5, On: true})
		}
	}
}

// What was acknowledged ahead of being raised anew must be acknowledged again; so too what was cleared.
func TestOneThatIsRaisedAnewBeginsAnew(t *testing.T) {
	b := begin(t)
	b.bring(7, 1, 5, latched)
	b.must(raise, 7, 1, 9)
	b.must(ack, 7, 1, 0)
	b.want(api.Alarm{Bed: 7, Kind: 1, Since: 9, On: true, Acked: true})
	b.must(clearing, 7, 1, 0)
	b.want()
	b.must(raise, 7, 1, 12)
	b.want(api.Alarm{Bed: 7, Kind: 1, Since: 12, On: true})
	b.must(clearing, 7, 1, 0)
	b.want(api.Alarm{Bed: 7, Kind: 1, Since: 12})
}

// The rules that hold everywhere.

// Rule 1: any numbers, in any order, one behind the other.
func TestAnyNumbers(t *testing.T) {
	r := rand.New(rand.NewSource(4))
	drawn := func() int { return numbers[r.Intn(len(numbers))] }
	for range 200 {
		b := begin(t)
		for range 60 {
			switch r.Intn(6) {
			case 0:
				b.act(r.Intn(3), drawn(), drawn(), drawn())
			case 1:
				b.silence(drawn())
			case 2:
				b.drop(drawn())
			case 3:
				b.act(r.Intn(3), drawn(), r.Intn(5), drawn())
			default:
				b.act(r.Intn(3), []int{math.MinInt, 0, math.MaxInt}[r.Intn(3)], r.Intn(5), drawn())
			}
			n := drawn()
			if sounds := b.p.Sounds(n); sounds != b.s.sounds(n) {
				t.Fatalf("Sounds(%d) = %v", n, sounds)
			}
		}
	}
}

// spoil turns all of a list's alarms, its spare room included.
func spoil(list []api.Alarm) {
	for i := range list[:cap(list)] {
		list[:cap(list)][i] = api.Alarm{Bed: -5, Kind: 9, Since: -5, Acked: true}
	}
}

// Rule 4: an answer is new memory.
func TestAnswersAreNewMemory(t *testing.T) {
	r := rand.New(rand.NewSource(5))
	b := begin(t)
	for now := range 600 {
		spoil(b.p.List())
		b.check()
		b.step(r, 10, now)
		_ = append(b.p.List(), api.Alarm{Bed: -9})
		b.check()
		first, second := b.p.List(), b.p.List()
		spoil(first)
		if !slices.Equal(second, b.s.list()) {
			t.Fatalf("round %d: %v", now, second)
		}
	}
}

// What was answered stays as it was, whatever is done afterwards.
func TestAnswersStay(t *testing.T) {
	b := full(t)
	list := b.p.List()
	was := slices.Clone(list)
	b.drop(3)
	b.must(ack, 1, 0, 0)
	b.must(clearing, 1, 0, 0)
	b.must(raise, 9, 0, -5)
	b.must(raise, 1, 2, 99)
	b.p.List()
	if !slices.Equal(list, was) {
		t.Errorf("%v, not %v", list, was)
	}
}

// Rule 6: what is answered hangs on what was done, on nothing else.
func TestTheSameActsAnswerTheSame(t *testing.T) {
	run := func() []api.Alarm {
		r := rand.New(rand.NewSource(6))
		p := New()
		var told []api.Alarm
		for now := range 500 {
			bed, kind, got := r.Intn(12), r.Intn(6)-1, api.Alarm{}
			switch r.Intn(4) {
			case 0, 1:
				got.On = p.Raise(bed, kind, now)
			case 2:
				got.On = p.Clear(bed, kind)
			default:
				got.On = p.Ack(bed, kind)
			}
			if now%30 == 0 {
				got.Bed = p.Drop(bed)
				p.Silence(now + 5)
			}
			got.Acked = p.Sounds(now)
			told = append(append(told, got), p.List()...)
		}
		return told
	}
	first := run()
	for range 5 {
		if !slices.Equal(run(), first) {
			t.Fatal("not the same")
		}
	}
}

// What is done to one in between turns nothing of another one.
func TestPanelsSideBySide(t *testing.T) {
	r := rand.New(rand.NewSource(7))
	var l []*both
	for range 4 {
		l = append(l, begin(t))
	}
	for now := range 800 {
		l[r.Intn(4)].step(r, 12, now)
		for _, b := range l {
			b.check()
		}
	}
}

func TestTheExample(t *testing.T) {
	p := New()
	if !p.Raise(7, 1, 0) || !p.Clear(7, 1) {
		t.Fatal("raised, cleared")
	}
	if l := p.List(); !slices.Equal(l, []api.Alarm{{Bed: 7, Kind: 1}}) {
		t.Errorf("List() = %v", l)
	}
	if !p.Ack(7, 1) {
		t.Error("acknowledged")
	}
	if l := p.List(); len(l) != 0 {
		t.Errorf("List() = %v", l)
	}
}
