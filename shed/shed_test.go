package shed

import (
	"cmp"
	"math"
	"math/rand"
	"slices"
	"testing"

	"gurney/api"
)

// What is asked for is reckoned by the tests themselves: by all beds in the order in which they came, laid by their priorities anew each time, and by all ticks that were, gone through from the last one, with the document's numbers written out.

// came is a bed by its words: how often it was shed since it came, or since all were full.
type came struct{ bed, prio, shed int }

// story is a controller by its words.
type story struct {
	waits int
	beds  []came // in the order in which they came
	ticks []bool // were they overloaded?
}

// numbers are any, at the edges of what a controller has, and such that low bits of them alone would do.
var numbers = []int{
	math.MinInt, math.MinInt + 1, -1<<40 - 1, -1 << 40, math.MinInt32, -1 << 32, -1001, -1000, -8, -4, -3, -2, -1,
	0, 1, 2, 3, 4, 5, 6, 7, 8, 9, 12, 99, 255, 256, 999, 1000, 1001, 1002, 1 << 16, math.MaxInt32, 1 << 32, 1<<32 + 1, 1<<32 + 2, 1<<32 + 1000,
	1<<40 - 1, 1 << 40, 1<<40 + 1, 1 << 62, math.MaxInt - 3, math.MaxInt - 2, math.MaxInt - 1, math.MaxInt,
}

func (s *story) at(bed int) int {
	for i, b := range s.beds {
		if b.bed == bed {
			return i
		}
	}
	return -1
}

// laid is the places of the beds, those of greater priority ahead, of the same in the order in which they came.
func (s *story) laid() []int {
	var places []int
	for i := range s.beds {
		places = append(places, i)
	}
	slices.SortStableFunc(places, func(i, j int) int { return cmp.Compare(s.beds[j].prio, s.beds[i].prio) })
	return places
}

func (s *story) order() []int {
	var l []int
	for _, i := range s.laid() {
		l = append(l, s.beds[i].bed)
	}
	return l
}

func (s *story) add(bed, prio int) api.Errno {
	switch {
	case s.at(bed) != -1:
		return 9
	case len(s.beds) == 8:
		return 7
	}
	s.beds = append(s.beds, came{bed, prio, 0})
	return 0
}

func (s *story) remove(bed int) api.Errno {
	i := s.at(bed)
	if i == -1 {
		return 8
	}
	s.beds = append(s.beds[:i], s.beds[i+1:]...)
	return 0
}

func (s *story) level(bed int) int {
	if i := s.at(bed); i != -1 {
		return s.beds[i].shed
	}
	return 3
}

// calmAtEnd is how many ticks were calm behind the last one that wasn't.
func (s *story) calmAtEnd() int {
	n := 0
	for n < len(s.ticks) && !s.ticks[len(s.ticks)-1-n] {
		n++
	}
	return n
}

// calm begins anew as often as all that it waits for were there.
func (s *story) calm() int { return s.calmAtEnd() % s.waits }

func (s *story) tick(overload bool) int {
	s.ticks = append(s.ticks, overload)
	places := s.laid()
	slices.Reverse(places)
	if overload {
		for _, i := range places {
			if s.beds[i].shed < 3 {
				s.beds[i].shed++
				return s.beds[i].bed
			}
		}
		return -1
	}
	if s.calm() == 0 {
		for i := range s.beds {
			s.beds[i].shed = 0
		}
	}
	return -1
}

func looked(level, place int) bool {
	switch {
	case place < 0:
		return false
	case level == 0:
		return true
	case level == 1:
		return place&1 == 0
	case level == 2:
		return place&3 == 0
	}
	return false
}

// both is a controller and its story, to which the same is done; what they answer is held against each other.
type both struct {
	t *testing.T
	c *Control
	s story
}

func begin(t *testing.T, waits int) *both {
	t.Helper()
	c := New(waits)
	if c == nil {
		t.Fatalf("New(%d) = nil", waits)
	}
	b := &both{t, c, story{waits: waits}}
	b.check()
	return b
}

// with is a controller with so many beds from 1 on, of the same priority.
func with(t *testing.T, waits, beds int) *both {
	t.Helper()
	b := begin(t, waits)
	for i := range beds {
		b.addAll(i+1, 5)
	}
	return b
}

func (b *both) check() {
	b.t.Helper()
	if o := b.c.Order(); !slices.Equal(o, b.s.order()) {
		b.t.Fatalf("Order() = %v, not %v", o, b.s.order())
	}
	if n := b.c.Calm(); n != b.s.calm() {
		b.t.Fatalf("Calm() = %d, not %d", n, b.s.calm())
	}
	for _, bed := range append(b.s.order(), -1, 0, 1, 5, 1<<32+1, math.MaxInt) {
		if l := b.c.Level(bed); l != b.s.level(bed) {
			b.t.Fatalf("Level(%d) = %d, not %d", bed, l, b.s.level(bed))
		}
	}
}

func (b *both) add(bed, prio int) api.Errno {
	b.t.Helper()
	e, want := b.c.Add(bed, prio), b.s.add(bed, prio)
	if e != want {
		b.t.Fatalf("Add(%d, %d) = %d, not %d, to %v", bed, prio, e, want, b.s.beds)
	}
	b.check()
	return e
}

// addAll takes beds and their priorities by turns, and must take each.
func (b *both) addAll(l ...int) {
	b.t.Helper()
	for i := 0; i < len(l); i += 2 {
		if e := b.add(l[i], l[i+1]); e != 0 {
			b.t.Fatalf("Add(%d, %d) = %d", l[i], l[i+1], e)
		}
	}
}

func (b *both) remove(bed int) api.Errno {
	b.t.Helper()
	e, want := b.c.Remove(bed), b.s.remove(bed)
	if e != want {
		b.t.Fatalf("Remove(%d) = %d, not %d, of %v", bed, e, want, b.s.beds)
	}
	b.check()
	return e
}

func (b *both) tick(overload bool) int {
	b.t.Helper()
	bed, want := b.c.Tick(overload), b.s.tick(overload)
	if bed != want {
		b.t.Fatalf("Tick(%v) = %d, not %d, of %v", overload, bed, want, b.s.beds)
	}
	b.check()
	return bed
}

func (b *both) ticks(overload bool, many int) {
	b.t.Helper()
	for range many {
		b.tick(overload)
	}
}

func (b *both) wantOrder(want ...int) {
	b.t.Helper()
	if o := b.c.Order(); !slices.Equal(o, want) {
		b.t.Errorf("Order() = %v, not %v", o, want)
	}
}

// wantLevels takes those of the beds in their order.
func (b *both) wantLevels(want ...int) {
	b.t.Helper()
	var l []int
	for _, bed := range b.c.Order() {
		l = append(l, b.c.Level(bed))
	}
	if !slices.Equal(l, want) {
		b.t.Errorf("levels %v, not %v, of %v", l, want, b.c.Order())
	}
}

// P13.1

func TestNewAtTheEdges(t *testing.T) {
	for calm, want := range map[int]bool{-1001: false, -1000: false, -1: false, 0: false, 1: true, 2: true, 500: true, 999: true, 1000: true, 1001: false, 1002: false, 1 << 32: false, 1<<32 + 1: false, 1<<32 + 1000: false, math.MaxInt: false, math.MinInt: false, math.MinInt + 1: false} {
		if c := New(calm); (c != nil) != want {
			t.Errorf("New(%d) is one: %v", calm, !want)
		}
	}
}

func TestNewOfAnyNumber(t *testing.T) {
	for _, n := range numbers {
		c := New(n)
		if (c != nil) != (n > 0 && n < 1001) {
			t.Errorf("New(%d) is nil: %v", n, c == nil)
		}
	}
	for n := -50; n < 1100; n++ {
		if (New(n) != nil) != (n > 0 && n < 1001) {
			t.Errorf("New(%d)", n)
		}
	}
}

func TestANewControllerIsWithoutBeds(t *testing.T) {
	for _, waits := range []int{1, 2, 999, 1000} {
		c := New(waits)
		if o := c.Order(); len(o) != 0 || c.Calm() != 0 {
			t.Errorf("%v, %d", o, c.Calm())
		}
		for _, n := range numbers {
			if c.Level(n) != 3 || c.Remove(n) != 8 {
				t.Errorf("of the bed %d", n)
			}
		}
		if c.Tick(true) != -1 || c.Tick(false) != -1 {
			t.Error("Tick")
		}
	}
}

func TestNewControllersShareNothing(t *testing.T) {
	a, b := with(t, 3, 2), with(t, 3, 2)
	a.ticks(true, 4)
	b.wantLevels(0, 0)
	b.ticks(false, 2)
	a.check()
	a.remove(1)
	b.wantOrder(1, 2)
	a.addAll(9, 9)
	b.check()
}

func TestAddByPriority(t *testing.T) {
	b := begin(t, 3)
	b.addAll(10, 5)
	b.wantOrder(10)
	b.addAll(11, 5) // the same: behind
	b.wantOrder(10, 11)
	b.addAll(12, 6) // ahead of all
	b.wantOrder(12, 10, 11)
	b.addAll(13, 4) // behind all
	b.wantOrder(12, 10, 11, 13)
	b.addAll(14, 5) // behind those of the same, ahead of the one that is less
	b.wantOrder(12, 10, 11, 14, 13)
	b.addAll(15, 6)
	b.wantOrder(12, 15, 10, 11, 14, 13)
	b.addAll(16, 4)
	b.wantOrder(12, 15, 10, 11, 14, 13, 16)
	b.addAll(1, 5) // not by its number
	b.wantOrder(12, 15, 10, 11, 14, 1, 13, 16)
}

func TestAddOfEachPriorities(t *testing.T) {
	for n := range 3 * 3 * 3 * 3 * 3 * 3 {
		b := begin(t, 2)
		for bed := range 6 {
			b.addAll(bed, n%3)
			n /= 3
		}
	}
}

func TestAddOfThoseAlikeInTheOrderInWhichTheyCame(t *testing.T) {
	for _, prio := range numbers {
		b := begin(t, 2)
		for _, bed := range []int{5, 3, 8, 1, 7, 2, 6, 4} {
			b.addAll(bed, prio)
		}
		b.wantOrder(5, 3, 8, 1, 7, 2, 6, 4)
	}
}

// Priorities may be any numbers, also such whose difference wraps round.
func TestAddOfFarPriorities(t *testing.T) {
	b := begin(t, 3)
	b.addAll(1, 0, 2, math.MinInt, 3, math.MaxInt, 4, -1, 5, 1<<32, 6, math.MaxInt-1, 7, math.MinInt+1, 8, -1<<32)
	b.wantOrder(3, 6, 5, 1, 4, 8, 7, 2)
	for _, first := range numbers {
		for _, second := range numbers {
			b := begin(t, 1)
			b.addAll(1, first, 2, second)
			if second > first {
				b.wantOrder(2, 1)
			} else {
				b.wantOrder(1, 2)
			}
		}
	}
}

func TestAddOfAnyBeds(t *testing.T) {
	for _, bed := range numbers {
		b := begin(t, 2)
		b.addAll(bed, 1)
		b.wantOrder(bed)
		for _, other := range numbers {
			want := api.Errno(0)
			if other == bed {
				want = 9
			}
			if e := b.add(other, 1); e != want {
				t.Errorf("Add(%d) behind %d: %d", other, bed, e)
			}
			if want == 0 && b.remove(other) != 0 {
				t.Errorf("Remove(%d)", other)
			}
		}
		if b.tick(true) != bed || b.c.Level(bed) != 1 || b.remove(bed) != 0 {
			t.Errorf("of the bed %d", bed)
		}
	}
}

func TestAddTwice(t *testing.T) {
	for many := 1; many < 8; many++ {
		for bed := 1; bed <= many; bed++ {
			b := with(t, 3, many)
			b.tick(true)
			for _, prio := range []int{5, 4, 6, math.MinInt, math.MaxInt} {
				if e := b.add(bed, prio); e != 9 {
					t.Errorf("Add(%d, %d) twice: %d", bed, prio, e)
				}
			}
			b.ticks(true, 3*many)
		}
	}
}

func TestAddBehindEachCount(t *testing.T) {
	b := begin(t, 3)
	for i := range 8 {
		if e := b.add(i, i%3); e != 0 || len(b.c.Order()) != i+1 {
			t.Fatalf("the one at %d: %d", i, e)
		}
	}
	for _, prio := range numbers {
		if e := b.add(8, prio); e != 7 {
			t.Errorf("Add of a ninth bed, of priority %d: %d", prio, e)
		}
	}
}

func TestAddTellsTheFirstError(t *testing.T) {
	b := with(t, 3, 8)
	for bed := 1; bed <= 8; bed++ {
		if e := b.add(bed, bed); e != 9 {
			t.Errorf("of one that is there, without room: %d", e)
		}
	}
	if e := b.add(9, 9); e != 7 {
		t.Errorf("%d", e)
	}
}

func TestThereIsRoomBehindWhatWent(t *testing.T) {
	b := with(t, 3, 8)
	for i := range 30 {
		if e := b.add(100+i, i%4); e != 7 {
			t.Fatalf("turn %d: %d", i, e)
		}
		b.remove(b.c.Order()[i*5%8])
		if e := b.add(100+i, i%4); e != 0 {
			t.Fatalf("turn %d: %d", i, e)
		}
		b.tick(i%3 > 0)
	}
}

// A bed that comes is at Full, whatever those are at beside which it stands, and whether it was there ahead.
func TestAddIsAtFull(t *testing.T) {
	for overloads := range 13 {
		for _, prio := range []int{4, 5, 6} {
			b := with(t, 5, 4)
			b.ticks(true, overloads)
			b.addAll(9, prio)
			if b.c.Level(9) != 0 {
				t.Errorf("behind %d: %d", overloads, b.c.Level(9))
			}
			b.ticks(true, 2)
			b.remove(9)
			b.addAll(9, prio)
			if b.c.Level(9) != 0 {
				t.Errorf("again, behind %d: %d", overloads, b.c.Level(9))
			}
			b.ticks(true, 16)
		}
	}
}

func TestAddAndRemoveTurnNoCalm(t *testing.T) {
	b := with(t, 4, 2)
	b.ticks(true, 4)
	b.ticks(false, 3)
	b.addAll(7, 7, 8, 0)
	b.remove(2)
	b.add(7, 7)
	b.remove(99)
	if b.c.Calm() != 3 {
		t.Errorf("%d", b.c.Calm())
	}
	b.wantLevels(0, 1, 0)
	b.tick(false)
	b.wantLevels(0, 0, 0)
}

func TestRemoveOfEach(t *testing.T) {
	for many := range 9 {
		for bed := range many + 2 {
			b := begin(t, 3)
			for i := range many {
				b.addAll(i+1, i*3%4)
			}
			b.ticks(true, 7)
			want := slices.DeleteFunc(b.c.Order(), func(o int) bool { return o == bed })
			e := b.remove(bed)
			if there := bed >= 1 && bed <= many; there != (e == 0) || !there && e != 8 {
				t.Errorf("Remove(%d) of %d: %d", bed, many, e)
			}
			b.wantOrder(want...)
			if e := b.remove(bed); e != 8 || b.c.Level(bed) != 3 {
				t.Errorf("Remove(%d) twice: %d", bed, e)
			}
			b.ticks(true, 3*many)
		}
	}
}

func TestRemoveLeavesTheOthersAsTheyStand(t *testing.T) {
	for bed, want := range map[int][]int{1: {0, 2, 3}, 2: {0, 2, 3}, 3: {0, 0, 3}, 4: {0, 0, 2}} {
		b := with(t, 9, 4)
		b.ticks(true, 5)
		b.wantLevels(0, 0, 2, 3)
		b.remove(bed)
		b.wantLevels(want...)
	}
}

func TestRemoveOfAnyBed(t *testing.T) {
	for _, n := range numbers {
		b := begin(t, 3)
		b.addAll(50, 1, 51, 2)
		if e := b.remove(n); e != 8 {
			t.Errorf("Remove(%d) = %d", n, e)
		}
	}
}

func TestRemoveOfAllInEachOrder(t *testing.T) {
	for first := range 4 {
		for second := range 3 {
			for third := range 2 {
				b := begin(t, 3)
				b.addAll(20, 1, 21, 3, 22, 1, 23, 2)
				b.tick(true)
				for _, i := range []int{first, second, third, 0} {
					if e := b.remove(b.c.Order()[i]); e != 0 {
						t.Fatalf("%d", e)
					}
				}
				b.wantOrder()
				b.addAll(20, 1)
			}
		}
	}
}

// P13.2

func TestTickOfOverloads(t *testing.T) {
	for many := range 9 {
		b := with(t, 3, many)
		for bed := many; bed >= 1; bed-- {
			for level := 1; level <= 3; level++ {
				if got := b.tick(true); got != bed || b.c.Level(bed) != level {
					t.Fatalf("%d beds: %d at %d, not %d at %d", many, got, b.c.Level(bed), bed, level)
				}
			}
		}
		for range 5 {
			if got := b.tick(true); got != -1 {
				t.Errorf("%d beds, all Off: %d", many, got)
			}
		}
	}
}

func TestTickOfCalmOnes(t *testing.T) {
	for _, waits := range []int{1, 2, 3, 5, 10, 999, 1000} {
		b := with(t, waits, 3)
		b.ticks(true, 5)
		for i := 1; i < waits; i++ {
			if got := b.c.Tick(false); got != -1 || b.c.Calm() != i || b.c.Level(3) != 3 || b.c.Level(2) != 2 {
				t.Fatalf("of %d: %d, Calm %d", waits, got, b.c.Calm())
			}
		}
		if got := b.c.Tick(false); got != -1 || b.c.Calm() != 0 {
			t.Errorf("of %d: %d, Calm %d", waits, got, b.c.Calm())
		}
		b.wantLevels(0, 0, 0)
	}
}

func TestCalmGoesRound(t *testing.T) {
	for _, waits := range []int{1, 2, 3, 7} {
		for many := range 3 {
			b := with(t, waits, many)
			for i := 1; i < 30; i++ {
				b.tick(false)
				if b.c.Calm() != i%waits {
					t.Errorf("%d behind %d of %d", b.c.Calm(), i, waits)
				}
			}
		}
	}
}

func TestAnOverloadBeginsCalmAnew(t *testing.T) {
	for waits := 2; waits < 8; waits++ {
		for calm := range waits {
			for many := range 3 {
				b := with(t, waits, many)
				b.ticks(true, 2)
				b.ticks(false, calm)
				b.tick(true)
				if b.c.Calm() != 0 {
					t.Errorf("%d behind an overload", b.c.Calm())
				}
				b.ticks(false, waits-1)
				if b.c.Calm() != waits-1 || many > 0 && b.c.Level(many) != 3 {
					t.Errorf("%d, not %d", b.c.Calm(), waits-1)
				}
				b.tick(false)
			}
		}
	}
}

// Also if no bed is left to shed, a tick is overloaded.
func TestAnOverloadOfNoneBeginsCalmAnew(t *testing.T) {
	b := with(t, 3, 1)
	b.ticks(true, 3)
	b.ticks(false, 2)
	if got := b.tick(true); got != -1 || b.c.Calm() != 0 {
		t.Errorf("%d, Calm %d", got, b.c.Calm())
	}
	b.ticks(false, 2)
	b.wantLevels(3)
	b.tick(false)
	b.wantLevels(0)
}

func TestTickIsByTheOrder(t *testing.T) {
	b := begin(t, 3)
	b.addAll(1, 5, 2, 7, 3, 5, 4, 0)
	for i, want := range []int{4, 4, 4, 3, 3, 3, 1, 1, 1, 2, 2, 2, -1} {
		if got := b.tick(true); got != want {
			t.Errorf("tick %d: %d, not %d", i, got, want)
		}
	}
}

// A bed that came meanwhile is shed in its turn, ahead of those that stand ahead of it, also if these were shed already.
func TestTickOfABedThatCameMeanwhile(t *testing.T) {
	b := begin(t, 3)
	b.addAll(1, 5, 2, 5)
	b.ticks(true, 4)
	b.wantLevels(1, 3)
	b.addAll(3, 5, 4, 6)
	b.wantOrder(4, 1, 2, 3)
	for i, want := range []int{3, 3, 3, 1, 1, 4, 4, 4, -1} {
		if got := b.tick(true); got != want {
			t.Errorf("tick %d: %d, not %d", i, got, want)
		}
	}
}

func TestTickBehindRemove(t *testing.T) {
	b := with(t, 9, 3)
	b.ticks(true, 4)
	b.remove(2)
	for i, want := range []int{1, 1, 1, -1} {
		if got := b.tick(true); got != want {
			t.Errorf("tick %d: %d, not %d", i, got, want)
		}
	}
}

func TestLevelOfNone(t *testing.T) {
	b := with(t, 3, 3)
	for _, n := range numbers {
		if n < 1 || n > 3 {
			if l := b.c.Level(n); l != 3 {
				t.Errorf("Level(%d) = %d", n, l)
			}
		}
	}
}

func TestAskingTurnsNothing(t *testing.T) {
	b := with(t, 4, 3)
	b.ticks(true, 5)
	b.ticks(false, 2)
	for _, n := range numbers {
		b.c.Level(n)
		b.c.Order()
		b.c.Calm()
		Looked(n, n)
	}
	b.check()
	b.wantLevels(0, 2, 3)
	b.ticks(false, 2)
	b.wantLevels(0, 0, 0)
}

func TestLookedAtEachLevel(t *testing.T) {
	for level, want := range map[int][]bool{
		-1: {false, false, false, false, false, false, false, false, false},
		0:  {true, true, true, true, true, true, true, true, true},
		1:  {true, false, true, false, true, false, true, false, true},
		2:  {true, false, false, false, true, false, false, false, true},
		3:  {false, false, false, false, false, false, false, false, false},
		4:  {false, false, false, false, false, false, false, false, false},
	} {
		for place, w := range want {
			if Looked(level, place) != w {
				t.Errorf("Looked(%d, %d) = %v", level, place, !w)
			}
		}
		for _, place := range []int{-1, -2, -3, -4, -8, -1 << 32, math.MinInt, math.MinInt + 1} {
			if Looked(level, place) {
				t.Errorf("Looked(%d, %d)", level, place)
			}
		}
	}
}

func TestLookedOfAnyNumbers(t *testing.T) {
	for _, level := range numbers {
		for _, place := range numbers {
			if got := Looked(level, place); got != looked(level, place) {
				t.Errorf("Looked(%d, %d) = %v", level, place, got)
			}
		}
		for place := -20; place < 300; place++ {
			if got := Looked(level, place); got != looked(level, place) {
				t.Errorf("Looked(%d, %d) = %v", level, place, got)
			}
		}
	}
}

// Of those that follow one another so many are looked at: all, each second, each fourth, none.
func TestLookedHowMany(t *testing.T) {
	for level, want := range []int{1000, 500, 250, 0} {
		got := 0
		for place := range 1000 {
			if Looked(level, place) {
				got++
			}
		}
		if got != want {
			t.Errorf("at the level %d: %d, not %d", level, got, want)
		}
	}
}

func TestANilController(t *testing.T) {
	var c *Control
	for _, n := range numbers {
		if e := c.Add(n, n); e != 1 {
			t.Errorf("Add(%d) = %d", n, e)
		}
		if e := c.Remove(n); e != 8 {
			t.Errorf("Remove(%d) = %d", n, e)
		}
		if l := c.Level(n); l != 3 {
			t.Errorf("Level(%d) = %d", n, l)
		}
	}
	for _, overload := range []bool{true, false, true} {
		if bed := c.Tick(overload); bed != -1 {
			t.Errorf("Tick(%v) = %d", overload, bed)
		}
	}
	if len(c.Order()) != 0 || c.Calm() != 0 {
		t.Errorf("%v, %d", c.Order(), c.Calm())
	}
}

// step does one drawn act to a controller.
func (b *both) step(r *rand.Rand, beds, prios, calmOf10 int) {
	b.t.Helper()
	switch r.Intn(8) {
	case 0, 1:
		b.add(r.Intn(beds), r.Intn(prios)-1)
	case 2:
		b.remove(r.Intn(beds))
	default:
		b.tick(r.Intn(10) >= calmOf10)
	}
}

func TestDrawnActs(t *testing.T) {
	r := rand.New(rand.NewSource(1))
	full, off := 0, 0
	for range 600 {
		b := begin(t, 1+r.Intn(6))
		beds, prios, calmOf10 := 1+r.Intn(14), 1+r.Intn(5), r.Intn(11)
		for range 150 {
			b.step(r, beds, prios, calmOf10)
			if len(b.s.beds) == 8 {
				full++
			}
			if len(b.s.beds) > 2 && !slices.ContainsFunc(b.s.beds, func(c came) bool { return c.shed < 3 }) {
				off++
			}
		}
	}
	if full < 1000 || off < 1000 {
		t.Errorf("only %d times there were 8, only %d times all were Off", full, off)
	}
}

// P13.3

// acted is a controller and what was done to it: at which act each bed came, and which ticks were overloaded.
type acted struct {
	c         *Control
	cameAt    map[int]int
	overloads []bool
}

// wasOverloaded says whether one of the last ticks, so many, was.
func (a *acted) wasOverloaded(many int) bool {
	from := max(0, len(a.overloads)-many)
	return slices.Contains(a.overloads[from:], true)
}

// checkFull asks: a bed isn't at Full only if one of the last ticks was overloaded.
func (a *acted) checkFull(t *testing.T, waits int) (less bool) {
	t.Helper()
	for _, bed := range a.c.Order() {
		if a.c.Level(bed) == 0 {
			continue
		}
		less = true
		if !a.wasOverloaded(waits) {
			t.Fatalf("the bed %d is at %d, behind %v, of %d", bed, a.c.Level(bed), a.overloads, waits)
		}
	}
	return less
}

// checkBehind asks of all beds: one isn't at less than Full while another one behind it, that was there as long, isn't Off.
func (a *acted) checkBehind(t *testing.T) (many int) {
	t.Helper()
	order := a.c.Order()
	for i, bed := range order {
		if a.c.Level(bed) == 0 {
			continue
		}
		for _, behind := range order[i+1:] {
			if a.cameAt[behind] > a.cameAt[bed] {
				continue
			}
			many++
			if a.c.Level(behind) != 3 {
				t.Fatalf("%v: the bed %d is at %d, %d at %d", order, bed, a.c.Level(bed), behind, a.c.Level(behind))
			}
		}
	}
	return many
}

// checkTick asks of the bed that a tick sheds: all behind it were Off.
func (a *acted) checkTick(t *testing.T, overload bool) {
	t.Helper()
	order := a.c.Order()
	var levels []int
	for _, bed := range order {
		levels = append(levels, a.c.Level(bed))
	}
	bed := a.c.Tick(overload)
	a.overloads = append(a.overloads, overload)
	if bed == -1 {
		if overload && slices.ContainsFunc(levels, func(l int) bool { return l != 3 }) {
			t.Fatalf("none is shed of %v at %v", order, levels)
		}
		return
	}
	at := slices.Index(order, bed)
	if !overload || at < 0 || levels[at] == 3 || a.c.Level(bed) != levels[at]+1 {
		t.Fatalf("%d is shed of %v at %v", bed, order, levels)
	}
	for _, l := range levels[at+1:] {
		if l != 3 {
			t.Fatalf("%d is shed of %v at %v", bed, order, levels)
		}
	}
}

func TestWhatFollowsOfDrawnActs(t *testing.T) {
	r := rand.New(rand.NewSource(2))
	less, pairs := 0, 0
	for range 1500 {
		waits := 1 + r.Intn(5)
		a := &acted{c: New(waits), cameAt: map[int]int{}}
		beds, prios, calmOf10 := 2+r.Intn(9), 1+r.Intn(4), r.Intn(10)
		for act := range 100 {
			switch r.Intn(9) {
			case 0:
				if bed := r.Intn(beds); a.c.Add(bed, r.Intn(prios)) == 0 {
					a.cameAt[bed] = act
				}
			case 1:
				if r.Intn(3) == 0 {
					a.c.Remove(r.Intn(beds))
				}
			default:
				a.checkTick(t, r.Intn(10) >= calmOf10)
			}
			if a.checkFull(t, waits) {
				less++
			}
			pairs += a.checkBehind(t)
		}
	}
	if less < 1000 || pairs < 1000 {
		t.Errorf("only %d times one wasn't at Full, only %d pairs", less, pairs)
	}
}

// Behind as many calm ticks as it waits for all are at Full, and not a tick ahead of that.
func TestFullBehindCalmTicks(t *testing.T) {
	for _, waits := range []int{1, 2, 3, 10, 100, 1000} {
		for overloads := 1; overloads < 14; overloads++ {
			c := New(waits)
			for bed := range 4 {
				c.Add(bed, bed)
			}
			for range overloads {
				c.Tick(true)
			}
			for range waits - 1 {
				c.Tick(false)
			}
			if c.Level(0) == 0 {
				t.Errorf("%d overloads, %d calm: at Full", overloads, waits-1)
			}
			c.Tick(false)
			for bed := range 4 {
				if c.Level(bed) != 0 {
					t.Errorf("%d overloads, %d calm: %d at %d", overloads, waits, bed, c.Level(bed))
				}
			}
		}
	}
}

// The rules that hold everywhere.

// Rule 1: any numbers, in any order, one behind the other.
func TestAnyNumbers(t *testing.T) {
	r := rand.New(rand.NewSource(3))
	drawn := func() int { return numbers[r.Intn(len(numbers))] }
	for range 300 {
		b := begin(t, 1+r.Intn(4))
		for range 60 {
			switch r.Intn(4) {
			case 0:
				b.remove(drawn())
			case 1:
				b.tick(r.Intn(3) > 0)
			default:
				b.add(drawn(), drawn())
			}
			n := drawn()
			if l := b.c.Level(n); l != b.s.level(n) {
				t.Fatalf("Level(%d) = %d", n, l)
			}
		}
	}
}

// A bed may have the number that is told where none is shed.
func TestABedOfThatNumber(t *testing.T) {
	b := begin(t, 2)
	b.addAll(-1, 1)
	for level := 1; level <= 3; level++ {
		if got := b.tick(true); got != -1 || b.c.Level(-1) != level {
			t.Errorf("%d, at %d", got, b.c.Level(-1))
		}
	}
	if got := b.tick(true); got != -1 || b.c.Level(-1) != 3 {
		t.Errorf("%d, at %d", got, b.c.Level(-1))
	}
}

// spoil turns all of a list's numbers, its spare room included.
func spoil(list []int) {
	for i := range list[:cap(list)] {
		list[:cap(list)][i] = -5
	}
}

// Rule 4: an answer is new memory.
func TestAnswersAreNewMemory(t *testing.T) {
	b := begin(t, 4)
	for round := range 200 {
		spoil(b.c.Order())
		b.check()
		b.add(round%11, round*7%4)
		spoil(b.c.Order())
		_ = append(b.c.Order(), -9)
		b.check()
		b.tick(round%5 > 1)
		spoil(b.c.Order())
		if round%3 == 0 {
			b.remove(round * 5 % 11)
		}
		first, second := b.c.Order(), b.c.Order()
		spoil(first)
		if !slices.Equal(second, b.s.order()) {
			t.Fatalf("round %d: %v", round, second)
		}
	}
}

// What was answered stays as it was, whatever is done afterwards.
func TestAnswersStay(t *testing.T) {
	b := with(t, 3, 7)
	list := b.c.Order()
	ahead := slices.Clone(list)
	b.remove(3)
	b.addAll(20, 9, 21, 0)
	b.ticks(true, 30)
	b.remove(20)
	b.ticks(false, 3)
	if !slices.Equal(list, ahead) {
		t.Errorf("%v, not %v", list, ahead)
	}
}

// Rule 6: what is answered hangs on what was done, on nothing else.
func TestTheSameActsAnswerTheSame(t *testing.T) {
	run := func() []int {
		r := rand.New(rand.NewSource(4))
		c := New(3)
		var told []int
		for range 400 {
			switch r.Intn(5) {
			case 0:
				told = append(told, int(c.Add(r.Intn(12), r.Intn(3))))
			case 1:
				told = append(told, int(c.Remove(r.Intn(12))))
			default:
				told = append(told, c.Tick(r.Intn(2) == 0))
			}
			told = append(told, c.Calm(), c.Level(r.Intn(12)))
			told = append(told, c.Order()...)
		}
		return told
	}
	first := run()
	for range 5 {
		if !slices.Equal(run(), first) {
			t.Fatal("not the same")
		}
	}
}

// What is done to one in between turns nothing of another one.
func TestControllersSideBySide(t *testing.T) {
	r := rand.New(rand.NewSource(5))
	var l []*both
	for i := range 4 {
		l = append(l, begin(t, 1+i))
	}
	for range 2000 {
		l[r.Intn(4)].step(r, 10, 3, 5)
		for _, b := range l {
			b.check()
		}
	}
}

// An answer without an error, and the errors, by the numbers of api.
func TestErrors(t *testing.T) {
	b := with(t, 3, 8)
	if e := b.c.Add(9, 9); e != api.ErrFull {
		t.Errorf("%d", e)
	}
	if e := b.c.Add(8, 9); e != api.ErrTwice {
		t.Errorf("%d", e)
	}
	if e := b.c.Remove(9); e != api.ErrNone {
		t.Errorf("%d", e)
	}
	if e := b.c.Remove(8); e != api.OK {
		t.Errorf("%d", e)
	}
	if e := b.c.Add(8, 9); e != api.OK {
		t.Errorf("%d", e)
	}
	if e := (*Control)(nil).Add(8, 9); e != api.ErrArg {
		t.Errorf("%d", e)
	}
}

func TestTheExample(t *testing.T) {
	c := New(3)
	if c.Add(1, 5) != api.OK || c.Add(2, 1) != api.OK {
		t.Fatal("Add")
	}
	for i, want := range []int{2, 2, 2, 1} {
		if got := c.Tick(true); got != want {
			t.Errorf("tick %d: %d, not %d", i, got, want)
		}
	}
}
