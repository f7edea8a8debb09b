package watch

import (
	"math"
	"math/big"
	"math/rand"
	"slices"
	"testing"

	"gurney/api"
)

// What is asked for is reckoned by the tests themselves: by a row of beds, each with all times at which it was heard or looked at since it came, gone through from the last one, with the document's numbers written out.

// act is what was done to a bed at a time: it was heard (or came), or it was looked.
type act struct {
	heard bool
	at    int
}

// life is a bed by its words, since it came.
type life struct {
	bed, most int
	acts      []act
}

// story is a watch by its words.
type story struct{ row []life }

const end = 1 << 40 // the greatest time

// numbers are any, at the edges of what a watch has, and such that low bits of them alone would do.
var numbers = []int{
	math.MinInt, math.MinInt + 1, math.MinInt + 1000, math.MinInt + 1001, -end - 1, -end, math.MinInt32, -1 << 32, -1001, -1000, -999, -8, -3, -2, -1,
	0, 1, 2, 3, 4, 5, 6, 7, 8, 9, 10, 99, 127, 128, 255, 256, 257, 500, 998, 999, 1000, 1001, 1002, 1023, 1024, 1025, 1 << 16, 1<<16 + 1,
	math.MaxInt32, 1 << 32, 1<<32 + 1, 1<<32 + 5, 1<<32 + 1000, 1<<32 + 1001, end - 1001, end - 1000, end - 1, end, end + 1, 1 << 62, math.MaxInt - 1001, math.MaxInt - 1000, math.MaxInt - 1, math.MaxInt,
}

// isFarther says whether a time is more than so many ticks behind another one, of any numbers.
func isFarther(now, last, ticks int) bool {
	d := new(big.Int).Sub(big.NewInt(int64(now)), big.NewInt(int64(last)))
	return d.Cmp(big.NewInt(int64(ticks))) > 0
}

func (l life) lost() bool {
	at := len(l.acts) - 1
	for !l.acts[at].heard {
		at--
	}
	for _, look := range l.acts[at+1:] {
		if isFarther(look.at, l.acts[at].at, l.most) {
			return true
		}
	}
	return false
}

func (s *story) at(bed int) int {
	for i, l := range s.row {
		if l.bed == bed {
			return i
		}
	}
	return -1
}

func (s *story) add(bed, most, now int) api.Errno {
	switch {
	case most <= 0, most > 1000:
		return 1
	case s.at(bed) != -1:
		return 9
	case len(s.row) == 8:
		return 7
	}
	s.row = append(s.row, life{bed, most, []act{{true, now}}})
	return 0
}

func (s *story) remove(bed int) api.Errno {
	if s.at(bed) == -1 {
		return 8
	}
	var stay []life
	for _, l := range s.row {
		if l.bed != bed {
			stay = append(stay, l)
		}
	}
	s.row = stay
	return 0
}

func (s *story) lost(bed int) bool {
	i := s.at(bed)
	return i != -1 && s.row[i].lost()
}

func (s *story) heard(bed, now int) bool {
	was := s.lost(bed)
	if i := s.at(bed); i != -1 {
		s.row[i].acts = append(s.row[i].acts, act{true, now})
	}
	return was
}

func (s *story) look(now int) []int {
	var told []int
	for i := range s.row {
		l := &s.row[i]
		was := l.lost()
		l.acts = append(l.acts, act{false, now})
		if !was && l.lost() {
			told = append(told, l.bed)
		}
	}
	return told
}

func (s *story) beds() []int {
	var beds []int
	for _, l := range s.row {
		beds = append(beds, l.bed)
	}
	return beds
}

// both is a watch and its story, to which the same is done; what they answer is held against each other.
type both struct {
	t *testing.T
	w *Watch
	s story
}

func begin(t *testing.T) *both {
	t.Helper()
	w := New()
	if w == nil {
		t.Fatal("New() = nil")
	}
	b := &both{t: t, w: w}
	b.check()
	return b
}

// with is a watch with so many beds from 1 on, each of which may be silent as many ticks, that came at 0.
func with(t *testing.T, beds, most int) *both {
	t.Helper()
	b := begin(t)
	for i := range beds {
		b.mustAdd(i+1, most, 0)
	}
	return b
}

func (b *both) check() {
	b.t.Helper()
	beds := b.s.beds()
	if l := b.w.Beds(); !slices.Equal(l, beds) {
		b.t.Fatalf("Beds() = %v, not %v", l, beds)
	}
	for _, bed := range append(beds, -1, 0, 1, 5, 1<<32+1, math.MaxInt) {
		if l := b.w.Lost(bed); l != b.s.lost(bed) {
			b.t.Fatalf("Lost(%d) = %v, of %v", bed, l, b.s.row)
		}
	}
}

func (b *both) add(bed, most, now int) api.Errno {
	b.t.Helper()
	e, want := b.w.Add(bed, most, now), b.s.add(bed, most, now)
	if e != want {
		b.t.Fatalf("Add(%d, %d, %d) = %d, not %d, to %v", bed, most, now, e, want, b.s.beds())
	}
	b.check()
	return e
}

func (b *both) mustAdd(bed, most, now int) {
	b.t.Helper()
	if e := b.add(bed, most, now); e != 0 {
		b.t.Fatalf("Add(%d, %d, %d) = %d", bed, most, now, e)
	}
}

func (b *both) remove(bed int) api.Errno {
	b.t.Helper()
	e, want := b.w.Remove(bed), b.s.remove(bed)
	if e != want {
		b.t.Fatalf("Remove(%d) = %d, not %d, of %v", bed, e, want, b.s.beds())
	}
	b.check()
	return e
}

func (b *both) heard(bed, now int) bool {
	b.t.Helper()
	was, want := b.w.Heard(bed, now), b.s.heard(bed, now)
	if was != want {
		b.t.Fatalf("Heard(%d, %d) = %v, of %v", bed, now, was, b.s.row)
	}
	b.check()
	return was
}

func (b *both) look(now int) []int {
	b.t.Helper()
	told, want := b.w.Look(now), b.s.look(now)
	if !slices.Equal(told, want) {
		b.t.Fatalf("Look(%d) = %v, not %v, of %v", now, told, want, b.s.row)
	}
	b.check()
	return told
}

func (b *both) wantLook(now int, want ...int) {
	b.t.Helper()
	if l := b.look(now); !slices.Equal(l, want) {
		b.t.Errorf("Look(%d) = %v, not %v", now, l, want)
	}
}

func (b *both) wantBeds(want ...int) {
	b.t.Helper()
	if l := b.w.Beds(); !slices.Equal(l, want) {
		b.t.Errorf("Beds() = %v, not %v", l, want)
	}
}

// P15.1

func TestANewWatchHasNoBeds(t *testing.T) {
	w := New()
	if w == nil || len(w.Beds()) != 0 {
		t.Fatal("New")
	}
	for _, n := range numbers {
		if w.Remove(n) != 8 || w.Heard(n, n) || w.Lost(n) || len(w.Look(n)) != 0 || len(w.Beds()) != 0 {
			t.Errorf("of %d", n)
		}
	}
}

func TestNewWatchesShareNothing(t *testing.T) {
	a, b := with(t, 3, 5), with(t, 3, 5)
	a.wantLook(6, 1, 2, 3)
	b.check()
	b.wantLook(5)
	a.remove(2)
	b.wantBeds(1, 2, 3)
	a.heard(1, 6)
	b.wantLook(6, 1, 2, 3)
	b.mustAdd(9, 1, 6)
	a.wantBeds(1, 3)
}

func TestAddOfTicksAtTheEdges(t *testing.T) {
	for most, want := range map[int]api.Errno{math.MinInt: 1, -1001: 1, -1000: 1, -2: 1, -1: 1, 0: 1, 1: 0, 2: 0, 500: 0, 999: 0, 1000: 0, 1001: 1, 1002: 1, 1 << 16: 1, 1 << 32: 1, 1<<32 + 1: 1, 1<<32 + 1000: 1, math.MaxInt: 1} {
		b := begin(t)
		if e := b.add(7, most, 3); e != want {
			t.Errorf("of %d ticks: %d, not %d", most, e, want)
		}
		if there := len(b.w.Beds()) == 1; there != (want == 0) {
			t.Errorf("of %d ticks: there: %v", most, there)
		}
	}
	for most := -20; most < 1100; most++ {
		begin(t).add(7, most, 3)
	}
	for _, most := range numbers {
		begin(t).add(7, most, 3)
	}
}

func TestAddKeepsTheTicks(t *testing.T) {
	for _, most := range []int{1, 2, 3, 7, 127, 128, 255, 256, 500, 999, 1000} {
		b := begin(t)
		b.mustAdd(7, most, 0)
		b.wantLook(most)
		b.wantLook(most+1, 7)
	}
}

func TestAddPutsBehindAllOthers(t *testing.T) {
	b := begin(t)
	want := []int{}
	for i, bed := range []int{5, 3, 8, 1, 7, 2, 6, 4} {
		b.mustAdd(bed, 1+(i*5)%8, 100-i)
		want = append(want, bed)
		b.wantBeds(want...)
	}
	b.wantLook(200, want...)
}

func TestAddOfAnyBedAtAnyTime(t *testing.T) {
	for _, bed := range numbers {
		for _, now := range numbers {
			b := begin(t)
			b.mustAdd(bed, 5, now)
			b.wantBeds(bed)
			if b.w.Lost(bed) || b.heard(bed, now) {
				t.Errorf("the bed %d, come at %d, is lost", bed, now)
			}
		}
	}
}

// A bed comes heard last at that time, not at 0, nor at the last look.
func TestAddIsHeardLastThen(t *testing.T) {
	for _, now := range []int{0, 1, 10, 500, 1 << 32, end - 6} {
		b := begin(t)
		b.look(now + 3)
		b.mustAdd(7, 5, now)
		b.wantLook(now + 5)
		b.wantLook(now+6, 7)
	}
}

func TestAddTwice(t *testing.T) {
	b := with(t, 3, 5)
	for bed := 1; bed <= 3; bed++ {
		if e := b.add(bed, 9, 3); e != api.ErrTwice {
			t.Errorf("%d", e)
		}
	}
	b.wantBeds(1, 2, 3)
	b.wantLook(6, 1, 2, 3) // neither heard at 3, nor of 9 ticks
	if e := b.add(2, 5, 6); e != api.ErrTwice || !b.w.Lost(2) {
		t.Errorf("%d, lost: %v", e, b.w.Lost(2))
	}
}

func TestAddOfTheNinth(t *testing.T) {
	b := with(t, 7, 5)
	if e := b.add(8, 5, 0); e != api.OK {
		t.Errorf("%d", e)
	}
	if e := b.add(9, 5, 0); e != api.ErrFull {
		t.Errorf("%d", e)
	}
	b.wantBeds(1, 2, 3, 4, 5, 6, 7, 8)
	b.wantLook(6, 1, 2, 3, 4, 5, 6, 7, 8)
	if e := b.add(9, 5, 6); e != api.ErrFull {
		t.Errorf("those that are lost count too: %d", e)
	}
	b.remove(4)
	b.mustAdd(9, 5, 6)
	if e := b.add(10, 5, 6); e != api.ErrFull {
		t.Errorf("%d", e)
	}
}

// Where two errors hold, the first one is told, and nothing is turned.
func TestAddsFirstError(t *testing.T) {
	full, some := with(t, 8, 5), with(t, 3, 5)
	for _, most := range []int{math.MinInt, -1, 0, 1001, math.MaxInt} {
		if e := some.add(2, most, 0); e != api.ErrArg { // and ErrTwice
			t.Errorf("there, of %d ticks: %d", most, e)
		}
		if e := full.add(9, most, 0); e != api.ErrArg { // and ErrFull
			t.Errorf("full, of %d ticks: %d", most, e)
		}
		if e := full.add(2, most, 0); e != api.ErrArg { // all three
			t.Errorf("there and full, of %d ticks: %d", most, e)
		}
	}
	for bed := 1; bed <= 8; bed++ {
		if e := full.add(bed, 5, 0); e != api.ErrTwice { // and 8 are there
			t.Errorf("there and full: %d", e)
		}
	}
	full.wantLook(6, 1, 2, 3, 4, 5, 6, 7, 8)
	some.wantLook(6, 1, 2, 3)
}

func TestRemove(t *testing.T) {
	for gone := 1; gone <= 8; gone++ {
		b := begin(t)
		for bed := 1; bed <= 8; bed++ {
			b.mustAdd(bed, bed, 10-bed)
		}
		b.wantLook(11, 1, 2, 3, 4, 5, 6, 7, 8)
		for bed := 1; bed <= 8; bed += 2 {
			b.heard(bed, 20+bed)
		}
		if e := b.remove(gone); e != api.OK {
			t.Errorf("%d", e)
		}
		var want []int
		for bed := 1; bed <= 8; bed++ {
			if bed != gone {
				want = append(want, bed)
			}
			if b.w.Lost(bed) != (bed != gone && bed%2 == 0) { // the others stand as they stood
				t.Errorf("without %d: %d is lost: %v", gone, bed, b.w.Lost(bed))
			}
		}
		b.wantBeds(want...)
		for now := 20; now < 40; now++ {
			b.look(now)
		}
		if e := b.remove(gone); e != api.ErrNone {
			t.Errorf("%d", e)
		}
	}
}

func TestRemoveOfOneThatIsntThere(t *testing.T) {
	b := with(t, 8, 5)
	for _, bed := range numbers {
		if bed >= 1 && bed <= 8 {
			continue
		}
		if e := b.remove(bed); e != api.ErrNone {
			t.Errorf("of %d: %d", bed, e)
		}
	}
	b.wantLook(6, 1, 2, 3, 4, 5, 6, 7, 8)
}

func TestABedThatCameAgain(t *testing.T) {
	b := with(t, 3, 5)
	b.wantLook(6, 1, 2, 3)
	b.remove(1)
	b.mustAdd(1, 2, 6)
	b.wantBeds(2, 3, 1) // behind all
	if b.w.Lost(1) || !b.w.Lost(2) || !b.w.Lost(3) {
		t.Error("lost")
	}
	b.wantLook(8)
	b.wantLook(9, 1) // heard last anew, of other ticks

	b.remove(1)
	b.mustAdd(1, 5, 100)
	if b.heard(1, 100) {
		t.Error("lost ahead of coming")
	}
}

func TestRemoveInEachOrder(t *testing.T) {
	for n := range 5 * 4 * 3 * 2 {
		b := with(t, 5, 5)
		left := []int{1, 2, 3, 4, 5}
		for many := 5; many > 0; many-- {
			at := n % many
			n /= many
			b.remove(left[at])
			left = slices.Delete(left, at, at+1)
			b.wantBeds(left...)
			b.look(6 - many)
		}
	}
}

func TestBedsBehindAddAndRemove(t *testing.T) {
	r := rand.New(rand.NewSource(1))
	full, twice, none := 0, 0, 0
	for range 200 {
		b := begin(t)
		for range 80 {
			if r.Intn(5) < 3 {
				switch b.add(r.Intn(14), 1+r.Intn(3), r.Intn(5)) {
				case api.ErrFull:
					full++
				case api.ErrTwice:
					twice++
				}
			} else if b.remove(r.Intn(14)) == api.ErrNone {
				none++
			}
		}
	}
	if full < 100 || twice < 100 || none < 100 {
		t.Errorf("only %d, %d, %d", full, twice, none)
	}
}

// P15.2

func TestLookAtTheEdges(t *testing.T) {
	for _, most := range []int{1, 2, 3, 5, 127, 128, 256, 999, 1000} {
		for _, came := range []int{0, 1, 9, 1<<31 - 3, 1 << 31, 1<<32 - 1, 1 << 32, end - most - 1} {
			for far := -3; far <= 3; far++ {
				b := begin(t)
				b.mustAdd(7, most, came)
				told := b.look(came + most + far)
				if (len(told) == 1) != (far > 0) || b.w.Lost(7) != (far > 0) {
					t.Errorf("%d ticks, %d and %d later: %v", most, most, far, told)
				}
			}
		}
	}
}

func TestLookOfEachDifference(t *testing.T) {
	for most := 1; most <= 40; most++ {
		for far := -50; far <= 50; far++ {
			b := begin(t)
			b.mustAdd(7, most, 100)
			if told := b.look(100 + far); (len(told) == 1) != (far > most) {
				t.Errorf("%d ticks, %d later: %v", most, far, told)
			}
		}
	}
}

func TestLookTellsOnce(t *testing.T) {
	b := with(t, 4, 5)
	b.heard(2, 1)
	b.heard(4, 3)
	b.wantLook(5)
	b.wantLook(6, 1, 3)
	b.wantLook(6)
	b.wantLook(7, 2)
	b.wantLook(8)
	b.wantLook(9, 4)
	b.wantLook(1000)
	b.wantLook(end)
}

func TestLookTellsInTheOrderInWhichTheyCame(t *testing.T) {
	b := begin(t)
	for i, bed := range []int{50, 10, 40, 20, 30} {
		b.mustAdd(bed, 5-i, i) // the one that came last falls silent first
	}
	b.remove(40)
	b.mustAdd(40, 1, 2)
	b.wantLook(100, 50, 10, 20, 30, 40)
}

// Looking alone is no hearing: a bed is as silent as ahead of it.
func TestLookHearsNothing(t *testing.T) {
	b := with(t, 2, 5)
	for now := range 6 {
		b.wantLook(now)
	}
	b.wantLook(6, 1, 2)
}

// Once lost a bed stays so, even at a time at which it wouldn't be.
func TestLostStaysUntilItIsHeard(t *testing.T) {
	b := with(t, 1, 5)
	b.wantLook(6, 1)
	for _, now := range []int{5, 0, -1, 6, 7, end} {
		b.wantLook(now)
		if !b.w.Lost(1) {
			t.Fatalf("at %d", now)
		}
	}
	if !b.heard(1, 6) || b.w.Lost(1) {
		t.Error("heard")
	}
}

func TestHeard(t *testing.T) {
	b := with(t, 3, 5)
	if b.heard(1, 2) {
		t.Error("not lost ahead")
	}
	b.wantLook(6, 2, 3)
	b.wantLook(7)
	b.wantLook(8, 1)
	if !b.heard(1, 8) || b.w.Lost(1) || !b.w.Lost(2) || !b.w.Lost(3) {
		t.Error("lost ahead")
	}
	if b.heard(1, 8) {
		t.Error("not lost any more")
	}
	b.wantLook(13)
	b.wantLook(14, 1)
	if !b.heard(3, 14) || !b.heard(2, 15) || b.heard(2, 15) {
		t.Error("lost ahead")
	}
	b.wantLook(20, 3)
	b.wantLook(21, 2)
}

// It is heard last when it was heard, also if that is earlier than it was heard.
func TestHeardAtAnEarlierTime(t *testing.T) {
	b := begin(t)
	b.mustAdd(7, 5, 100)
	b.heard(7, 90)
	b.wantLook(95)
	b.wantLook(96, 7)
	if !b.heard(7, 80) || b.w.Lost(7) { // not lost until it is looked
		t.Error("heard")
	}
	b.wantLook(85)
	b.wantLook(86, 7)
}

func TestHeardOfOneThatIsntThere(t *testing.T) {
	b := with(t, 4, 5)
	b.wantLook(6, 1, 2, 3, 4)
	b.remove(4)
	for _, bed := range numbers {
		if bed >= 1 && bed <= 3 {
			continue
		}
		if b.heard(bed, 7) || b.w.Lost(bed) {
			t.Errorf("of %d", bed)
		}
	}
	b.wantBeds(1, 2, 3)
	if e := b.add(4, 5, 7); e != api.OK || b.w.Lost(4) {
		t.Errorf("%d", e)
	}
}

func TestLost(t *testing.T) {
	b := begin(t)
	b.mustAdd(1, 5, 0)
	b.mustAdd(2, 9, 0)
	if b.w.Lost(1) || b.w.Lost(2) || b.w.Lost(3) {
		t.Error("ahead of a look")
	}
	b.look(6)
	for range 3 { // asking turns nothing
		if !b.w.Lost(1) || b.w.Lost(2) || b.w.Lost(3) {
			t.Error("behind it")
		}
	}
	b.remove(1)
	if b.w.Lost(1) {
		t.Error("one that went")
	}
}

func TestOfANilWatch(t *testing.T) {
	var w *Watch
	for _, n := range numbers {
		for _, m := range numbers {
			if e := w.Add(n, m, n); e != api.ErrArg {
				t.Errorf("Add(%d, %d, %d) = %d", n, m, n, e)
			}
			if w.Heard(n, m) {
				t.Errorf("Heard(%d, %d)", n, m)
			}
		}
		if e := w.Remove(n); e != api.ErrNone {
			t.Errorf("Remove(%d) = %d", n, e)
		}
		if l := w.Look(n); len(l) != 0 || w.Lost(n) {
			t.Errorf("Look(%d) = %v", n, l)
		}
	}
	if l := w.Beds(); len(l) != 0 {
		t.Errorf("Beds() = %v", l)
	}
}

// step does something drawn at a time or near it.
func (b *both) step(r *rand.Rand, beds, most, now int) {
	b.t.Helper()
	near := now + r.Intn(5) - 2
	switch r.Intn(10) {
	case 0, 1:
		b.add(r.Intn(beds), r.Intn(most+2), near)
	case 2:
		b.remove(r.Intn(beds))
	case 3, 4, 5:
		b.heard(r.Intn(beds), near)
	default:
		b.look(near)
	}
}

func TestDrawnActs(t *testing.T) {
	r := rand.New(rand.NewSource(2))
	for range 400 {
		b := begin(t)
		beds, most, now := 1+r.Intn(12), 1+r.Intn(8), r.Intn(20)
		for range 100 {
			b.step(r, beds, most, now)
			now += r.Intn(3)
		}
	}
}

// P15.3

// diary is what a bed lived through, tick by tick.
type diary struct {
	most, came int
	heard      map[int]bool // the ticks at which it was heard, or came
	lostAhead  bool
}

// isSilentTo says whether a bed that is there wasn't heard at any of the last ticks ahead of one, so many as it may be silent.
func (d diary) isSilentTo(now int) bool {
	if now-d.most-1 < d.came {
		return false
	}
	for at := now - d.most; at < now; at++ {
		if d.heard[at] {
			return false
		}
	}
	return true
}

// lookAt looks at a tick, and holds each bed's silence against what is told.
func lookAt(t *testing.T, w *Watch, book map[int]*diary, now int) (lost int) {
	t.Helper()
	for bed, d := range book {
		d.lostAhead = w.Lost(bed)
	}
	told := w.Look(now)
	for bed, d := range book {
		silent := d.isSilentTo(now)
		if silent && !w.Lost(bed) {
			t.Fatalf("tick %d: the bed %d of %d ticks, heard at %v, isn't lost", now, bed, d.most, d.heard)
		}
		if !d.lostAhead && w.Lost(bed) != silent {
			t.Fatalf("tick %d: the bed %d of %d ticks, heard at %v, is lost: %v", now, bed, d.most, d.heard, !silent)
		}
		if slices.Contains(told, bed) != (silent && !d.lostAhead) {
			t.Fatalf("tick %d: the bed %d: told %v", now, bed, told)
		}
		if silent {
			lost++
		}
	}
	return lost
}

// liveOn lets beds come, go and be heard behind a tick's look, as drawn.
func liveOn(r *rand.Rand, w *Watch, book map[int]*diary, now int) {
	for range r.Intn(5) {
		bed, most := r.Intn(10), 1+r.Intn(6)
		switch r.Intn(6) {
		case 0:
			if w.Remove(bed) == api.OK {
				delete(book, bed)
			}
		case 1, 2:
			if w.Add(bed, most, now) == api.OK {
				book[bed] = &diary{most: most, came: now, heard: map[int]bool{now: true}}
			}
		default:
			w.Heard(bed, now)
			if d := book[bed]; d != nil {
				d.heard[now] = true
			}
		}
	}
}

func TestNoSilenceIsMissed(t *testing.T) {
	r := rand.New(rand.NewSource(3))
	lost := 0
	for range 200 {
		w, book, from := New(), map[int]*diary{}, r.Intn(1000)
		for now := from; now < from+80; now++ {
			lost += lookAt(t, w, book, now)
			liveOn(r, w, book, now)
		}
	}
	if lost < 1000 {
		t.Errorf("only %d times one was silent", lost)
	}
}

func TestSilenceOfEachLength(t *testing.T) {
	for _, most := range []int{1, 2, 3, 10, 100, 999, 1000} {
		w := New()
		w.Add(7, most, 50)
		for now := 51; now <= 50+most; now++ {
			if told := w.Look(now); len(told) != 0 || w.Lost(7) {
				t.Fatalf("%d ticks: lost at %d", most, now)
			}
		}
		if told := w.Look(50 + most + 1); !slices.Equal(told, []int{7}) || !w.Lost(7) {
			t.Errorf("%d ticks: %v", most, told)
		}
	}
}

// One that is heard at least every so many ticks as it may be silent never is lost, be it heard ahead of a tick's look or behind it.
func TestOneThatIsHeardIsNeverLost(t *testing.T) {
	r := rand.New(rand.NewSource(4))
	for _, most := range []int{1, 2, 3, 7, 100, 1000} {
		for round := range 20 {
			w, last := New(), r.Intn(100)
			w.Add(7, most, last)
			next := last + most // as late as may be
			for now := last + 1; now < last+5*most+50; now++ {
				ahead := r.Intn(2) == 0
				if now == next && ahead && w.Heard(7, now) {
					t.Fatalf("%d ticks: lost at %d", most, now)
				}
				if told := w.Look(now); len(told) != 0 || w.Lost(7) {
					t.Fatalf("%d ticks: lost at %d", most, now)
				}
				if now == next && !ahead && w.Heard(7, now) {
					t.Fatalf("%d ticks: lost at %d", most, now)
				}
				if now == next && round%2 == 0 {
					next += most
				} else if now == next {
					next += 1 + r.Intn(most)
				}
			}
		}
	}
}

// alone is a watch for each bed, to each of which that bed's acts alone are done.
type alone map[int]*Watch

func (a alone) of(bed int) *Watch {
	if a[bed] == nil {
		a[bed] = New()
	}
	return a[bed]
}

func (a alone) lookInOrder(order []int, now int) []int {
	var told []int
	for _, bed := range order {
		told = append(told, a.of(bed).Look(now)...)
	}
	return told
}

func TestBedsDontMatterToOneAnother(t *testing.T) {
	r := rand.New(rand.NewSource(5))
	for range 200 {
		w, a, now := New(), alone{}, r.Intn(10)
		for range 150 {
			bed, most := r.Intn(8), 1+r.Intn(5)
			switch r.Intn(8) {
			case 0, 1:
				if e, want := w.Add(bed, most, now), a.of(bed).Add(bed, most, now); e != want {
					t.Fatalf("Add: %d, alone %d", e, want)
				}
			case 2:
				if e, want := w.Remove(bed), a.of(bed).Remove(bed); e != want {
					t.Fatalf("Remove: %d, alone %d", e, want)
				}
			case 3, 4:
				if was, want := w.Heard(bed, now), a.of(bed).Heard(bed, now); was != want {
					t.Fatalf("Heard: %v, alone %v", was, want)
				}
			default:
				now += r.Intn(3)
				if told, want := w.Look(now), a.lookInOrder(w.Beds(), now); !slices.Equal(told, want) {
					t.Fatalf("Look: %v, alone %v", told, want)
				}
			}
			for bed := range 8 {
				if w.Lost(bed) != a.of(bed).Lost(bed) {
					t.Fatalf("Lost(%d) = %v", bed, w.Lost(bed))
				}
			}
		}
	}
}

// The rules that hold everywhere.

// Rule 1: any numbers, in any order, one behind the other.
func TestAnyNumbers(t *testing.T) {
	r := rand.New(rand.NewSource(6))
	drawn := func() int { return numbers[r.Intn(len(numbers))] }
	for range 300 {
		b := begin(t)
		for range 60 {
			switch r.Intn(6) {
			case 0:
				b.remove(drawn())
			case 1:
				b.add(drawn(), drawn(), drawn())
			case 2:
				b.add(drawn(), 1+r.Intn(1000), drawn())
			case 3:
				b.look(drawn())
			case 4:
				b.heard(r.Intn(10), drawn())
			default:
				b.heard(drawn(), drawn())
			}
			n := drawn()
			if l := b.w.Lost(n); l != b.s.lost(n) {
				t.Fatalf("Lost(%d) = %v", n, l)
			}
		}
	}
}

// Times of any numbers don't wrap round.
func TestEachTwoTimes(t *testing.T) {
	for _, last := range numbers {
		for _, now := range numbers {
			for _, most := range []int{1, 2, 999, 1000} {
				came, heard := begin(t), begin(t)
				came.mustAdd(7, most, last)
				came.look(now)
				heard.mustAdd(7, most, now)
				heard.heard(7, last)
				heard.look(now)
			}
		}
	}
}

// spoil turns all of a list's numbers, its spare room included.
func spoil(list []int) {
	for i := range list[:cap(list)] {
		list[:cap(list)][i] = -5
	}
}

// Rule 4: an answer is new memory.
func TestAnswersAreNewMemory(t *testing.T) {
	b := begin(t)
	for round := range 200 {
		spoil(b.w.Beds())
		b.check()
		b.add(round%11, 1+round%4, round)
		spoil(b.w.Beds())
		_ = append(b.w.Beds(), -9)
		b.check()
		spoil(b.look(round + round%3))
		b.check()
		b.heard(round*3%11, round)
		if round%4 == 0 {
			b.remove(round * 5 % 11)
		}
		first, second := b.w.Beds(), b.w.Beds()
		spoil(first)
		if !slices.Equal(second, b.s.beds()) {
			t.Fatalf("round %d: %v", round, second)
		}
	}
}

// What was answered stays as it was, whatever is done afterwards.
func TestAnswersStay(t *testing.T) {
	b := with(t, 7, 5)
	told, beds := b.look(6), b.w.Beds()
	wasTold, wereBeds := slices.Clone(told), slices.Clone(beds)
	if len(told) != 7 {
		t.Fatal(told)
	}
	b.remove(3)
	b.mustAdd(20, 1, 6)
	b.mustAdd(21, 2, 6)
	b.heard(1, 7)
	b.wantLook(50, 1, 20, 21)
	b.remove(20)
	b.w.Beds()
	if !slices.Equal(told, wasTold) || !slices.Equal(beds, wereBeds) {
		t.Errorf("%v, %v", told, beds)
	}
}

// Rule 6: what is answered hangs on what was done, on nothing else.
func TestTheSameActsAnswerTheSame(t *testing.T) {
	number := func(b bool) int {
		if b {
			return 1
		}
		return 0
	}
	run := func() []int {
		r := rand.New(rand.NewSource(7))
		w := New()
		var told []int
		for now := range 400 {
			switch r.Intn(4) {
			case 0:
				told = append(told, int(w.Add(r.Intn(12), r.Intn(5), now)))
			case 1:
				told = append(told, int(w.Remove(r.Intn(12))))
			default:
				told = append(told, number(w.Heard(r.Intn(12), now)))
			}
			told = append(told, w.Look(now)...)
			told = append(told, number(w.Lost(r.Intn(12))))
			told = append(told, w.Beds()...)
		}
		return told
	}
	first := run()
	for range 5 {
		if !slices.Equal(run(), first) {
			t.Fatal("not the same")
		}
	}
}

// What is done to one in between turns nothing of another one.
func TestWatchesSideBySide(t *testing.T) {
	r := rand.New(rand.NewSource(8))
	var l []*both
	for range 4 {
		l = append(l, begin(t))
	}
	for now := range 800 {
		l[r.Intn(4)].step(r, 10, 4, now)
		for _, b := range l {
			b.check()
		}
	}
}

// An answer without an error, and the errors, by the numbers of api.
func TestErrors(t *testing.T) {
	b := with(t, 8, 5)
	if e := b.w.Add(9, 5, 0); e != api.ErrFull {
		t.Errorf("%d", e)
	}
	if e := b.w.Add(8, 5, 0); e != api.ErrTwice {
		t.Errorf("%d", e)
	}
	if e := b.w.Add(8, 0, 0); e != api.ErrArg {
		t.Errorf("%d", e)
	}
	if e := b.w.Remove(9); e != api.ErrNone {
		t.Errorf("%d", e)
	}
	if e := b.w.Remove(8); e != api.OK {
		t.Errorf("%d", e)
	}
	if e := b.w.Add(8, 5, 0); e != api.OK {
		t.Errorf("%d", e)
	}
}

func TestTheExample(t *testing.T) {
	w := New()
	if e := w.Add(1, 5, 0); e != api.OK {
		t.Fatal(e)
	}
	if l := w.Look(5); len(l) != 0 {
		t.Errorf("Look(5) = %v", l)
	}
	if l := w.Look(6); !slices.Equal(l, []int{1}) {
		t.Errorf("Look(6) = %v", l)
	}
}
