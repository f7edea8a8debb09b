package limit

import (
	"math"
	"math/rand"
	"slices"
	"testing"

	"gurney/api"
)

// What is asked for is reckoned by the tests themselves: by a row of limits, each with all values that came since it was set, gone through from the last one, with the document's numbers written out.

// told is a limit by its words.
type told struct {
	limit  api.Limit
	values []int
}

// story is a table by its words.
type story struct{ row []told }

// numbers are any, at the edges of what a limit has, and such that low bits of them alone would do.
var numbers = []int{
	math.MinInt, math.MinInt + 1, -1<<40 - 1, -1 << 40, math.MinInt32, -1 << 32, -1000, -999, -101, -100, -99, -5, -4, -3, -2, -1,
	0, 1, 2, 3, 4, 5, 6, 7, 8, 39, 40, 41, 50, 98, 99, 100, 101, 102, 127, 128, 255, 256, 257, 511, 512, 998, 999, 1000, 1001, 1023, 1024, 1025,
	1 << 16, 1<<16 + 1, math.MaxInt32, 1 << 32, 1<<32 + 1, 1<<32 + 4, 1<<32 + 50, 1<<32 + 100, 1<<40 - 1, 1 << 40, 1 << 62, math.MaxInt - 1, math.MaxInt,
}

// may goes by the document's numbers alone.
func may(l api.Limit) bool {
	switch {
	case l.Bed < 0, l.Bed > 99:
		return false
	case l.Kind != 1 && l.Kind != 2 && l.Kind != 3 && l.Kind != 4:
		return false
	case l.From < 0, l.From > 999, l.To < 0, l.To > 999:
		return false
	case l.From > l.To:
		return false
	}
	return l.Count > 0 && l.Count < 101
}

func (s *story) at(bed, kind int) int {
	for i, x := range s.row {
		if x.limit.Bed == bed && x.limit.Kind == kind {
			return i
		}
	}
	return -1
}

func (s *story) set(l api.Limit) api.Errno {
	if !may(l) {
		return 1
	}
	if i := s.at(l.Bed, l.Kind); i != -1 {
		s.row[i] = told{limit: l}
		return 0
	}
	if len(s.row) == 40 {
		return 7
	}
	s.row = append(s.row, told{limit: l})
	return 0
}

func (s *story) drop(bed int) int {
	var stay []told
	for _, x := range s.row {
		if x.limit.Bed != bed {
			stay = append(stay, x)
		}
	}
	many := len(s.row) - len(stay)
	s.row = stay
	return many
}

// beyond is how many of the last values are, one behind the other.
func (s *story) beyond(bed, kind int) int {
	i := s.at(bed, kind)
	if i == -1 {
		return 0
	}
	x, n := s.row[i], 0
	for n < len(x.values) {
		v := x.values[len(x.values)-1-n]
		if x.limit.From <= v && v <= x.limit.To {
			break
		}
		n++
	}
	return n
}

func (s *story) on(bed, kind int) bool {
	i := s.at(bed, kind)
	return i != -1 && s.beyond(bed, kind) >= s.row[i].limit.Count
}

func (s *story) see(bed, kind, value int) (bool, bool) {
	was := s.on(bed, kind)
	if i := s.at(bed, kind); i != -1 {
		s.row[i].values = append(s.row[i].values, value)
	}
	return was, s.on(bed, kind)
}

func (s *story) list() []api.Limit {
	var l []api.Limit
	for _, x := range s.row {
		l = append(l, x.limit)
	}
	return l
}

// both is a table and its story, to which the same is done; what they answer is held against each other.
type both struct {
	t *testing.T
	x *Table
	s story
}

func begin(t *testing.T) *both {
	t.Helper()
	x := New()
	if x == nil {
		t.Fatal("New() = nil")
	}
	b := &both{t: t, x: x}
	b.check()
	return b
}

// with is a table with limits.
func with(t *testing.T, l ...api.Limit) *both {
	t.Helper()
	b := begin(t)
	for _, limit := range l {
		b.mustSet(limit)
	}
	return b
}

// filled is a table with 40 limits: of ten beds from 10 on, each of all kinds.
func filled(t *testing.T) *both {
	t.Helper()
	b := begin(t)
	for i := range 40 {
		b.mustSet(api.Limit{Bed: 10 + i%10, Kind: 1 + i/10, From: i, To: i + 50, Count: 1 + i})
	}
	return b
}

func (b *both) checkOf(bed, kind int) {
	b.t.Helper()
	if n := b.x.Beyond(bed, kind); n != b.s.beyond(bed, kind) {
		b.t.Fatalf("Beyond(%d, %d) = %d, not %d", bed, kind, n, b.s.beyond(bed, kind))
	}
	if on := b.x.On(bed, kind); on != b.s.on(bed, kind) {
		b.t.Fatalf("On(%d, %d) = %v", bed, kind, on)
	}
}

func (b *both) check() {
	b.t.Helper()
	want := b.s.list()
	if l := b.x.List(); !slices.Equal(l, want) {
		b.t.Fatalf("List() = %v, not %v", l, want)
	}
	for _, l := range want {
		for kind := 0; kind <= 5; kind++ {
			b.checkOf(l.Bed, kind)
		}
	}
	for _, bed := range []int{-1, 0, 1, 50, 99, 100, 1 << 32, math.MaxInt} {
		b.checkOf(bed, 1)
		b.checkOf(bed, 4)
	}
}

func (b *both) set(l api.Limit) api.Errno {
	b.t.Helper()
	e, want := b.x.Set(l), b.s.set(l)
	if e != want {
		b.t.Fatalf("Set(%v) = %d, not %d, of %d", l, e, want, len(b.s.row))
	}
	b.check()
	return e
}

func (b *both) mustSet(l api.Limit) {
	b.t.Helper()
	if e := b.set(l); e != 0 {
		b.t.Fatalf("Set(%v) = %d", l, e)
	}
}

func (b *both) drop(bed int) int {
	b.t.Helper()
	n, want := b.x.Drop(bed), b.s.drop(bed)
	if n != want {
		b.t.Fatalf("Drop(%d) = %d, not %d", bed, n, want)
	}
	b.check()
	return n
}

func (b *both) see(bed, kind, value int) (bool, bool) {
	b.t.Helper()
	was, is := b.x.See(bed, kind, value)
	wantWas, wantIs := b.s.see(bed, kind, value)
	if was != wantWas || is != wantIs {
		b.t.Fatalf("See(%d, %d, %d) = %v, %v, not %v, %v", bed, kind, value, was, is, wantWas, wantIs)
	}
	b.check()
	return was, is
}

// seeAll takes values of one bed and kind.
func (b *both) seeAll(bed, kind int, values ...int) {
	b.t.Helper()
	for _, v := range values {
		b.see(bed, kind, v)
	}
}

// wantSee asks for what is written out.
func (b *both) wantSee(bed, kind, value int, wantWas, wantIs bool) {
	b.t.Helper()
	if was, is := b.see(bed, kind, value); was != wantWas || is != wantIs {
		b.t.Errorf("See(%d, %d, %d) = %v, %v", bed, kind, value, was, is)
	}
}

// wantBeds asks for the beds and kinds of all limits, by turns.
func (b *both) wantBeds(want ...int) {
	b.t.Helper()
	var got []int
	for _, l := range b.x.List() {
		got = append(got, l.Bed, l.Kind)
	}
	if !slices.Equal(got, want) {
		b.t.Errorf("limits of %v, not %v", got, want)
	}
}

// plain is a limit of a bed and a kind: from 50 to 100, of two values.
func plain(bed, kind int) api.Limit {
	return api.Limit{Bed: bed, Kind: kind, From: 50, To: 100, Count: 2}
}

// P14.1

func TestMayAtTheEdges(t *testing.T) {
	ok := plain(7, 2)
	if !May(ok) {
		t.Fatal("one that may be")
	}
	for _, x := range []struct {
		part string
		turn func(l *api.Limit, n int)
		want map[int]bool
	}{
		{"Bed", func(l *api.Limit, n int) { l.Bed = n }, map[int]bool{-1: false, 0: true, 1: true, 98: true, 99: true, 100: false, 1 << 32: false, -1 << 32: false}},
		{"Kind", func(l *api.Limit, n int) { l.Kind = n }, map[int]bool{-1: false, 0: false, 1: true, 2: true, 3: true, 4: true, 5: false, 6: false, 8: false, 9: false, 1<<32 + 1: false}},
		{"From", func(l *api.Limit, n int) { l.From, l.To = n, 999 }, map[int]bool{-1: false, 0: true, 1: true, 998: true, 999: true, 1000: false, -1 << 32: false, 1 << 32: false}},
		{"To", func(l *api.Limit, n int) { l.From, l.To = 0, n }, map[int]bool{-1: false, 0: true, 1: true, 998: true, 999: true, 1000: false, 1023: false, 1024: false, 1 << 32: false}},
		{"To behind From", func(l *api.Limit, n int) { l.From, l.To = 500, n }, map[int]bool{0: false, 498: false, 499: false, 500: true, 501: true}},
		{"From and To", func(l *api.Limit, n int) { l.From, l.To = n, n }, map[int]bool{-1: false, 0: true, 1: true, 255: true, 256: true, 998: true, 999: true, 1000: false}},
		{"Count", func(l *api.Limit, n int) { l.Count = n }, map[int]bool{-1: false, 0: false, 1: true, 2: true, 99: true, 100: true, 101: false, 1<<32 + 1: false}},
	} {
		for n, want := range x.want {
			l := ok
			x.turn(&l, n)
			if May(l) != want {
				t.Errorf("%s %d: May(%v) = %v", x.part, n, l, !want)
			}
		}
	}
}

func TestMayOfAnyNumberOfAnyPart(t *testing.T) {
	for _, n := range numbers {
		for _, m := range numbers {
			for _, l := range []api.Limit{
				{Bed: n, Kind: m, From: 1, To: 2, Count: 3}, {Bed: 1, Kind: n, From: m, To: 999, Count: 3}, {Bed: 1, Kind: n, From: 0, To: m, Count: 3},
				{Bed: 1, Kind: 1, From: n, To: m, Count: 3}, {Bed: 1, Kind: 4, From: 0, To: n, Count: m}, {Bed: n, Kind: 2, From: m, To: 999, Count: 100}, {Bed: n, Kind: 3, From: 0, To: 0, Count: m},
			} {
				if May(l) != may(l) {
					t.Errorf("May(%v) = %v", l, May(l))
				}
			}
		}
	}
}

func TestMayOfDrawnLimits(t *testing.T) {
	r := rand.New(rand.NewSource(1))
	many := 0
	for range 20000 {
		l := api.Limit{Bed: r.Intn(110) - 5, Kind: r.Intn(6), From: r.Intn(1010) - 5, To: r.Intn(1010) - 5, Count: r.Intn(110) - 5}
		if May(l) != may(l) {
			t.Fatalf("May(%v) = %v", l, May(l))
		}
		if may(l) {
			many++
		}
	}
	if many < 1000 {
		t.Errorf("only %d may be", many)
	}
}

func TestANewTableHasNoLimits(t *testing.T) {
	x := New()
	if l := x.List(); len(l) != 0 {
		t.Errorf("%v", l)
	}
	for _, n := range numbers {
		for _, kind := range numbers {
			was, is := x.See(n, kind, n)
			if was || is || x.On(n, kind) || x.Beyond(n, kind) != 0 {
				t.Errorf("of %d, %d", n, kind)
			}
		}
		if x.Drop(n) != 0 {
			t.Errorf("Drop(%d)", n)
		}
	}
	if l := x.List(); len(l) != 0 {
		t.Errorf("%v", l)
	}
}

func TestNewTablesShareNothing(t *testing.T) {
	a, b := with(t, plain(1, 1)), with(t, plain(1, 1))
	a.seeAll(1, 1, 0, 0, 0)
	b.check()
	a.mustSet(plain(2, 2))
	b.wantBeds(1, 1)
	b.drop(1)
	a.wantBeds(1, 1, 2, 2)
	a.check()
}

func TestSetBehindAll(t *testing.T) {
	b := begin(t)
	b.mustSet(plain(5, 3))
	b.wantBeds(5, 3)
	b.mustSet(plain(9, 1))
	b.wantBeds(5, 3, 9, 1)
	b.mustSet(plain(5, 1)) // neither by its bed nor by its kind
	b.wantBeds(5, 3, 9, 1, 5, 1)
	b.mustSet(plain(0, 4))
	b.wantBeds(5, 3, 9, 1, 5, 1, 0, 4)
}

func TestSetInThePlaceOfTheOne(t *testing.T) {
	for place := range 5 {
		b := with(t, plain(4, 2), plain(3, 1), plain(4, 1), plain(3, 2), plain(8, 4))
		l := b.s.row[place].limit
		l.From, l.To, l.Count = 7, 8, 9
		b.mustSet(l)
		b.wantBeds(4, 2, 3, 1, 4, 1, 3, 2, 8, 4)
		if got := b.x.List(); got[place] != l || got[(place+1)%5].From != 50 {
			t.Errorf("%d: %v", place, got)
		}
	}
}

func TestSetHasNoneBeyond(t *testing.T) {
	b := with(t, plain(4, 2), plain(4, 1))
	b.seeAll(4, 2, 0, 0, 0)
	b.seeAll(4, 1, 0, 0, 0)
	b.mustSet(plain(4, 2)) // the same one
	if b.x.Beyond(4, 2) != 0 || b.x.On(4, 2) {
		t.Error("the one that was set")
	}
	if b.x.Beyond(4, 1) != 3 || !b.x.On(4, 1) {
		t.Error("another one")
	}
	b.wantSee(4, 2, 0, false, false)
	b.wantSee(4, 2, 0, false, true)
}

// A limit whose Count is less isn't an alarm by what came ahead of it.
func TestSetOfALesserCount(t *testing.T) {
	b := with(t, api.Limit{Bed: 4, Kind: 2, From: 50, To: 100, Count: 5})
	b.seeAll(4, 2, 0, 0, 0)
	b.mustSet(api.Limit{Bed: 4, Kind: 2, From: 50, To: 100, Count: 3})
	b.wantSee(4, 2, 0, false, false)
	b.wantSee(4, 2, 0, false, false)
	b.wantSee(4, 2, 0, false, true)
}

// A value is held against the limit that there is, not against one that was.
func TestSetGoesByTheNewOne(t *testing.T) {
	b := with(t, api.Limit{Bed: 4, Kind: 2, From: 50, To: 100, Count: 1})
	b.wantSee(4, 2, 49, false, true)
	b.mustSet(api.Limit{Bed: 4, Kind: 2, From: 20, To: 48, Count: 1})
	b.wantSee(4, 2, 48, false, false)
	b.wantSee(4, 2, 49, false, true)
	b.wantSee(4, 2, 20, true, false)
	b.wantSee(4, 2, 19, false, true)
}

func TestSetOfOneThatMayNotBe(t *testing.T) {
	for _, l := range []api.Limit{
		{}, {Bed: 4, Kind: 2}, {Bed: 4, Kind: 2, From: 50, To: 100, Count: 101}, {Bed: 4, Kind: 2, From: 50, To: 49, Count: 1}, {Bed: 4, Kind: 2, From: -1, To: 49, Count: 1},
		{Bed: 4, Kind: 2, From: 50, To: 1000, Count: 1}, {Bed: -1, Kind: 2, From: 50, To: 100, Count: 1}, {Bed: 100, Kind: 2, From: 50, To: 100, Count: 1},
		{Bed: 4, Kind: 0, From: 50, To: 100, Count: 1}, {Bed: 4, Kind: 5, From: 50, To: 100, Count: 1},
	} {
		b := with(t, plain(3, 1), plain(4, 2))
		b.seeAll(4, 2, 0, 0, 0)
		if e := b.set(l); e != api.ErrArg {
			t.Errorf("Set(%v) = %d", l, e)
		}
		b.wantBeds(3, 1, 4, 2)
		if b.x.Beyond(4, 2) != 3 || !b.x.On(4, 2) {
			t.Errorf("Set(%v) turned how many are beyond", l)
		}
	}
}

func TestSetOfANilTable(t *testing.T) {
	var x *Table
	if e := x.Set(plain(4, 2)); e != api.ErrArg {
		t.Errorf("%d", e)
	}
	if e := x.Set(api.Limit{}); e != api.ErrArg {
		t.Errorf("%d", e)
	}
	if len(x.List()) != 0 {
		t.Error("List")
	}
}

func TestSetWhereThereAre40(t *testing.T) {
	b := filled(t)
	ahead := b.x.List()
	if len(ahead) != 40 {
		t.Fatalf("%d limits", len(ahead))
	}
	for _, l := range []api.Limit{plain(9, 1), plain(20, 4), plain(0, 2), plain(99, 3)} {
		if e := b.set(l); e != api.ErrFull {
			t.Errorf("Set(%v) = %d", l, e)
		}
		if b.x.On(l.Bed, l.Kind) || b.x.Beyond(l.Bed, l.Kind) != 0 {
			t.Errorf("there is %v", l)
		}
		b.wantSee(l.Bed, l.Kind, 0, false, false)
		b.wantSee(l.Bed, l.Kind, 0, false, false)
	}
	if !slices.Equal(b.x.List(), ahead) {
		t.Error("ErrFull turned the list")
	}
	for _, l := range ahead {
		if e := b.set(plain(l.Bed, l.Kind)); e != api.OK {
			t.Errorf("in the place of one of 40: %d", e)
		}
	}
	if len(b.x.List()) != 40 {
		t.Errorf("%d limits", len(b.x.List()))
	}
}

// ErrArg comes first: also where there are 40.
func TestSetOfOneThatMayNotBeWhereThereAre40(t *testing.T) {
	b := filled(t)
	for _, l := range []api.Limit{{}, {Bed: 9, Kind: 5, Count: 1}, {Bed: 9, Kind: 1, Count: 0}, {Bed: 9, Kind: 1, From: 2, To: 1, Count: 1}, {Bed: 10, Kind: 1, Count: 101}} {
		if e := b.set(l); e != api.ErrArg {
			t.Errorf("Set(%v) = %d", l, e)
		}
	}
}

func TestThereIsRoomBehindDrop(t *testing.T) {
	b := filled(t)
	if n := b.drop(13); n != 4 {
		t.Errorf("%d", n)
	}
	for kind := 1; kind <= 4; kind++ {
		b.mustSet(plain(50, kind))
	}
	if e := b.set(plain(51, 1)); e != api.ErrFull {
		t.Errorf("%d", e)
	}
	if e := b.set(plain(13, 1)); e != api.ErrFull {
		t.Errorf("%d", e)
	}
	b.drop(50)
	b.mustSet(plain(13, 1))
}

func TestDropOfEachBed(t *testing.T) {
	for bed, want := range map[int]int{1: 1, 2: 2, 3: 3, 4: 4, 5: 0, 0: 0, -1: 0} {
		b := with(t, plain(4, 1), plain(3, 1), plain(2, 4), plain(4, 3), plain(3, 4), plain(1, 2), plain(4, 2), plain(3, 2), plain(2, 1), plain(4, 4))
		for _, l := range b.s.list() {
			b.seeAll(l.Bed, l.Kind, 0, 0, 0)
		}
		if n := b.drop(bed); n != want {
			t.Errorf("Drop(%d) = %d", bed, n)
		}
		if n := b.drop(bed); n != 0 {
			t.Errorf("Drop(%d) again = %d", bed, n)
		}
		for kind := 1; kind <= 4; kind++ {
			b.wantSee(bed, kind, 0, false, false)
			if b.x.On(bed, kind) || b.x.Beyond(bed, kind) != 0 {
				t.Errorf("there is one of %d, %d", bed, kind)
			}
		}
	}
}

func TestDropLetsTheOthersStandAsTheyStood(t *testing.T) {
	b := with(t, plain(1, 1), plain(2, 1), plain(1, 2), plain(3, 1), plain(2, 2))
	b.seeAll(1, 1, 0)
	b.seeAll(1, 2, 0, 0)
	b.seeAll(3, 1, 0, 0, 0)
	b.seeAll(2, 2, 0, 0, 0, 0)
	if n := b.drop(2); n != 2 {
		t.Errorf("%d", n)
	}
	b.wantBeds(1, 1, 1, 2, 3, 1)
	if b.x.Beyond(1, 1) != 1 || b.x.Beyond(1, 2) != 2 || b.x.Beyond(3, 1) != 3 {
		t.Error("how many are beyond")
	}
	b.wantSee(1, 1, 0, false, true)
	b.wantSee(1, 2, 0, true, true)
	b.wantSee(3, 1, 60, true, false)
}

// What went leaves nothing: set again it stands behind all, with none beyond.
func TestSetBehindDrop(t *testing.T) {
	b := with(t, plain(2, 1), plain(1, 1), plain(2, 3))
	b.seeAll(2, 1, 0, 0, 0)
	b.drop(2)
	b.mustSet(plain(2, 1))
	b.wantBeds(1, 1, 2, 1)
	b.wantSee(2, 1, 0, false, false)
	b.wantSee(2, 1, 0, false, true)
	b.drop(1)
	b.drop(2)
	b.wantBeds()
	b.mustSet(plain(1, 4))
	b.wantBeds(1, 4)
}

// P14.2

// Of each value, near the limit's ends and far from them, each count, on either side.
func TestSeeAtTheEdges(t *testing.T) {
	for _, count := range []int{1, 2, 3, 99, 100} {
		for _, ends := range [][2]int{{50, 100}, {0, 0}, {0, 999}, {999, 999}, {1, 998}, {70, 70}} {
			from, to := ends[0], ends[1]
			for _, value := range append(slices.Clone(numbers), from-1, from, from+1, to-1, to, to+1) {
				isBeyond := value < from || value > to
				x := New()
				x.Set(api.Limit{Bed: 7, Kind: 3, From: from, To: to, Count: count})
				for i := 1; i <= count+2; i++ {
					was, is := x.See(7, 3, value)
					if was != (isBeyond && i > count) || is != (isBeyond && i >= count) || x.On(7, 3) != is {
						t.Fatalf("%d to %d, %d: %d, the %dth: %v, %v", from, to, count, value, i, was, is)
					}
					if n := x.Beyond(7, 3); isBeyond && n != i || !isBeyond && n != 0 {
						t.Fatalf("%d to %d, %d: %d, the %dth: %d beyond", from, to, count, value, i, n)
					}
				}
			}
		}
	}
}

func TestSeeOfAValueWithin(t *testing.T) {
	for _, within := range []int{50, 51, 75, 99, 100} {
		b := with(t, api.Limit{Bed: 7, Kind: 3, From: 50, To: 100, Count: 3})
		b.wantSee(7, 3, 49, false, false)
		b.wantSee(7, 3, 101, false, false)
		b.wantSee(7, 3, within, false, false) // one ahead of the third: all of it anew
		if n := b.x.Beyond(7, 3); n != 0 {
			t.Errorf("%d beyond", n)
		}
		b.wantSee(7, 3, 49, false, false)
		b.wantSee(7, 3, 49, false, false)
		b.wantSee(7, 3, 101, false, true)
		b.wantSee(7, 3, 0, true, true)
		b.wantSee(7, 3, within, true, false)
		b.wantSee(7, 3, within, false, false)
		b.wantSee(7, 3, 999, false, false)
	}
}

func TestSeeOfCountOne(t *testing.T) {
	b := with(t, api.Limit{Bed: 0, Kind: 1, From: 50, To: 100, Count: 1})
	b.wantSee(0, 1, 50, false, false)
	b.wantSee(0, 1, 49, false, true)
	b.wantSee(0, 1, 49, true, true)
	b.wantSee(0, 1, 100, true, false)
	b.wantSee(0, 1, 101, false, true)
	b.wantSee(0, 1, 50, true, false)
}

// How many came goes on behind Count.
func TestBeyondGoesOn(t *testing.T) {
	x := New()
	x.Set(plain(7, 4))
	for i := range 5000 {
		if n := x.Beyond(7, 4); n != i {
			t.Fatalf("%d, not %d", n, i)
		}
		x.See(7, 4, i%2*999)
	}
	if was, is := x.See(7, 4, 50); !was || is || x.Beyond(7, 4) != 0 {
		t.Errorf("%v, %v, %d", was, is, x.Beyond(7, 4))
	}
}

// To ask turns nothing.
func TestToAskTurnsNothing(t *testing.T) {
	b := with(t, plain(7, 4), plain(8, 1))
	b.seeAll(7, 4, 0)
	for range 5 {
		b.x.On(7, 4)
		b.x.Beyond(7, 4)
		b.x.List()
		b.x.On(1, 1)
		b.x.Beyond(1, 1)
		May(plain(7, 4))
	}
	b.check()
	b.wantSee(7, 4, 0, false, true)
}

func TestWithoutALimit(t *testing.T) {
	b := with(t, plain(7, 4), plain(8, 1))
	for _, x := range [][2]int{{7, 1}, {8, 4}, {7, 0}, {7, 5}, {8, 0}, {8, 5}, {4, 7}, {0, 0}, {6, 4}, {1<<32 + 7, 4}, {7, 1<<32 + 4}, {-7, 4}, {7, -4}} {
		for range 3 {
			b.wantSee(x[0], x[1], 0, false, false)
		}
		if b.x.On(x[0], x[1]) || b.x.Beyond(x[0], x[1]) != 0 {
			t.Errorf("of %v", x)
		}
		// And it has none beyond, when it comes.
		if l := plain(x[0], x[1]); May(l) {
			b.mustSet(l)
			b.wantSee(x[0], x[1], 0, false, false)
			b.wantSee(x[0], x[1], 0, false, true)
			b.drop(x[0])
			b.mustSet(plain(7, 4))
			b.mustSet(plain(8, 1))
		}
	}
}

func TestANilTable(t *testing.T) {
	var x *Table
	for _, n := range numbers {
		for _, kind := range []int{-1, 0, 1, 4, 5, math.MaxInt} {
			was, is := x.See(n, kind, n)
			if was || is || x.On(n, kind) || x.Beyond(n, kind) != 0 || x.Drop(n) != 0 || len(x.List()) != 0 {
				t.Errorf("of %d, %d", n, kind)
			}
		}
	}
}

// P14.3

// step does one that is drawn, and says whether an alarm came or went by it.
func (b *both) step(r *rand.Rand, beds, counts int) (came, went bool) {
	b.t.Helper()
	switch n := r.Intn(60); {
	case n < 8:
		from := r.Intn(4)
		b.set(api.Limit{Bed: r.Intn(beds), Kind: 1 + r.Intn(4), From: from, To: from + r.Intn(4), Count: 1 + r.Intn(counts)})
	case n == 8:
		b.drop(r.Intn(beds))
	case n == 9:
		b.set(api.Limit{Bed: r.Intn(beds), Kind: r.Intn(6), From: r.Intn(4), To: r.Intn(4), Count: r.Intn(counts)})
	default:
		was, is := b.see(r.Intn(beds), 1+r.Intn(4), r.Intn(9))
		return !was && is, was && !is
	}
	return false, false
}

func TestDrawnActs(t *testing.T) {
	r := rand.New(rand.NewSource(2))
	comes, goes, fulls := 0, 0, 0
	for round := range 200 {
		b := begin(t)
		if round%4 == 0 {
			b = filled(t)
		}
		beds, counts := 1+r.Intn(22), 1+r.Intn(5)
		for range 250 {
			came, went := b.step(r, beds, counts)
			if came {
				comes++
			}
			if went {
				goes++
			}
			if len(b.s.row) == 40 {
				fulls++
			}
		}
	}
	if comes < 1000 || goes < 500 || fulls < 20 {
		t.Errorf("only %d came, %d went, %d times full", comes, goes, fulls)
	}
}

// An alarm comes with the Count-th value beyond, and goes with the first within: of each row of values, on either side.
func TestEachRowOfValues(t *testing.T) {
	values := [3]int{49, 70, 101}
	for count := 1; count <= 4; count++ {
		for row := range 3 * 3 * 3 * 3 * 3 * 3 * 3 {
			x := New()
			x.Set(api.Limit{Bed: 1, Kind: 1, From: 50, To: 100, Count: count})
			beyond, rest := 0, row
			for range 7 {
				value := values[rest%3]
				rest /= 3
				before := beyond
				beyond++
				if value == 70 {
					beyond = 0
				}
				if was, is := x.See(1, 1, value); was != (before >= count) || is != (beyond >= count) {
					t.Fatalf("count %d, row %d: %v, %v, %d", count, row, was, is, beyond)
				}
			}
		}
	}
}

// Other beds and kinds don't matter: with all that is done to them a table answers of one bed and kind as without it.
func TestOtherBedsAndKindsDoNotMatter(t *testing.T) {
	r := rand.New(rand.NewSource(3))
	comes := 0
	for range 400 {
		l := api.Limit{Bed: r.Intn(6), Kind: 1 + r.Intn(4), From: 3, To: 5, Count: 1 + r.Intn(4)}
		alone, among := with(t, l), with(t, l)
		for range 60 {
			if bed := r.Intn(6); bed != l.Bed {
				among.mustSet(api.Limit{Bed: bed, Kind: l.Kind, From: r.Intn(3), To: 3 + r.Intn(3), Count: 1 + r.Intn(3)})
				among.see(bed, l.Kind, r.Intn(9))
				if r.Intn(9) == 0 {
					among.drop(bed)
				}
			}
			if kind := 1 + r.Intn(4); kind != l.Kind {
				among.set(api.Limit{Bed: l.Bed, Kind: kind, From: 2, To: 3, Count: 1 + r.Intn(3)})
				among.see(l.Bed, kind, r.Intn(9))
			}
			value := r.Intn(9)
			was, is := alone.see(l.Bed, l.Kind, value)
			among.wantSee(l.Bed, l.Kind, value, was, is)
			if !was && is {
				comes++
			}
		}
	}
	if comes < 500 {
		t.Errorf("only %d came", comes)
	}
}

// The rules that hold everywhere.

// Rule 1: any numbers, in any order, one behind the other.
func TestAnyNumbers(t *testing.T) {
	r := rand.New(rand.NewSource(4))
	drawn := func() int { return numbers[r.Intn(len(numbers))] }
	for range 100 {
		b := filled(t)
		for range 60 {
			switch r.Intn(5) {
			case 0:
				b.drop(drawn())
			case 1:
				b.set(api.Limit{Bed: drawn(), Kind: drawn(), From: drawn(), To: drawn(), Count: drawn()})
			case 2:
				b.set(api.Limit{Bed: r.Intn(100), Kind: 1 + r.Intn(4), From: r.Intn(500), To: 500 + r.Intn(500), Count: 1 + r.Intn(2)})
			case 3:
				b.see(drawn(), drawn(), drawn())
			default:
				b.see(10+r.Intn(10), 1+r.Intn(4), drawn())
			}
			b.checkOf(drawn(), drawn())
		}
	}
}

// spoil turns all of a list's limits, its spare room included.
func spoil(list []api.Limit) {
	for i := range list[:cap(list)] {
		list[:cap(list)][i] = api.Limit{Bed: -5, Kind: -5, From: -5, To: -5, Count: -5}
	}
}

// Rule 4: an answer is new memory.
func TestAnswersAreNewMemory(t *testing.T) {
	r := rand.New(rand.NewSource(5))
	b := begin(t)
	for round := range 400 {
		spoil(b.x.List())
		b.check()
		b.step(r, 12, 3)
		first, second := b.x.List(), b.x.List()
		spoil(first)
		_ = append(b.x.List(), api.Limit{Bed: -9})
		b.check()
		if !slices.Equal(second, b.s.list()) {
			t.Fatalf("round %d: %v", round, second)
		}
	}
}

// What was answered stays as it was, whatever is done afterwards.
func TestAnswersStay(t *testing.T) {
	b := filled(t)
	list := b.x.List()
	ahead := slices.Clone(list)
	for bed := 10; bed < 20; bed += 2 {
		b.drop(bed)
		b.mustSet(plain(bed+1, 1))
		b.mustSet(plain(bed, 4))
		b.seeAll(bed+1, 1, 0, 0, 0)
	}
	if !slices.Equal(list, ahead) {
		t.Errorf("%v, not %v", list, ahead)
	}
}

// What is handed in isn't kept: a limit that is turned afterwards is as it was handed in.
func TestWhatIsHandedInIsNotKept(t *testing.T) {
	b := begin(t)
	l := plain(7, 4)
	b.mustSet(l)
	l.From, l.To, l.Count = 0, 999, 1
	b.check()
	b.wantSee(7, 4, 49, false, false)
	b.wantSee(7, 4, 49, false, true)
}

// Rule 6: what is answered hangs on what was done, on nothing else.
func TestTheSameActsAnswerTheSame(t *testing.T) {
	run := func() (told []int) {
		r := rand.New(rand.NewSource(6))
		b := begin(t)
		for range 300 {
			came, went := b.step(r, 14, 3)
			if came || went {
				told = append(told, -1)
			}
			for _, l := range b.x.List() {
				told = append(told, l.Bed, l.Kind, l.From, l.To, l.Count, b.x.Beyond(l.Bed, l.Kind))
			}
		}
		return told
	}
	first := run()
	for range 5 {
		if !slices.Equal(run(), first) {
			t.Fatal("not the same")
		}
	}
}

// What is done to one in between turns nothing of another one.
func TestTablesSideBySide(t *testing.T) {
	r := rand.New(rand.NewSource(7))
	l := []*both{begin(t), begin(t), filled(t), filled(t)}
	for range 1000 {
		l[r.Intn(4)].step(r, 10, 3)
		for _, b := range l {
			b.check()
		}
	}
}

func TestTheExample(t *testing.T) {
	x := New()
	if e := x.Set(api.Limit{Bed: 7, Kind: api.Pulse, From: 50, To: 100, Count: 2}); e != api.OK {
		t.Fatalf("%d", e)
	}
	for i, want := range []struct {
		value   int
		was, is bool
	}{{101, false, false}, {101, false, true}, {100, true, false}} {
		was, is := x.See(7, api.Pulse, want.value)
		if was != want.was || is != want.is || x.On(7, api.Pulse) != want.is {
			t.Errorf("value %d: %v, %v", i, was, is)
		}
	}
}
