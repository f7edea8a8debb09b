package roam

import (
	"math"
	"math/big"
	"math/rand"
	"slices"
	"testing"

	"gurney/api"
)

// What is asked for is reckoned by the tests themselves: by a ledger with a page for each transmitter, with the document's numbers written out.

// page is what the ledger holds of one transmitter; came says the how manieth it was that came, 0 that it isn't followed.
type page struct{ came, ant, rssi, last int }

// ledger is a table by its words.
type ledger struct {
	conf  api.Roam
	pages [256]page
	came  int
}

func (l *ledger) followed() []int {
	var list []int
	for tx, p := range l.pages {
		if p.came > 0 {
			list = append(list, tx)
		}
	}
	slices.SortFunc(list, func(a, b int) int { return l.pages[a].came - l.pages[b].came })
	return list
}

func (l *ledger) hear(tx, ant, rssi, now int) int {
	if tx < 0 || tx > 255 || ant < 0 || ant > 7 || rssi < 0 || rssi > 127 {
		return 3
	}
	p := &l.pages[tx]
	if p.came == 0 {
		if len(l.followed()) == l.conf.Room {
			return 3
		}
		l.came++
		*p = page{l.came, ant, rssi, now}
		return 1
	}
	p.last = now
	if p.ant == ant {
		p.rssi = rssi
		return 0
	}
	if rssi < p.rssi+l.conf.Margin {
		return 0
	}
	p.ant, p.rssi = ant, rssi
	return 2
}

func (l *ledger) forget(now int) []int {
	var gone []int
	for _, tx := range l.followed() {
		if ticksFrom(l.pages[tx].last, now).Cmp(big.NewInt(int64(l.conf.Age))) > 0 {
			gone = append(gone, tx)
			l.pages[tx] = page{}
		}
	}
	return gone
}

func ticksFrom(last, now int) *big.Int {
	return new(big.Int).Sub(big.NewInt(int64(now)), big.NewInt(int64(last)))
}

func (l *ledger) list() []api.Seen {
	var list []api.Seen
	for _, tx := range l.followed() {
		p := l.pages[tx]
		list = append(list, api.Seen{Tx: tx, Ant: p.ant, Rssi: p.rssi, Last: p.last})
	}
	return list
}

func (l *ledger) home(tx int) (int, bool) {
	if tx < 0 || tx > 255 || l.pages[tx].came == 0 {
		return 0, false
	}
	return l.pages[tx].ant, true
}

// pair is a table and its ledger, to which the same is done.
type pair struct {
	t *testing.T
	x *Table
	l *ledger
}

func newPair(t *testing.T, c api.Roam) pair {
	t.Helper()
	x := New(c)
	if x == nil {
		t.Fatalf("New(%v): nil", c)
	}
	p := pair{t, x, &ledger{conf: c}}
	p.look()
	return p
}

// look holds what a table tells against its ledger, and P9.3 against both.
func (p pair) look() {
	p.t.Helper()
	got, want := p.x.List(), p.l.list()
	if !slices.Equal(got, want) {
		p.t.Fatalf("list %v, not %v", got, want)
	}
	if len(got) > p.l.conf.Room {
		p.t.Fatalf("%d are followed, of %d", len(got), p.l.conf.Room)
	}
	for i, s := range got {
		if slices.ContainsFunc(got[:i], func(o api.Seen) bool { return o.Tx == s.Tx }) {
			p.t.Fatalf("%d is followed twice", s.Tx)
		}
		wantHome(p.t, p.x, s.Tx, s.Ant, true)
	}
}

// lookAll asks for each transmitter's home too.
func (p pair) lookAll() {
	p.t.Helper()
	p.look()
	for tx := -2; tx <= 257; tx++ {
		ant, ok := p.l.home(tx)
		wantHome(p.t, p.x, tx, ant, ok)
	}
}

func (p pair) hear(tx, ant, rssi, now int) int {
	p.t.Helper()
	got, want := p.x.Hear(tx, ant, rssi, now), p.l.hear(tx, ant, rssi, now)
	if got != want {
		p.t.Fatalf("Hear(%d, %d, %d, %d): %d, not %d", tx, ant, rssi, now, got, want)
	}
	p.look()
	return got
}

func (p pair) forget(now int) []int {
	p.t.Helper()
	got, want := p.x.Forget(now), p.l.forget(now)
	if !slices.Equal(got, want) {
		p.t.Fatalf("Forget(%d): %v, not %v", now, got, want)
	}
	p.look()
	return got
}

func wantHome(t *testing.T, x *Table, tx, ant int, ok bool) {
	t.Helper()
	if gotAnt, gotOk := x.Home(tx); gotAnt != ant || gotOk != ok {
		t.Fatalf("Home(%d): %d, %t, not %d, %t", tx, gotAnt, gotOk, ant, ok)
	}
}

func wantHear(t *testing.T, x *Table, tx, ant, rssi, now, want int) {
	t.Helper()
	if got := x.Hear(tx, ant, rssi, now); got != want {
		t.Fatalf("Hear(%d, %d, %d, %d): %d, not %d", tx, ant, rssi, now, got, want)
	}
}

func wantList(t *testing.T, x *Table, want ...api.Seen) {
	t.Helper()
	if got := x.List(); !slices.Equal(got, want) {
		t.Fatalf("list %v, not %v", got, want)
	}
}

func wantGone(t *testing.T, x *Table, now int, want ...int) {
	t.Helper()
	if got := x.Forget(now); !slices.Equal(got, want) {
		t.Fatalf("Forget(%d): %v, not %v", now, got, want)
	}
}

// plainTable is a table of room for three, in which the transmitter 9 is followed by the antenna 2, of the strength 50, heard at 1000.
func plainTable(t *testing.T, margin int) *Table {
	t.Helper()
	x := New(api.Roam{Room: 3, Age: 10, Margin: margin})
	wantHear(t, x, 9, 2, 50, 1000, api.IsNew)
	return x
}

var (
	plain = api.Roam{Room: 3, Age: 10, Margin: 5}
	end   = 1 << 40 // the greatest time
)

// farNumbers are neither transmitters, antennas, strengths nor any number of a config.
var farNumbers = []int{math.MinInt, math.MinInt + 1, math.MinInt32, -1 << 40, -1001, -257, -256, -255, -128, -127, -8, -1, 1001, 1 << 16, 1<<32 - 1, 1 << 32, 1<<32 + 1, 1<<32 + 9, 1 << 40, math.MaxInt - 1, math.MaxInt}

func TestMayOfEachNumber(t *testing.T) {
	for room := -2; room <= 11; room++ {
		for _, age := range []int{-1, 0, 1, 2, 500, 999, 1000, 1001, 1002} {
			for _, margin := range []int{-2, -1, 0, 1, 64, 126, 127, 128, 129} {
				c := api.Roam{Room: room, Age: age, Margin: margin}
				want := room >= 1 && room <= 8 && age >= 1 && age <= 1000 && margin >= 0 && margin <= 127
				if May(c) != want || (New(c) != nil) != want {
					t.Fatal(c, May(c))
				}
			}
		}
	}
	for age := 1; age <= 1000; age++ {
		if !May(api.Roam{Room: 4, Age: age, Margin: 3}) {
			t.Fatal(age)
		}
	}
	for margin := range 128 {
		if !May(api.Roam{Room: 4, Age: 6, Margin: margin}) {
			t.Fatal(margin)
		}
	}
}

func TestConfigsThatMayNotBe(t *testing.T) {
	list := []api.Roam{{}, {Room: 1}, {Age: 1}, {Age: 1, Margin: 1}, {Room: 1, Margin: 1}, {Room: 0, Age: 1}, {Room: 9, Age: 1}, {Room: 1, Age: 0}, {Room: 1, Age: 1001}, {Room: 1, Age: 1, Margin: -1}, {Room: 1, Age: 1, Margin: 128}, {Room: 9, Age: 1001, Margin: 128}}
	for _, n := range farNumbers {
		list = append(list, api.Roam{Room: n, Age: 1, Margin: 1}, api.Roam{Room: 1, Age: n, Margin: 1}, api.Roam{Room: 1, Age: 1, Margin: n}, api.Roam{Room: n, Age: n, Margin: n})
	}
	for _, c := range list {
		if May(c) || New(c) != nil {
			t.Error(c)
		}
	}
}

func TestNewTableFollowsNone(t *testing.T) {
	for room := 1; room <= 8; room++ {
		p := newPair(t, api.Roam{Room: room, Age: 1, Margin: 0})
		p.lookAll()
		p.forget(0)
		p.forget(end)
		p.lookAll()
	}
}

func TestExample(t *testing.T) {
	x := New(api.Roam{Room: 1, Age: 1, Margin: 5})
	wantHear(t, x, 1, 0, 40, 0, api.IsNew)
	wantHear(t, x, 1, 1, 44, 0, api.AtHome)
	wantHome(t, x, 1, 0, true)
	wantHear(t, x, 1, 1, 45, 0, api.Moved)
	wantHome(t, x, 1, 1, true)
}

func TestHearOfANewOne(t *testing.T) {
	for tx := range 256 {
		for ant := range 8 {
			for _, rssi := range []int{0, 1, 63, 64, 126, 127} {
				x := New(plain)
				wantHear(t, x, tx, ant, rssi, 77, api.IsNew)
				wantList(t, x, api.Seen{Tx: tx, Ant: ant, Rssi: rssi, Last: 77})
				wantHome(t, x, tx, ant, true)
			}
		}
	}
}

func TestHearByItsHome(t *testing.T) {
	for _, margin := range []int{0, 1, 5, 127} {
		x := plainTable(t, margin)
		now := 1000
		for _, rssi := range []int{50, 51, 49, 127, 0, 0, 64, 127, 1} {
			now += 3
			wantHear(t, x, 9, 2, rssi, now, api.AtHome)
			wantList(t, x, api.Seen{Tx: 9, Ant: 2, Rssi: rssi, Last: now})
		}
	}
}

func TestHearByAnotherAntenna(t *testing.T) {
	for _, c := range []struct{ margin, rssi, want int }{
		{5, 0, api.AtHome}, {5, 49, api.AtHome}, {5, 50, api.AtHome}, {5, 53, api.AtHome}, {5, 54, api.AtHome},
		{5, 55, api.Moved}, {5, 56, api.Moved}, {5, 127, api.Moved},
		{0, 0, api.AtHome}, {0, 49, api.AtHome}, {0, 50, api.Moved}, {0, 51, api.Moved},
		{1, 50, api.AtHome}, {1, 51, api.Moved},
		{76, 126, api.Moved}, {77, 126, api.AtHome}, {77, 127, api.Moved}, {78, 127, api.AtHome},
		{127, 127, api.AtHome},
	} {
		for _, ant := range []int{0, 1, 3, 4, 5, 6, 7} {
			x := plainTable(t, c.margin)
			wantHear(t, x, 9, ant, c.rssi, 1004, c.want)
			if c.want == api.Moved {
				wantList(t, x, api.Seen{Tx: 9, Ant: ant, Rssi: c.rssi, Last: 1004})
			} else {
				wantList(t, x, api.Seen{Tx: 9, Ant: 2, Rssi: 50, Last: 1004})
			}
		}
	}
}

func TestHearOfEachTwoStrengths(t *testing.T) {
	for _, margin := range []int{0, 1, 2, 10, 64, 126, 127} {
		for before := range 128 {
			for rssi := range 128 {
				x := New(api.Roam{Room: 1, Age: 1, Margin: margin})
				x.Hear(0, 6, before, 0)
				want := []api.Seen{{Tx: 0, Ant: 6, Rssi: before, Last: 1}}
				moves := before+margin <= rssi
				if moves {
					want = []api.Seen{{Tx: 0, Ant: 3, Rssi: rssi, Last: 1}}
				}
				if got := x.Hear(0, 3, rssi, 1); (got == api.Moved) != moves || (got == api.AtHome) == moves || !slices.Equal(x.List(), want) {
					t.Fatal(margin, before, rssi, got, x.List())
				}
			}
		}
	}
}

// A home stays as strong as it was there, so that another antenna that is heard weakly again and again moves nothing.
func TestHomeStaysAsStrong(t *testing.T) {
	x := plainTable(t, 5)
	for i, rssi := range []int{10, 14, 54, 0, 54, 30, 54} {
		wantHear(t, x, 9, 4, rssi, 1001+i, api.AtHome)
		wantList(t, x, api.Seen{Tx: 9, Ant: 2, Rssi: 50, Last: 1001 + i})
	}
	wantHear(t, x, 9, 4, 55, 1010, api.Moved)
	wantHear(t, x, 9, 2, 59, 1010, api.AtHome)
	wantHear(t, x, 9, 2, 60, 1010, api.Moved)
	wantList(t, x, api.Seen{Tx: 9, Ant: 2, Rssi: 60, Last: 1010})
}

// One that moved is compared with how strong its new home is, which may grow weaker.
func TestMovesFromHomeToHome(t *testing.T) {
	x := plainTable(t, 5)
	for i, ant := range []int{0, 1, 2, 3, 4, 5, 6, 7, 0, 1, 2, 3, 4, 5, 6} {
		wantHear(t, x, 9, ant, 55+5*i, 1000, api.Moved)
	}
	x = plainTable(t, 5)
	wantHear(t, x, 9, 2, 20, 1001, api.AtHome)
	wantHear(t, x, 9, 3, 24, 1002, api.AtHome)
	wantHear(t, x, 9, 3, 25, 1003, api.Moved)
	wantHear(t, x, 9, 3, 0, 1004, api.AtHome)
	wantHear(t, x, 9, 1, 5, 1005, api.Moved)
	wantList(t, x, api.Seen{Tx: 9, Ant: 1, Rssi: 5, Last: 1005})
}

func TestMarginOfNothing(t *testing.T) {
	x := plainTable(t, 0)
	for i := range 20 {
		wantHear(t, x, 9, 3+i%2, 50, 1000+i, api.Moved)
	}
	wantHear(t, x, 9, 0, 49, 1020, api.AtHome)
	wantList(t, x, api.Seen{Tx: 9, Ant: 4, Rssi: 50, Last: 1020})
}

func TestNoRoom(t *testing.T) {
	for room := 1; room <= 8; room++ {
		p := newPair(t, api.Roam{Room: room, Age: 10, Margin: 5})
		for i := range room {
			if p.hear(200-i, i, 100-i, i) != api.IsNew {
				t.Fatal(room, i)
			}
		}
		before := p.x.List()
		for tx := range 256 {
			if i := 200 - tx; i >= 0 && i < room {
				continue
			}
			wantHear(t, p.x, tx, 1, 127, 9, api.Refused)
			wantHome(t, p.x, tx, 0, false)
		}
		wantList(t, p.x, before...)
		p.lookAll()
		for i := range room {
			if p.hear(200-i, i, 127, 50) != api.AtHome {
				t.Fatal(room, i)
			}
		}
		if p.hear(200, 7, 127, 50) != api.AtHome || p.hear(0, 0, 0, 51) != api.Refused {
			t.Fatal(p.x.List())
		}
	}
}

// notHeard are a transmitter, an antenna and a strength of which there may be no frame.
func notHeard() [][3]int {
	list := [][3]int{{-1, 2, 60}, {256, 2, 60}, {9, -1, 60}, {9, 8, 60}, {9, 2, -1}, {9, 2, 128}, {-1, -1, -1}, {256, 8, 128}, {265, 2, 60}, {9, 10, 60}, {9, 2, 188}, {-247, 2, 60}, {9, -6, 60}, {9, 2, -68}, {9, 2, 1000}, {9, 3, 1000}, {9, 1000, 60}, {1000, 2, 60}}
	for _, n := range farNumbers {
		list = append(list, [3]int{n, 2, 60}, [3]int{9, n, 60}, [3]int{9, 2, n}, [3]int{9, 3, n}, [3]int{n, n, n}, [3]int{9, n, n}, [3]int{n, 2, n})
	}
	return list
}

func TestHearOfNoFrame(t *testing.T) {
	for _, margin := range []int{0, 5, 127} {
		x, fresh := plainTable(t, margin), New(plain)
		for _, h := range notHeard() {
			wantHear(t, x, h[0], h[1], h[2], 1005, api.Refused)
			wantList(t, x, api.Seen{Tx: 9, Ant: 2, Rssi: 50, Last: 1000})
			wantHear(t, fresh, h[0], h[1], h[2], 5, api.Refused)
			wantList(t, fresh)
		}
		wantHear(t, x, 9, 2, 60, 1006, api.AtHome)
		wantHear(t, fresh, 9, 2, 60, 6, api.IsNew)
	}
}

func TestHearOfEdges(t *testing.T) {
	p := newPair(t, api.Roam{Room: 8, Age: 1000, Margin: 127})
	for _, tx := range []int{-1, 0, 255, 256} {
		for _, ant := range []int{-1, 0, 7, 8} {
			for _, rssi := range []int{-1, 0, 127, 128} {
				p.hear(tx, ant, rssi, 3)
			}
		}
	}
	p.lookAll()
	if len(p.x.List()) != 2 {
		t.Fatal(p.x.List())
	}
}

func TestForgetJustBehindAge(t *testing.T) {
	for _, age := range []int{1, 2, 3, 10, 999, 1000} {
		for _, last := range []int{0, 1, 7, 1 << 20, 1<<31 - 1, 1 << 32, end - age - 1} {
			x := New(api.Roam{Room: 2, Age: age})
			wantHear(t, x, 30, 1, 2, last, api.IsNew)
			wantGone(t, x, last)
			wantGone(t, x, last+1)
			wantGone(t, x, last+age-1)
			wantGone(t, x, last+age)
			wantList(t, x, api.Seen{Tx: 30, Ant: 1, Rssi: 2, Last: last})
			wantHome(t, x, 30, 1, true)
			wantGone(t, x, last+age+1, 30)
			wantList(t, x)
			wantHome(t, x, 30, 0, false)
			wantGone(t, x, last+age+1)
			wantGone(t, x, end)
		}
	}
}

func TestForgetOfAnyLaterTime(t *testing.T) {
	for _, age := range []int{1, 10, 1000} {
		for _, now := range []int{age + 1, age + 2, 2000, 1<<31 + 5, 1 << 32, 1<<32 + age, 1<<32 + age + 1, end - 1, end} {
			x := New(api.Roam{Room: 2, Age: age})
			wantHear(t, x, 30, 1, 2, 0, api.IsNew)
			wantGone(t, x, now, 30)
		}
	}
}

// Each of the ways in which one is heard is one that keeps it.
func TestHeardLastInEachCase(t *testing.T) {
	for _, h := range []struct{ ant, rssi, want int }{{2, 50, api.AtHome}, {2, 9, api.AtHome}, {2, 99, api.AtHome}, {4, 54, api.AtHome}, {4, 0, api.AtHome}, {4, 55, api.Moved}} {
		x := plainTable(t, 5)
		wantHear(t, x, 9, h.ant, h.rssi, 1008, h.want)
		wantGone(t, x, 1011)
		wantGone(t, x, 1018)
		wantGone(t, x, 1019, 9)
	}
	for _, h := range [][3]int{{9, 2, 128}, {9, 8, 50}, {10, 2, 50}} {
		x := New(api.Roam{Room: 1, Age: 10, Margin: 5})
		wantHear(t, x, 9, 2, 50, 1000, api.IsNew)
		wantHear(t, x, h[0], h[1], h[2], 1008, api.Refused)
		wantGone(t, x, 1011, 9)
	}
}

func TestForgetInOrder(t *testing.T) {
	x := New(api.Roam{Room: 8, Age: 10, Margin: 5})
	lasts := []int{4, 9, 3, 5, 3, 8, 4, 2}
	for i, tx := range []int{80, 10, 255, 0, 33, 7, 90, 60} {
		wantHear(t, x, tx, i, 10*i, lasts[i], api.IsNew)
	}
	wantGone(t, x, 12)
	wantGone(t, x, 14, 255, 33, 60)
	wantList(t, x, api.Seen{Tx: 80, Ant: 0, Rssi: 0, Last: 4}, api.Seen{Tx: 10, Ant: 1, Rssi: 10, Last: 9}, api.Seen{Tx: 0, Ant: 3, Rssi: 30, Last: 5}, api.Seen{Tx: 7, Ant: 5, Rssi: 50, Last: 8}, api.Seen{Tx: 90, Ant: 6, Rssi: 60, Last: 4})
	wantHear(t, x, 33, 1, 1, 14, api.IsNew)
	wantHear(t, x, 80, 0, 5, 14, api.AtHome)
	wantGone(t, x, 18, 0, 90)
	wantList(t, x, api.Seen{Tx: 80, Ant: 0, Rssi: 5, Last: 14}, api.Seen{Tx: 10, Ant: 1, Rssi: 10, Last: 9}, api.Seen{Tx: 7, Ant: 5, Rssi: 50, Last: 8}, api.Seen{Tx: 33, Ant: 1, Rssi: 1, Last: 14})
	wantGone(t, x, 100, 80, 10, 7, 33)
	wantList(t, x)
}

// Whichever of eight are forgotten, the others stay in their order.
func TestForgetOfEachSubset(t *testing.T) {
	for old := range 256 {
		p := newPair(t, api.Roam{Room: 8, Age: 10, Margin: 5})
		for i := range 8 {
			p.hear(50-i*i%13, i, 3*i, 20-11*(old>>i&1))
		}
		p.forget(20)
		p.lookAll()
		for tx := range 9 {
			p.hear(100+tx, 1, 2, 21)
		}
		p.lookAll()
	}
}

func TestRoomForOthersOnceForgotten(t *testing.T) {
	p := newPair(t, api.Roam{Room: 2, Age: 5, Margin: 5})
	p.hear(1, 1, 90, 0)
	p.hear(2, 2, 90, 3)
	if p.hear(3, 3, 90, 6) != api.Refused {
		t.Fatal("there was room")
	}
	if gone := p.forget(6); !slices.Equal(gone, []int{1}) {
		t.Fatal(gone)
	}
	if p.hear(3, 3, 90, 6) != api.IsNew || p.hear(1, 4, 10, 6) != api.Refused {
		t.Fatal(p.x.List())
	}
	p.forget(9)
	if p.hear(1, 4, 10, 9) != api.IsNew {
		t.Fatal("no room")
	}
	wantList(t, p.x, api.Seen{Tx: 3, Ant: 3, Rssi: 90, Last: 6}, api.Seen{Tx: 1, Ant: 4, Rssi: 10, Last: 9})
}

// Times that go back keep the last one that was told, not the greatest.
func TestTimesThatGoBack(t *testing.T) {
	x := plainTable(t, 5)
	wantGone(t, x, 0)
	wantHear(t, x, 9, 2, 50, 3, api.AtHome)
	wantList(t, x, api.Seen{Tx: 9, Ant: 2, Rssi: 50, Last: 3})
	wantGone(t, x, 13)
	wantGone(t, x, 14, 9)
}

func TestAnyTimes(t *testing.T) {
	times := []int{math.MinInt, math.MinInt + 1, math.MinInt + 1000, -1 << 40, -1<<40 - 1, -1001, -11, -10, -1, 0, 1, 10, 11, 1000, 1001, end - 1, end, end + 1, math.MaxInt - 1001, math.MaxInt - 1, math.MaxInt}
	for _, age := range []int{1, 10, 1000} {
		for _, last := range times {
			for _, now := range times {
				p := newPair(t, api.Roam{Room: 2, Age: age, Margin: 5})
				p.hear(4, 1, 40, last)
				p.hear(5, 1, 40, now)
				p.forget(now)
				p.hear(4, 2, 41, now)
				p.forget(last)
			}
		}
	}
}

func TestHomeOfNone(t *testing.T) {
	x := plainTable(t, 5)
	for _, tx := range append([]int{0, 1, 8, 10, 255, 256, 265, -247}, farNumbers...) {
		wantHome(t, x, tx, 0, false)
	}
	wantHome(t, x, 9, 2, true)
}

func TestNilTable(t *testing.T) {
	var x *Table
	numbers := append([]int{0, 1, 7, 9, 127, 255}, farNumbers...)
	for _, n := range numbers {
		wantHear(t, x, 9, 2, 50, n, api.Refused)
		wantHear(t, x, n, n, n, n, api.Refused)
		wantGone(t, x, n)
		wantHome(t, x, n, 0, false)
		wantList(t, x)
	}
}

// P9.3: by its home alone, one stays there, however strong or weak.
func TestHeardByItsHomeAloneStays(t *testing.T) {
	r := rand.New(rand.NewSource(91))
	for _, margin := range []int{0, 1, 60, 127} {
		x := New(api.Roam{Room: 8, Age: 20, Margin: margin})
		for tx := range 8 {
			wantHear(t, x, tx, (tx*3+1)%8, r.Intn(128), 0, api.IsNew)
		}
		for now := range 400 {
			tx := r.Intn(8)
			wantHear(t, x, tx, (tx*3+1)%8, r.Intn(128), now, api.AtHome)
			wantHome(t, x, tx, (tx*3+1)%8, true)
		}
		for tx := range 8 {
			wantHome(t, x, tx, (tx*3+1)%8, true)
		}
	}
}

// P9.3: with the Margin 127 one moves only from the strength 0 to the strength 127.
func TestGreatestMargin(t *testing.T) {
	for before := range 128 {
		for rssi := range 128 {
			x := New(api.Roam{Room: 1, Age: 1, Margin: 127})
			wantHear(t, x, 77, 0, before, 0, api.IsNew)
			want := api.AtHome
			if before == 0 && rssi == 127 {
				want = api.Moved
			}
			wantHear(t, x, 77, 1, rssi, 0, want)
		}
	}
	r := rand.New(rand.NewSource(92))
	x := New(api.Roam{Room: 1, Age: 1, Margin: 127})
	wantHear(t, x, 77, 3, 1, 0, api.IsNew)
	for range 5000 {
		wantHear(t, x, 77, r.Intn(8), 1+r.Intn(127), 0, api.AtHome)
		wantHome(t, x, 77, 3, true)
	}
}

// drawn is a number of 0 up to most, and now and then one beside.
func drawn(r *rand.Rand, most int) int {
	switch r.Intn(40) {
	case 0:
		return -1 - r.Intn(3)
	case 1:
		return most + 1 + r.Intn(300)
	case 2:
		return most
	}
	return r.Intn(most + 1)
}

func TestDrawnSteps(t *testing.T) {
	for seed := range 200 {
		r := rand.New(rand.NewSource(int64(seed)))
		p := newPair(t, api.Roam{Room: 1 + seed%8, Age: []int{1, 2, 5, 30, 1000}[seed%5], Margin: []int{0, 1, 5, 20, 100, 126, 127}[seed%7]})
		now := []int{0, 1 << 31, end - 100_000}[seed%3]
		for range 500 {
			switch r.Intn(12) {
			case 0:
				p.forget(now)
			case 1:
				p.hear(drawn(r, 255), drawn(r, 7), drawn(r, 127), now)
			case 2:
				now += r.Intn(2 * p.l.conf.Age)
			case 3:
				now += r.Intn(2)
			default:
				p.hear(drawn(r, 9), drawn(r, 2), drawn(r, 127), now)
			}
		}
		p.lookAll()
	}
}

func TestEachTxAtLeastOnce(t *testing.T) {
	p := newPair(t, api.Roam{Room: 8, Age: 1, Margin: 3})
	for tx := range 256 {
		p.forget(tx)
		if p.hear(tx, tx%8, tx%128, tx) != api.IsNew {
			t.Fatal(tx)
		}
	}
	p.lookAll()
}

// spoil turns all of a list's numbers, its spare room included.
func spoil(list []int) {
	for i := range list[:cap(list)] {
		list[:cap(list)][i] = -5
	}
}

func spoilSeen(list []api.Seen) {
	for i := range list[:cap(list)] {
		list[:cap(list)][i] = api.Seen{Tx: -5, Ant: -5, Rssi: -5, Last: -5}
	}
}

func TestAnswersAreNewMemory(t *testing.T) {
	p := newPair(t, api.Roam{Room: 8, Age: 10, Margin: 5})
	for round := range 60 {
		now := round * 2
		spoilSeen(p.x.List())
		p.look()
		p.hear(round*7%23, round%8, round*31%128, now)
		spoilSeen(p.x.List())
		p.look()
		spoil(p.forget(now))
		p.look()
		_ = append(p.x.List(), api.Seen{Tx: -9})
		p.hear(round*5%19, round%3, round*17%128, now)
	}
	p.lookAll()
}

func TestAnswersStay(t *testing.T) {
	x := plainTable(t, 5)
	wantHear(t, x, 10, 1, 1, 1000, api.IsNew)
	list := x.List()
	before := slices.Clone(list)
	gone := x.Forget(2000)
	wantHear(t, x, 60, 3, 3, 2000, api.IsNew)
	wantHear(t, x, 61, 3, 3, 2000, api.IsNew)
	x.Forget(3000)
	wantHear(t, x, 62, 3, 3, 3000, api.IsNew)
	if !slices.Equal(list, before) || !slices.Equal(gone, []int{9, 10}) {
		t.Fatal(list, gone)
	}
}

func TestListTurnsNothing(t *testing.T) {
	x := plainTable(t, 5)
	for range 3 {
		wantList(t, x, api.Seen{Tx: 9, Ant: 2, Rssi: 50, Last: 1000})
		wantHome(t, x, 9, 2, true)
		wantHome(t, x, 8, 0, false)
	}
}

func TestTablesAreAlone(t *testing.T) {
	p, q := newPair(t, plain), newPair(t, plain)
	for i := range 40 {
		p.hear(i%5, i%3, i*3, i)
		q.look()
		q.hear(i%4, i%2, 100-i, 2*i)
		p.look()
		p.forget(i)
		q.look()
	}
}
