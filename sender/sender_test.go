package sender

import (
	"bytes"
	"fmt"
	"math"
	"math/big"
	"math/rand"
	"slices"
	"testing"

	"gurney/api"
	"gurney/collect"
	"gurney/frame"
	"gurney/rs"
	"gurney/seq"
)

// What is asked for is reckoned by the tests themselves: by a book of texts that are out, with the document's numbers written out, and of shards that layer 5 made.

// outText is what the book holds of one text that is out; its group is its number, from the first text on, modulo 256.
type outText struct {
	number         int
	text           []byte
	sent, last     int
	there, givenUp bool
}

// book is a sender by its words.
type book struct {
	tx, pushed, lost int
	link             api.Link
	out              []outText
}

func (b *book) push(text []byte) api.Errno {
	switch {
	case len(text) != b.link.Code.K*b.link.Code.Size:
		return api.ErrSize
	case len(b.out) == 4:
		return api.ErrFull
	}
	b.out = append(b.out, outText{number: b.pushed, text: slices.Clone(text)})
	b.pushed++
	return api.OK
}

func (b *book) tick(now int) []api.Frame {
	var frames []api.Frame
	for i := range b.out {
		o := &b.out[i]
		if o.there || o.sent > 0 && now < o.last+b.link.Wait {
			continue
		}
		if o.sent < b.link.Most {
			frames = append(frames, b.shards(*o)...)
		} else {
			frames = append(frames, api.Frame{Tx: b.tx, Seq: o.number % 256 * 16, Kind: 2})
			o.givenUp = true
		}
		o.sent, o.last = o.sent+1, now
	}
	return frames
}

func (b *book) shards(o outText) []api.Frame {
	var frames []api.Frame
	for place, shard := range encoded(b.link.Code, o.text) {
		frames = append(frames, api.Frame{Tx: b.tx, Seq: o.number%256*16 + place, Kind: 0, Data: shard})
	}
	return frames
}

func (b *book) hear(f api.Frame) bool {
	if f.Tx != b.tx || f.Kind != 1 || len(f.Data) != 2 || f.Seq < 0 || f.Seq > 4095 || f.Ant < 0 || f.Ant > 7 || f.Rssi < 0 || f.Rssi > 127 {
		return false
	}
	var left []outText
	for _, o := range b.out {
		far := stepsTo(int(f.Data[0]), o.number%256)
		if far >= 128 {
			if o.givenUp {
				b.lost++
			}
			continue
		}
		o.there = far <= 3 && int(f.Data[1])/[]int{1, 2, 4, 8}[far]%2 == 1
		left = append(left, o)
	}
	b.out = left
	return true
}

func (b *book) hello() api.Frame {
	number := b.pushed
	if len(b.out) > 0 {
		number = b.out[0].number
	}
	return api.Frame{Tx: b.tx, Seq: number % 256 * 16, Kind: 3}
}

// stepsTo counts the steps from a base to a group.
func stepsTo(base, group int) int {
	steps := 0
	for base != group {
		if base++; base == 256 {
			base = 0
		}
		steps++
	}
	return steps
}

func encoded(c api.Code, text []byte) [][]byte {
	shards, e := rs.Encode(c, text)
	if e != api.OK {
		panic(e)
	}
	return shards
}

// textOf is a text unlike those of other numbers.
func textOf(c api.Code, number int) []byte {
	text := make([]byte, c.K*c.Size)
	rand.New(rand.NewSource(int64(number))).Read(text)
	return text
}

func sameFrame(a, b api.Frame) bool {
	return a.Tx == b.Tx && a.Seq == b.Seq && a.Ant == b.Ant && a.Rssi == b.Rssi && a.Kind == b.Kind && bytes.Equal(a.Data, b.Data)
}

func wantErrno(t *testing.T, got, want api.Errno) {
	t.Helper()
	if got != want {
		t.Errorf("error %d, not %d", got, want)
	}
}

func wantFrames(t *testing.T, got []api.Frame, want ...api.Frame) {
	t.Helper()
	if !slices.EqualFunc(got, want, sameFrame) {
		t.Fatalf("frames %v, not %v", got, want)
	}
}

// pair is a sender and its book, to which the same is done.
type pair struct {
	t *testing.T
	s *Sender
	b *book
}

func newPair(t *testing.T, tx int, l api.Link) pair {
	t.Helper()
	s := New(tx, l)
	if s == nil {
		t.Fatalf("New(%d, %v): nil", tx, l)
	}
	p := pair{t, s, &book{tx: tx, link: l}}
	p.look()
	return p
}

// look holds what a sender tells against its book.
func (p pair) look() {
	p.t.Helper()
	if p.s.Room() != 4-len(p.b.out) || p.s.Lost() != p.b.lost {
		p.t.Fatalf("room %d, lost %d, not %d, %d", p.s.Room(), p.s.Lost(), 4-len(p.b.out), p.b.lost)
	}
	if got, want := p.s.Hello(), p.b.hello(); !sameFrame(got, want) || !frame.Right(got) {
		p.t.Fatalf("hello %v, not %v", got, want)
	}
}

func (p pair) push(text []byte) {
	p.t.Helper()
	if got, want := p.s.Push(text), p.b.push(text); got != want {
		p.t.Fatalf("Push of %d bytes: error %d, not %d", len(text), got, want)
	}
	p.look()
}

// pushNext hands in so many texts, each unlike the others.
func (p pair) pushNext(many int) {
	p.t.Helper()
	for range many {
		p.push(textOf(p.b.link.Code, p.b.pushed))
	}
}

func (p pair) tick(now int) []api.Frame {
	p.t.Helper()
	got := p.s.Tick(now)
	wantFrames(p.t, got, p.b.tick(now)...)
	for _, f := range got {
		if !frame.Right(f) {
			p.t.Fatalf("a frame that isn't right: %v", f)
		}
	}
	p.look()
	return got
}

func (p pair) hear(f api.Frame) {
	p.t.Helper()
	if got, want := p.s.Hear(f), p.b.hear(f); got != want {
		p.t.Fatalf("Hear(%v): %t, not %t", f, got, want)
	}
	p.look()
}

func (p pair) ack(base, bits int) {
	p.t.Helper()
	p.hear(api.Frame{Tx: p.b.tx, Kind: 1, Data: []byte{byte(base), byte(bits)}})
}

// goOn does to both what shows each part of a flight: it ticks through the next waits, until all is given up, hears that nothing is there, and lets all go.
func (p pair) goOn(now int) {
	p.t.Helper()
	for range 2*p.b.link.Wait + 1 {
		p.tick(now)
		now++
	}
	p.ack(p.b.hello().Seq/16, 0)
	for range p.b.link.Most + 2 {
		p.tick(now)
		now += p.b.link.Wait
	}
	p.ack(p.b.pushed%256, 0)
	p.pushNext(4)
	p.tick(now)
}

var (
	plainCode = api.Code{K: 2, N: 4, Size: 3}
	plain     = api.Link{Code: plainCode, Wait: 5, Most: 3}
	end       = 1 << 40 // the greatest time
)

func someLinks() []api.Link {
	return []api.Link{
		{Code: api.Code{K: 1, N: 1, Size: 1}, Wait: 1, Most: 1},
		{Code: api.Code{K: 1, N: 10, Size: 24}, Wait: 2, Most: 9},
		{Code: api.Code{K: 6, N: 10, Size: 24}, Wait: 100, Most: 2},
		{Code: api.Code{K: 6, N: 6, Size: 1}, Wait: 3, Most: 3},
		{Code: api.Code{K: 3, N: 5, Size: 2}, Wait: 7, Most: 1},
		{Code: api.Code{K: 1, N: 2, Size: 2}, Wait: 1, Most: 9},
		plain,
	}
}

func TestMayOfEachWaitAndMost(t *testing.T) {
	for wait := 1; wait <= 100; wait++ {
		for most := 1; most <= 9; most++ {
			for _, l := range someLinks() {
				l.Wait, l.Most = wait, most
				if !May(l) {
					t.Fatal(l)
				}
				newPair(t, 7, l)
			}
		}
	}
}

func TestMayOfCodes(t *testing.T) {
	for k := -1; k <= 8; k++ {
		for n := -1; n <= 12; n++ {
			for size := -1; size <= 26; size++ {
				l := api.Link{Code: api.Code{K: k, N: n, Size: size}, Wait: 4, Most: 2}
				want := k >= 1 && k <= 6 && n >= k && n <= 10 && size >= 1 && size <= 24
				if May(l) != want || (New(3, l) != nil) != want {
					t.Fatal(l, May(l))
				}
			}
		}
	}
}

func TestLinksThatMayNotBe(t *testing.T) {
	c := plainCode
	list := []api.Link{{}, {Code: c}, {Code: c, Wait: 5}, {Code: c, Most: 3}, {Wait: 5, Most: 3}, {Code: c, Wait: 101, Most: 3}, {Code: c, Wait: 5, Most: 10}, {Code: c, Wait: 101, Most: 10}}
	for _, n := range []int{math.MinInt, math.MinInt + 1, math.MinInt32, -256, -100, -9, -1, 0, 101, 102, 256, 257, 1 << 32, 1<<32 + 5, math.MaxInt - 1, math.MaxInt} {
		list = append(list,
			api.Link{Code: c, Wait: n, Most: 3}, api.Link{Code: c, Wait: 5, Most: n}, api.Link{Code: c, Wait: n, Most: n},
			api.Link{Code: api.Code{K: n, N: 4, Size: 3}, Wait: 5, Most: 3},
			api.Link{Code: api.Code{K: 2, N: n, Size: 3}, Wait: 5, Most: 3},
			api.Link{Code: api.Code{K: 2, N: 4, Size: n}, Wait: 5, Most: 3},
			api.Link{Code: api.Code{K: n, N: n, Size: n}, Wait: n, Most: n})
	}
	for _, l := range list {
		for _, tx := range []int{0, 9, 255, -1, 256} {
			if May(l) || New(tx, l) != nil {
				t.Errorf("%v, tx %d", l, tx)
			}
		}
	}
}

func TestNewOfEachTx(t *testing.T) {
	for tx := range 256 {
		p := newPair(t, tx, plain)
		wantFrames(t, p.tick(0))
		p.pushNext(2)
		p.goOn(0)
	}
	for _, tx := range []int{math.MinInt, math.MinInt + 1, math.MinInt32, -257, -256, -255, -1, 256, 257, 511, 512, 1 << 32, 1<<32 + 9, math.MaxInt - 1, math.MaxInt} {
		if New(tx, plain) != nil {
			t.Error(tx)
		}
	}
}

func TestPushIsTheNextGroup(t *testing.T) {
	for _, l := range someLinks() {
		s := New(40, l)
		for group := range 4 {
			text := textOf(l.Code, group)
			wantErrno(t, s.Push(text), api.OK)
			if s.Room() != 3-group || s.Hello().Seq != 0 {
				t.Fatal(s.Room(), s.Hello())
			}
			var want []api.Frame
			for place, shard := range encoded(l.Code, text) {
				want = append(want, api.Frame{Tx: 40, Seq: group*16 + place, Data: shard})
			}
			wantFrames(t, s.Tick(9), want...)
		}
	}
}

// begun is a sender with so many flights: the first was sent until it was given up, and is told there; the second was sent twice, the third once, the fourth never.
func begun(t *testing.T, many int) (pair, int) {
	t.Helper()
	p := newPair(t, 12, plain)
	now := 50
	for i := range many {
		p.pushNext(1)
		switch i {
		case 0:
			for range 4 {
				p.tick(now)
				now += 5
			}
			p.ack(0, 1)
		case 1:
			p.tick(now)
			p.tick(now + 5)
			now += 9
		case 2:
			p.tick(now)
			now++
		}
	}
	return p, now
}

func TestPushOfOtherTexts(t *testing.T) {
	for many := range 5 {
		for size := range 40 {
			for _, text := range [][]byte{make([]byte, size), make([]byte, size, 60)} {
				p, now := begun(t, many)
				want := api.ErrSize
				if size == 6 && many == 4 {
					want = api.ErrFull
				} else if size == 6 {
					want = api.OK
				}
				wantErrno(t, p.s.Push(text), want)
				p.b.push(text)
				p.look()
				p.goOn(now)
			}
		}
	}
}

func TestPushOfOtherTextsOfEachLink(t *testing.T) {
	for _, l := range someLinks() {
		size := l.Code.K * l.Code.Size
		p := newPair(t, 0, l)
		for _, other := range [][]byte{nil, {}, make([]byte, size-1), make([]byte, size+1), make([]byte, size+256), make([]byte, 1000)} {
			wantErrno(t, p.s.Push(other), api.ErrSize)
			p.look()
		}
		p.pushNext(4)
		for _, other := range [][]byte{nil, {}, make([]byte, size-1), make([]byte, size+1), make([]byte, size+256)} {
			wantErrno(t, p.s.Push(other), api.ErrSize)
		}
		wantErrno(t, p.s.Push(make([]byte, size)), api.ErrFull)
		p.look()
		p.goOn(3)
	}
}

// There is room again when flights are behind, not when they are there or given up.
func TestRoomAndLost(t *testing.T) {
	want := func(s *Sender, room, lost int) {
		t.Helper()
		if s.Room() != room || s.Lost() != lost {
			t.Errorf("room %d, lost %d, not %d, %d", s.Room(), s.Lost(), room, lost)
		}
	}
	s := New(12, plain)
	ack := func(base, bits byte) {
		t.Helper()
		if !s.Hear(api.Frame{Tx: 12, Kind: api.Ack, Data: []byte{base, bits}}) {
			t.Error("no ack")
		}
	}
	want(s, 4, 0)
	for i := range 4 {
		s.Push(textOf(plainCode, i))
		want(s, 3-i, 0)
	}
	ack(0, 10)
	want(s, 0, 0)
	for i := range 4 {
		s.Tick(5 * i)
	}
	// 0 and 2 are given up now, 1 and 3 are there.
	want(s, 0, 0)
	ack(0, 15)
	want(s, 0, 0)
	wantErrno(t, s.Push(textOf(plainCode, 4)), api.ErrFull)
	ack(1, 0)
	want(s, 1, 1)
	ack(1, 0)
	want(s, 1, 1)
	ack(2, 3)
	want(s, 2, 1)
	// Told there after all, it was given up all the same.
	ack(3, 1)
	want(s, 3, 2)
	ack(4, 0)
	want(s, 4, 2)
	wantErrno(t, s.Push(textOf(plainCode, 4)), api.OK)
	if f := s.Hello(); f.Seq != 64 {
		t.Error(f)
	}
	want(s, 3, 2)
}

// A flight that was sent Most times isn't given up until the next wait is over.
func TestLostOfOneSentMostTimes(t *testing.T) {
	for _, l := range someLinks() {
		for times := range l.Most + 4 {
			p := newPair(t, 3, l)
			p.pushNext(1)
			for i := range times {
				if len(p.tick(i*l.Wait)) == 0 {
					t.Fatal(l, i)
				}
			}
			p.ack(1, 0)
			want := 0
			if times > l.Most {
				want = 1
			}
			if p.s.Lost() != want {
				t.Errorf("%v: sent %d times: lost %d", l, times, p.s.Lost())
			}
		}
	}
}

// The chapter's example.
func TestTickAgainAtOnce(t *testing.T) {
	for _, l := range someLinks() {
		s := New(5, l)
		s.Push(textOf(l.Code, 1))
		if got := s.Tick(77); len(got) != l.Code.N {
			t.Error(l, got)
		}
		if got := s.Tick(77); len(got) != 0 {
			t.Error(l, got)
		}
	}
}

func TestTickOfWrittenOutFrames(t *testing.T) {
	s := New(200, api.Link{Code: api.Code{K: 1, N: 2, Size: 2}, Wait: 4, Most: 2})
	wantFrames(t, s.Tick(0))
	s.Push([]byte("ab"))
	first := []api.Frame{{Tx: 200, Seq: 0, Data: []byte("ab")}, {Tx: 200, Seq: 1, Data: []byte("ab")}}
	second := []api.Frame{{Tx: 200, Seq: 16, Data: []byte("cd")}, {Tx: 200, Seq: 17, Data: []byte("cd")}}
	skips := []api.Frame{{Tx: 200, Seq: 0, Kind: 2}, {Tx: 200, Seq: 16, Kind: 2}}
	wantFrames(t, s.Tick(10), first...)
	s.Push([]byte("cd"))
	wantFrames(t, s.Tick(10), second...)
	wantFrames(t, s.Tick(13))
	wantFrames(t, s.Tick(14), append(slices.Clone(first), second...)...)
	wantFrames(t, s.Tick(17))
	wantFrames(t, s.Tick(19), skips...)
	wantFrames(t, s.Tick(22))
	wantFrames(t, s.Tick(23), skips...)
	s.Hear(api.Frame{Tx: 200, Kind: 1, Data: []byte{0, 1}})
	wantFrames(t, s.Tick(27), skips[1])
	s.Hear(api.Frame{Tx: 200, Kind: 1, Data: []byte{0, 0}})
	wantFrames(t, s.Tick(28), skips[0])
	wantFrames(t, s.Tick(31), skips[1])
	s.Hear(api.Frame{Tx: 200, Kind: 1, Data: []byte{1, 0}})
	wantFrames(t, s.Tick(40), skips[1])
	s.Hear(api.Frame{Tx: 200, Kind: 1, Data: []byte{2, 0}})
	wantFrames(t, s.Tick(50))
}

// Most times the shards, then Skip, each Wait ticks, until it is behind: ticked at each time in between.
func TestFlightThatIsNeverAcked(t *testing.T) {
	for _, l := range someLinks() {
		s := New(9, l)
		s.Push(textOf(l.Code, 3))
		for now := range l.Wait * (l.Most + 5) {
			got := s.Tick(now - 17)
			switch {
			case now%l.Wait != 0:
				wantFrames(t, got)
			case now/l.Wait < l.Most:
				if len(got) != l.Code.N || got[0].Kind != 0 {
					t.Fatal(l, now, got)
				}
			default:
				wantFrames(t, got, api.Frame{Tx: 9, Seq: 0, Kind: 2})
			}
		}
		s.Hear(api.Frame{Tx: 9, Kind: 1, Data: []byte{1, 0}})
		wantFrames(t, s.Tick(end))
	}
}

// Flights of which each has its own times, ticked at all.
func TestSeveralFlightsInTurn(t *testing.T) {
	for _, l := range someLinks() {
		for gap := range 8 {
			p := newPair(t, 255, l)
			now := -20
			for range 4 {
				p.pushNext(1)
				for range gap {
					p.tick(now)
					now++
				}
			}
			for range l.Wait * (l.Most + 2) {
				p.tick(now)
				now++
			}
			p.goOn(now)
		}
	}
}

func TestEdgesOfWait(t *testing.T) {
	for _, l := range someLinks() {
		for _, begin := range []int{-end, -end + 1, -1000, -l.Wait, -1, 0, 1, l.Wait, 1 << 31, 1 << 32, end - 200} {
			for _, step := range []int{-end - begin, -1, 0, 1, l.Wait - 1, l.Wait, l.Wait + 1, end - begin} {
				p := newPair(t, 1, l)
				p.pushNext(1)
				if len(p.tick(begin)) != l.Code.N {
					t.Fatal(l, begin)
				}
				got := len(p.tick(begin + step))
				if (got > 0) != (step >= l.Wait) {
					t.Errorf("%v: %d frames %d ticks behind %d", l, got, step, begin)
				}
			}
		}
	}
}

// A flight waits from the time it was sent at, however far back or on others are.
func TestTimesThatGoBack(t *testing.T) {
	p := newPair(t, 1, plain)
	p.pushNext(1)
	p.tick(100)
	for _, now := range []int{99, 0, -5, -end, 104, 50} {
		wantFrames(t, p.tick(now))
	}
	p.pushNext(1)
	if got := p.tick(-end); len(got) != 4 || got[0].Seq != 16 {
		t.Error(got)
	}
	if got := p.tick(-end + 5); len(got) != 4 || got[0].Seq != 16 {
		t.Error(got)
	}
	if got := p.tick(105); len(got) != 8 || got[0].Seq != 0 || got[4].Seq != 16 {
		t.Error(got)
	}
	wantFrames(t, p.tick(-end))
	p.goOn(end - 100)
}

// No time is too great or too small for the sum of it and Wait.
func TestAnyTimes(t *testing.T) {
	times := []int{math.MinInt, math.MinInt + 1, math.MinInt + 5, math.MinInt + 100, -end - 1, -end, -1, 0, 4, 5, 99, 100, end, end + 1, math.MaxInt - 100, math.MaxInt - 5, math.MaxInt - 4, math.MaxInt - 1, math.MaxInt}
	for _, l := range someLinks() {
		for _, first := range times {
			for _, second := range times {
				s := New(1, l)
				s.Push(textOf(l.Code, 1))
				if len(s.Tick(first)) != l.Code.N {
					t.Fatal(first)
				}
				until := new(big.Int).Add(big.NewInt(int64(first)), big.NewInt(int64(l.Wait)))
				want := big.NewInt(int64(second)).Cmp(until) >= 0
				if got := len(s.Tick(second)) > 0; got != want {
					t.Errorf("Wait %d: at %d behind %d: %t", l.Wait, second, first, got)
				}
			}
		}
	}
}

// The first flight isn't due, or the second: who is due comes all the same, and an end that is asked for is one.
func TestDueEndsWhereItIsAskedTo(t *testing.T) {
	s := New(1, plain)
	for i := range 4 {
		s.Push(textOf(plainCode, i))
	}
	for many := 1; many <= 4; many++ {
		var groups []int
		for f := range s.due(0) {
			if groups = append(groups, f.group); len(groups) == many {
				break
			}
		}
		if !slices.Equal(groups, []int{0, 1, 2, 3}[:many]) {
			t.Error(groups)
		}
	}
	s.Hear(api.Frame{Tx: 1, Kind: api.Ack, Data: []byte{0, 5}})
	for f := range s.due(0) {
		f.sent, f.last = 1, 7
	}
	if s.flights[0].sent != 0 || s.flights[1].last != 7 || s.flights[2].sent != 0 || s.flights[3].last != 7 {
		t.Error(s.flights)
	}
}

// atGroup is a sender whose next group is the one of a number.
func atGroup(t *testing.T, l api.Link, number int) pair {
	t.Helper()
	p := newPair(t, 77, l)
	for p.b.pushed < number {
		p.pushNext(min(4, number-p.b.pushed))
		p.ack(p.b.pushed%256, 0)
	}
	return p
}

// copied is a sender as another one is, and its book.
func copied(p pair) pair {
	s, b := *p.s, *p.b
	s.flights, b.out = slices.Clone(s.flights), slices.Clone(b.out)
	return pair{p.t, &s, &b}
}

func TestHearOfEachBase(t *testing.T) {
	for _, number := range []int{0, 124, 254, 767} {
		for many := range 5 {
			p := atGroup(t, api.Link{Code: api.Code{K: 1, N: 2, Size: 1}, Wait: 2, Most: 2}, number)
			p.pushNext(many)
			p.tick(1)
			for base := range 256 {
				for _, bits := range []int{0, 6, 9, 240, 255} {
					q := copied(p)
					q.ack(base, bits)
					q.goOn(3)
				}
			}
		}
	}
}

func TestHearOfEachBit(t *testing.T) {
	for _, number := range []int{0, 253, 254, 255, 257} {
		p := atGroup(t, plain, number)
		p.pushNext(4)
		for base := number - 8; base <= number+8; base++ {
			for bits := range 256 {
				q := copied(p)
				q.ack((base+256)%256, bits)
				q.tick(0)
				q.tick(20)
			}
		}
	}
}

// An ack stands alone: what one told there isn't, if the next one tells so.
func TestLastAckHolds(t *testing.T) {
	for _, first := range []int{0, 5, 10, 15} {
		p := atGroup(t, plain, 254)
		p.pushNext(4)
		p.ack(254, first)
		p.tick(0)
		for base := 250; base < 262; base++ {
			for bits := range 32 {
				q := copied(p)
				q.ack(base%256, bits)
				q.tick(0)
				q.goOn(2)
			}
		}
	}
}

// Of groups that are neither behind the base nor open from it none is there.
func TestAckOfAnOlderBase(t *testing.T) {
	s := New(1, plain)
	for i := range 4 {
		s.Push(textOf(plainCode, i))
	}
	s.Hear(api.Frame{Tx: 1, Kind: 1, Data: []byte{0, 15}})
	wantFrames(t, s.Tick(0))
	s.Hear(api.Frame{Tx: 1, Kind: 1, Data: []byte{254, 255}})
	got := s.Tick(0)
	if s.Room() != 0 || len(got) != 8 || got[0].Seq != 32 || got[4].Seq != 48 {
		t.Error(s.Room(), got)
	}
}

// A base half of the round away: the last flights are behind it, and the first ones stay.
func TestBaseBeyondTheFlights(t *testing.T) {
	s := New(1, plain)
	for i := range 4 {
		s.Push(textOf(plainCode, i))
	}
	s.Hear(api.Frame{Tx: 1, Kind: 1, Data: []byte{130, 255}})
	if s.Room() != 2 || s.Hello().Seq != 0 {
		t.Error(s.Room(), s.Hello())
	}
	wantErrno(t, s.Push(textOf(plainCode, 4)), api.OK)
	got := s.Tick(0)
	if len(got) != 12 || got[0].Seq != 0 || got[4].Seq != 16 || got[8].Seq != 64 {
		t.Error(got)
	}
}

// An ack is one whatever its Seq, antenna and strength are, within a right frame's bounds.
func TestHearOfRightAcks(t *testing.T) {
	for _, f := range []api.Frame{{}, {Seq: 1}, {Seq: 4095}, {Ant: 7}, {Rssi: 127}, {Seq: 4095, Ant: 7, Rssi: 127}} {
		for many := range 5 {
			p, now := begun(t, many)
			f.Tx, f.Kind, f.Data = 12, 1, []byte{1, 1}
			if !p.s.Hear(f) {
				t.Error(f)
			}
			p.b.hear(f)
			p.look()
			p.goOn(now)
		}
	}
}

func notAcks() []api.Frame {
	right := []byte{3, 15}
	list := []api.Frame{{}, {Tx: 12}, {Tx: 12, Kind: 1}, {Kind: 1, Data: right}}
	for _, kind := range []int{math.MinInt, -256, -255, -3, -1, 0, 2, 3, 4, 5, 257, 1<<32 + 1, math.MaxInt} {
		list = append(list, api.Frame{Tx: 12, Kind: kind, Data: right})
	}
	for _, tx := range []int{math.MinInt, -244, -12, -1, 0, 11, 13, 255, 256, 268, 1<<32 + 12, math.MaxInt} {
		list = append(list, api.Frame{Tx: tx, Kind: 1, Data: right})
	}
	for _, size := range []int{0, 1, 3, 4, 5, 6, 59, 60, 61, 258, 1000} {
		list = append(list, api.Frame{Tx: 12, Kind: 1, Data: bytes.Repeat([]byte{3}, size)})
	}
	for _, n := range []int{math.MinInt, math.MinInt + 1, math.MinInt32, -4096, -1, 4096, 4097, 1 << 32, math.MaxInt} {
		list = append(list, api.Frame{Tx: 12, Kind: 1, Seq: n, Data: right}, api.Frame{Tx: 12, Kind: 1, Ant: n, Data: right}, api.Frame{Tx: 12, Kind: 1, Rssi: n, Data: right})
	}
	return append(list, api.Frame{Tx: 12, Kind: 1, Ant: 8, Data: right}, api.Frame{Tx: 12, Kind: 1, Rssi: 128, Data: right})
}

func TestHearOfOtherFrames(t *testing.T) {
	for _, f := range notAcks() {
		for many := range 5 {
			p, now := begun(t, many)
			if p.s.Hear(f) {
				t.Error(f)
			}
			p.look()
			p.goOn(now)
		}
	}
}

// What a sender sends is no ack for it, nor for another one.
func TestHearOfOwnFrames(t *testing.T) {
	p, now := begun(t, 4)
	for _, f := range append(p.tick(now), p.s.Hello()) {
		p.hear(f)
	}
	p.goOn(now)
}

func TestHello(t *testing.T) {
	s := New(31, plain)
	want := func(seq int) {
		t.Helper()
		if f := s.Hello(); !sameFrame(f, api.Frame{Tx: 31, Seq: seq, Kind: 3}) {
			t.Error(f, seq)
		}
	}
	ack := func(base, bits byte) { s.Hear(api.Frame{Tx: 31, Kind: 1, Data: []byte{base, bits}}) }
	want(0)
	s.Push(textOf(plainCode, 0))
	s.Push(textOf(plainCode, 1))
	want(0)
	s.Tick(4)
	want(0)
	ack(0, 3)
	want(0)
	ack(1, 1)
	want(16)
	ack(2, 0)
	want(32)
	s.Push(textOf(plainCode, 2))
	want(32)
	ack(3, 0)
	want(48)
}

func TestNilSender(t *testing.T) {
	var s *Sender
	for _, text := range [][]byte{nil, {}, []byte("a"), textOf(plainCode, 0), make([]byte, 300)} {
		wantErrno(t, s.Push(text), api.ErrArg)
	}
	for _, now := range []int{math.MinInt, -end, -1, 0, 1, end, math.MaxInt} {
		wantFrames(t, s.Tick(now))
	}
	for _, f := range append(notAcks(), api.Frame{Kind: 1, Data: []byte{0, 0}}, api.Frame{Tx: 12, Kind: 1, Data: []byte{1, 1}}) {
		if s.Hear(f) {
			t.Error(f)
		}
	}
	if f := s.Hello(); !sameFrame(f, api.Frame{}) {
		t.Error(f)
	}
	if s.Room() != 0 || s.Lost() != 0 {
		t.Error(s.Room(), s.Lost())
	}
}

// Groups go round three times; some are given up, and nothing of a round is left in the next one.
func TestGoesRound(t *testing.T) {
	for _, l := range someLinks() {
		p := newPair(t, 60, l)
		now := 0
		for p.b.pushed < 3*256+20 {
			p.pushNext(4 - len(p.b.out))
			first := p.b.out[0].number
			times := 1
			if first%7 == 0 {
				times = l.Most + 1
			}
			for range times {
				p.tick(now)
				now += l.Wait
			}
			p.ack(first%256, first%16)
			p.tick(now)
			p.ack((first+1+first%4)%256, first%3)
			p.tick(now)
		}
		if p.s.Lost() < 20 {
			t.Error(l, p.s.Lost())
		}
		p.goOn(now)
	}
}

// All frames of a group that goes out are right, are parsed again, and any K of them are its text.
func TestFramesAreTheirText(t *testing.T) {
	for k := 1; k <= 6; k++ {
		for n := k; n <= 10; n++ {
			for _, size := range []int{1, 2, 23, 24} {
				c := api.Code{K: k, N: n, Size: size}
				s := New(254, api.Link{Code: c, Wait: 2, Most: 4})
				texts := [][]byte{textOf(c, 1), textOf(c, 2), make([]byte, k*size), bytes.Repeat([]byte{255}, k*size)}
				for _, text := range texts {
					wantErrno(t, s.Push(text), api.OK)
				}
				for now := range 5 {
					wantTexts(t, c, s.Tick(2*now), texts)
				}
			}
		}
	}
}

func wantTexts(t *testing.T, c api.Code, frames []api.Frame, texts [][]byte) {
	t.Helper()
	shards := map[int][][]byte{}
	for _, f := range frames {
		got, e := frame.Parse(frame.Put(f))
		if e != api.OK || !frame.Same(f, got) {
			t.Fatal(f, got, e)
		}
		if group, _, _ := seq.Split(f.Seq); f.Kind == api.Shard {
			shards[group] = append(shards[group], f.Data)
		}
	}
	for group, list := range shards {
		for lost := range c.N {
			some := slices.Clone(list)
			for i := range c.N - c.K {
				some[(lost+i)%c.N] = nil
			}
			if text, e := rs.Decode(c, some); e != api.OK || !bytes.Equal(text, texts[group]) {
				t.Fatal(c, group, text, e)
			}
		}
	}
}

// drawTime goes on a little mostly, and sometimes back, or to the ends.
func drawTime(draw *rand.Rand, now int) int {
	switch draw.Intn(60) {
	case 0:
		return -end
	case 1:
		return end
	case 2, 3, 4:
		return max(now-draw.Intn(300), -end)
	}
	return min(now+draw.Intn(6), end)
}

func drawAck(draw *rand.Rand, b *book) api.Frame {
	base := b.hello().Seq/16 + draw.Intn(5) - 1
	if draw.Intn(30) == 0 {
		base = draw.Intn(256)
	}
	f := api.Frame{Tx: b.tx, Seq: draw.Intn(4096), Ant: draw.Intn(8), Rssi: draw.Intn(128), Kind: 1, Data: []byte{byte(base), byte(draw.Intn(256))}}
	switch draw.Intn(40) {
	case 0:
		f.Tx = draw.Intn(300) - 20
	case 1:
		f.Kind = draw.Intn(6) - 1
	case 2:
		f.Data = f.Data[:draw.Intn(3)]
	case 3:
		f.Seq, f.Ant = draw.Intn(6000)-1000, draw.Intn(10)-1
	}
	return f
}

func TestDrawnSteps(t *testing.T) {
	draw := rand.New(rand.NewSource(8))
	for _, l := range someLinks() {
		for range 4 {
			p, now := newPair(t, draw.Intn(256), l), 0
			for range 4000 {
				switch draw.Intn(6) {
				case 0, 1:
					text := make([]byte, l.Code.K*l.Code.Size+max(0, draw.Intn(20)-18))
					draw.Read(text)
					p.push(text)
				case 2:
					p.hear(drawAck(draw, p.b))
				default:
					now = drawTime(draw, now)
					p.tick(now)
				}
			}
		}
	}
}

// With a collector at the other end, and frames and acks that are lost: each text arrives, in order, or was given up.
func TestUntilTheyAreThere(t *testing.T) {
	draw := rand.New(rand.NewSource(9))
	for _, l := range someLinks() {
		for _, losses := range []int{0, 20, 50, 80} {
			s, x := New(44, l), collect.New(l.Code, 0)
			pushed, came, gaps := 0, 0, 0
			for now := 0; came < 300 && now < 5000*l.Wait; now++ {
				if s.Room() > 0 {
					wantErrno(t, s.Push(textOf(l.Code, pushed)), api.OK)
					pushed++
				}
				for _, f := range s.Tick(now) {
					group, place, _ := seq.Split(f.Seq)
					switch lost := draw.Intn(100) < losses; {
					case !lost && f.Kind == api.Skip:
						x.Skip(group)
					case !lost && f.Kind == api.Shard:
						x.Shard(group, place, f.Data)
					}
				}
				for _, part := range x.Due() {
					if part.Group != came%256 || !part.Gap && !bytes.Equal(part.Data, textOf(l.Code, came)) {
						t.Fatal(l, came, part)
					}
					if came++; part.Gap {
						gaps++
					}
				}
				if draw.Intn(100) >= losses {
					s.Hear(api.Frame{Tx: 44, Kind: api.Ack, Data: []byte{byte(x.Base()), byte(x.Ready())}})
				}
			}
			if came < 300 || losses == 0 && (gaps > 0 || s.Lost() > 0) {
				t.Errorf("%v, losses %d: %d came, %d gaps, %d lost", l, losses, came, gaps, s.Lost())
			}
			s.Hear(api.Frame{Tx: 44, Kind: api.Ack, Data: []byte{byte(x.Base()), 0}})
			if s.Lost() < gaps {
				t.Errorf("%v: %d gaps, %d lost", l, gaps, s.Lost())
			}
		}
	}
}

// roomy is bytes with spare room behind them, and all of it.
func roomy(b []byte) (part, all []byte) {
	all = append(slices.Clone(b), 0xa1, 0xa2, 0xa3, 0xa4, 0xa5, 0xa6, 0xa7, 0xa8)
	return all[:len(b):len(all)], all
}

func spoil(b []byte) {
	b = b[:cap(b)]
	for i := range b {
		b[i] ^= 0x5a
	}
}

func TestTextsAreNeitherChangedNorKept(t *testing.T) {
	for _, l := range someLinks() {
		p := newPair(t, 30, l)
		for i := range 5 {
			part, all := roomy(textOf(l.Code, i))
			was := slices.Clone(all)
			p.push(part)
			p.push(all)
			if !bytes.Equal(all, was) {
				t.Error("changed by Push")
			}
			spoil(all)
			was = slices.Clone(all)
			p.tick(0)
			p.tick(100)
			if !bytes.Equal(all, was) {
				t.Error("changed by Tick")
			}
		}
		p.goOn(300)
	}
}

func TestAcksAreNeitherChangedNorKept(t *testing.T) {
	for bits := range 16 {
		p, now := begun(t, 4)
		part, all := roomy([]byte{1, byte(bits)})
		was := slices.Clone(all)
		p.hear(api.Frame{Tx: 12, Kind: 1, Data: part})
		if !bytes.Equal(all, was) {
			t.Error("changed by Hear")
		}
		spoil(all)
		p.goOn(now)
	}
}

// Turning what was answered, spare room and all, turns neither the other frames of it nor what is answered later.
func TestAnswersAreNewMemory(t *testing.T) {
	for _, l := range someLinks() {
		p := newPair(t, 30, l)
		p.pushNext(4)
		for now := range l.Most + 2 {
			got := p.tick(now * l.Wait)
			for i := range got {
				rest := fmt.Sprint(got[i+1:])
				spoil(got[i].Data)
				if fmt.Sprint(got[i+1:]) != rest {
					t.Fatal("frames share bytes")
				}
			}
			clear(got[:cap(got)])
			hello := p.s.Hello()
			hello.Tx, hello.Data = 0, append(hello.Data, 1, 2)
			p.look()
		}
		p.goOn(1000)
	}
}

// A later call turns nothing of an earlier answer.
func TestAnswersStay(t *testing.T) {
	p := newPair(t, 30, plain)
	p.pushNext(2)
	first := p.tick(0)
	was := fmt.Sprint(first)
	p.ack(1, 0)
	p.pushNext(3)
	p.goOn(0)
	if fmt.Sprint(first) != was {
		t.Error("an answer was turned later")
	}
}

// Two senders turn nothing of each other.
func TestSendersAreAlone(t *testing.T) {
	p, q := newPair(t, 5, plain), newPair(t, 5, plain)
	p.pushNext(4)
	p.tick(0)
	q.look()
	q.pushNext(1)
	q.tick(3)
	p.ack(2, 1)
	q.look()
	p.goOn(4)
	q.goOn(4)
}
