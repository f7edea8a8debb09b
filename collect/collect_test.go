package collect

import (
	"bytes"
	"math"
	"math/rand"
	"slices"
	"testing"

	"gurney/api"
	"gurney/rs"
)

// What is asked for is reckoned by the tests themselves: by a row of four open groups, with the document's numbers written out, and of shards that layer 5 made.

var noGroups = []int{math.MinInt, math.MinInt + 1, math.MinInt32, -257, -256, -255, -128, -4, -3, -2, -1, 256, 257, 258, 259, 260, 511, 512, math.MaxInt32, math.MaxInt - 1, math.MaxInt}

// openGroup is what the row holds of one group.
type openGroup struct {
	shards  map[int][]byte
	givenUp bool
}

// row is a collector by its words: the base's number, and the four groups from it on.
type row struct {
	code api.Code
	base int
	open []openGroup
}

func newRow(c api.Code, base int) *row {
	r := &row{code: c, base: base}
	for range 4 {
		r.open = append(r.open, openGroup{shards: map[int][]byte{}})
	}
	return r
}

// far is how far a group is from the base; -1 of no group.
func (r *row) far(group int) int {
	switch {
	case group < 0 || group > 255:
		return -1
	case group < r.base:
		return group + 256 - r.base
	}
	return group - r.base
}

func (r *row) shard(group, place int, b []byte) api.Errno {
	far := r.far(group)
	switch {
	case far == -1 || place < 0 || place > r.code.N-1:
		return api.ErrArg
	case len(b) != r.code.Size:
		return api.ErrSize
	case far >= 128:
		return api.ErrTwice
	case far > 3:
		return api.ErrNone
	case r.open[far].shards[place] != nil:
		return api.ErrTwice
	}
	r.open[far].shards[place] = slices.Clone(b)
	return api.OK
}

func (r *row) skip(group int) api.Errno {
	far := r.far(group)
	switch {
	case far == -1:
		return api.ErrArg
	case far >= 128:
		return api.ErrTwice
	case far > 3:
		return api.ErrNone
	case r.open[far].givenUp:
		return api.ErrTwice
	}
	r.open[far].givenUp = true
	return api.OK
}

func (r *row) isReady(far int) bool {
	return r.open[far].givenUp || len(r.open[far].shards) >= r.code.K
}

func (r *row) due() []api.Part {
	var parts []api.Part
	for r.isReady(0) {
		first := r.open[0]
		if len(first.shards) < r.code.K {
			parts = append(parts, api.Part{Group: r.base, Gap: true})
		} else {
			parts = append(parts, api.Part{Group: r.base, Data: decoded(r.code, first.shards)})
		}
		r.open = append(r.open[1:], openGroup{shards: map[int][]byte{}})
		if r.base++; r.base == 256 {
			r.base = 0
		}
	}
	return parts
}

func (r *row) ready() int {
	sum, worth := 0, 1
	for far := range 4 {
		if r.isReady(far) {
			sum += worth
		}
		worth *= 2
	}
	return sum
}

func (r *row) have(group int) int {
	if far := r.far(group); far >= 0 && far <= 3 {
		return len(r.open[far].shards)
	}
	return 0
}

func decoded(c api.Code, byPlace map[int][]byte) []byte {
	list := make([][]byte, c.N)
	for place, b := range byPlace {
		list[place] = b
	}
	text, e := rs.Decode(c, list)
	if e != api.OK {
		panic(e)
	}
	return text
}

func encoded(c api.Code, text []byte) [][]byte {
	shards, e := rs.Encode(c, text)
	if e != api.OK {
		panic(e)
	}
	return shards
}

// textOf is a text unlike those of other numbers.
func textOf(c api.Code, number int) []byte {
	text := make([]byte, c.K*c.Size)
	rand.New(rand.NewSource(int64(number))).Read(text)
	return text
}

func shardsOf(c api.Code, number int) [][]byte { return encoded(c, textOf(c, number)) }

func sameParts(a, b []api.Part) bool {
	return slices.EqualFunc(a, b, func(p, q api.Part) bool {
		return p.Group == q.Group && p.Gap == q.Gap && bytes.Equal(p.Data, q.Data)
	})
}

func wantErrno(t *testing.T, got, want api.Errno) {
	t.Helper()
	if got != want {
		t.Errorf("error %d, not %d", got, want)
	}
}

func wantParts(t *testing.T, got []api.Part, want ...api.Part) {
	t.Helper()
	if !sameParts(got, want) {
		t.Errorf("due: %v, not %v", got, want)
	}
}

// wantLike holds what a collector tells against the row.
func wantLike(t *testing.T, x *Collector, r *row) {
	t.Helper()
	if x.Base() != r.base || x.Ready() != r.ready() {
		t.Fatalf("base %d, ready %b, not %d, %b", x.Base(), x.Ready(), r.base, r.ready())
	}
	for group := range 256 {
		if got, want := x.Have(group), r.have(group); got != want {
			t.Fatalf("base %d: %d shards of the group %d, not %d", r.base, got, group, want)
		}
	}
}

func someCodes() []api.Code {
	return []api.Code{{K: 1, N: 1, Size: 1}, {K: 1, N: 10, Size: 24}, {K: 1, N: 3, Size: 2}, {K: 2, N: 3, Size: 2}, {K: 3, N: 3, Size: 5}, {K: 3, N: 5, Size: 1}, {K: 4, N: 7, Size: 3}, {K: 6, N: 6, Size: 24}, {K: 6, N: 10, Size: 24}}
}

var plain = api.Code{K: 2, N: 4, Size: 3}

func TestNewOfEachCode(t *testing.T) {
	for k := 1; k <= 6; k++ {
		for n := k; n <= 10; n++ {
			for size := 1; size <= 24; size++ {
				c := api.Code{K: k, N: n, Size: size}
				x := New(c, 77)
				if x == nil {
					t.Fatal(c)
				}
				wantLike(t, x, newRow(c, 77))
			}
		}
	}
}

func TestNewOfEachGroup(t *testing.T) {
	for base := range 256 {
		x := New(plain, base)
		if x == nil {
			t.Fatal(base)
		}
		wantLike(t, x, newRow(plain, base))
		if len(x.Due()) != 0 {
			t.Error(base)
		}
	}
}

func TestNewOfNoGroup(t *testing.T) {
	for _, base := range noGroups {
		if New(plain, base) != nil {
			t.Error(base)
		}
	}
}

func TestNewOfCodesThatMayNotBe(t *testing.T) {
	list := []api.Code{{}, {K: 7, N: 7, Size: 3}, {K: 7, N: 10, Size: 3}, {K: 1, N: 11, Size: 3}, {K: 6, N: 11, Size: 3}, {K: 6, N: 5, Size: 3}, {K: 2, N: 1, Size: 3}, {K: 1, N: 1, Size: 25}}
	for _, n := range []int{math.MinInt, math.MinInt + 1, -256, -1, 0, 25, 26, 256, 257, math.MaxInt - 1, math.MaxInt} {
		list = append(list, api.Code{K: n, N: 4, Size: 3}, api.Code{K: 2, N: n, Size: 3}, api.Code{K: 2, N: 4, Size: n}, api.Code{K: n, N: n, Size: 3}, api.Code{K: n, N: n, Size: n})
	}
	for _, c := range list {
		for _, base := range []int{0, 3, 255, -1, 256} {
			if New(c, base) != nil {
				t.Errorf("New(%v, %d)", c, base)
			}
		}
	}
}

func TestShardIsThere(t *testing.T) {
	for _, c := range someCodes() {
		for base := range 256 {
			x, r := New(c, base), newRow(c, base)
			for far := range 4 {
				group := (base + far) % 256
				for place, b := range shardsOf(c, far) {
					wantErrno(t, x.Shard(group, place, b), api.OK)
					r.shard(group, place, b)
				}
				if x.Have(group) != c.N {
					t.Fatalf("%v: %d shards of the group %d", c, x.Have(group), group)
				}
			}
			wantLike(t, x, r)
			wantParts(t, x.Due(), r.due()...)
		}
	}
}

// begun is a collector, and its row, of base 254: the base has one of two shards, the next group both, the third one is given up, the fourth empty.
func begun() (*Collector, *row) {
	x, r := New(plain, 254), newRow(plain, 254)
	a, b := shardsOf(plain, 1), shardsOf(plain, 2)
	for _, s := range []struct {
		group, place int
		b            []byte
	}{{254, 1, a[1]}, {255, 3, b[3]}, {255, 0, b[0]}} {
		x.Shard(s.group, s.place, s.b)
		r.shard(s.group, s.place, s.b)
	}
	x.Skip(0)
	r.skip(0)
	return x, r
}

func TestBegun(t *testing.T) {
	x, _ := begun()
	if x.Base() != 254 || x.Ready() != 6 || x.Have(254) != 1 || x.Have(255) != 2 || x.Have(0) != 0 || x.Have(1) != 0 {
		t.Error(x.Base(), x.Ready())
	}
	wantParts(t, x.Due())
	wantErrno(t, x.Shard(254, 2, shardsOf(plain, 1)[2]), api.OK)
	if x.Ready() != 7 {
		t.Error(x.Ready())
	}
	wantParts(t, x.Due(), api.Part{Group: 254, Data: textOf(plain, 1)}, api.Part{Group: 255, Data: textOf(plain, 2)}, api.Part{Group: 0, Gap: true})
	if x.Base() != 1 || x.Ready() != 0 {
		t.Error(x.Base(), x.Ready())
	}
}

// wantRefused asks for an error of a shard, and that nothing was turned: neither what is told now nor what is due when the base is ready.
func wantRefused(t *testing.T, want api.Errno, group, place int, b []byte) {
	t.Helper()
	x, r := begun()
	if e := x.Shard(group, place, b); e != want {
		t.Errorf("Shard(%d, %d, %d bytes): error %d, not %d", group, place, len(b), e, want)
	}
	wantUnturned(t, x, r)
}

func wantUnturned(t *testing.T, x *Collector, r *row) {
	t.Helper()
	wantLike(t, x, r)
	wantParts(t, x.Due())
	x.Skip(254)
	r.skip(254)
	wantParts(t, x.Due(), r.due()...)
	wantLike(t, x, r)
}

var (
	right = []byte("new")
	wrong = [][]byte{nil, {}, []byte("a"), []byte("ab"), []byte("abcd"), make([]byte, 6), make([]byte, 24), make([]byte, 259)}

	noPlaces = []int{math.MinInt, math.MinInt + 1, -256, -16, -1, 4, 5, 10, 16, 20, 256, math.MaxInt - 1, math.MaxInt}
)

func TestShardOfNoGroup(t *testing.T) {
	for _, group := range noGroups {
		for _, place := range append(noPlaces, 0, 1, 3) {
			for _, b := range append(wrong, right) {
				wantRefused(t, api.ErrArg, group, place, b)
			}
		}
	}
}

func TestShardOfNoPlace(t *testing.T) {
	for _, place := range noPlaces {
		for _, group := range []int{254, 255, 0, 1, 2, 125, 126, 253} {
			for _, b := range append(wrong, right) {
				wantRefused(t, api.ErrArg, group, place, b)
			}
		}
	}
}

func TestShardOfNoPlaceOfEachCode(t *testing.T) {
	for _, c := range someCodes() {
		x := New(c, 9)
		b := make([]byte, c.Size)
		wantErrno(t, x.Shard(9, c.N, b), api.ErrArg)
		wantErrno(t, x.Shard(9, -1, b), api.ErrArg)
		wantErrno(t, x.Shard(9, c.N-1, b), api.OK)
		wantErrno(t, x.Shard(10, 0, b), api.OK)
	}
}

// Ahead of ErrTwice (a shard that is there, groups behind) and of ErrNone.
func TestShardOfOtherBytes(t *testing.T) {
	for group := range 256 {
		for place := range 4 {
			for _, b := range wrong {
				wantRefused(t, api.ErrSize, group, place, b)
			}
		}
	}
}

func TestShardTwice(t *testing.T) {
	for _, at := range [][2]int{{254, 1}, {255, 0}, {255, 3}} {
		wantRefused(t, api.ErrTwice, at[0], at[1], right)
	}
}

func TestShardOfOthersThanOpenGroups(t *testing.T) {
	for far := 4; far < 256; far++ {
		want := api.ErrNone
		if far >= 128 {
			want = api.ErrTwice
		}
		for place := range 4 {
			wantRefused(t, want, (254+far)%256, place, right)
		}
	}
}

// The first bytes stay, whatever comes at their place later.
func TestFirstShardStays(t *testing.T) {
	x, s := New(plain, 0), shardsOf(plain, 5)
	wantErrno(t, x.Shard(0, 2, s[2]), api.OK)
	wantErrno(t, x.Shard(0, 2, right), api.ErrTwice)
	wantErrno(t, x.Shard(0, 3, s[3]), api.OK)
	wantErrno(t, x.Shard(0, 3, right), api.ErrTwice)
	wantParts(t, x.Due(), api.Part{Group: 0, Data: textOf(plain, 5)})
}

// A shard that was there is behind when its group is done.
func TestShardOfADoneGroup(t *testing.T) {
	x, s := New(plain, 40), shardsOf(plain, 5)
	x.Shard(40, 0, s[0])
	x.Shard(40, 1, s[1])
	wantErrno(t, x.Shard(40, 2, s[2]), api.OK)
	x.Due()
	for place := range 4 {
		wantErrno(t, x.Shard(40, place, s[place]), api.ErrTwice)
	}
	wantErrno(t, x.Skip(40), api.ErrTwice)
	wantErrno(t, x.Shard(44, 0, s[0]), api.OK)
	wantErrno(t, x.Shard(45, 0, s[0]), api.ErrNone)
}

func TestSkip(t *testing.T) {
	for base := range 256 {
		for far := range 4 {
			x, group := New(plain, base), (base+far)%256
			wantErrno(t, x.Skip(group), api.OK)
			if x.Ready() != []int{1, 2, 4, 8}[far] || x.Base() != base {
				t.Fatal(base, far, x.Ready())
			}
			wantErrno(t, x.Skip(group), api.ErrTwice)
			if far > 0 {
				wantParts(t, x.Due())
			} else {
				wantParts(t, x.Due(), api.Part{Group: base, Gap: true})
				wantErrno(t, x.Skip(group), api.ErrTwice)
			}
		}
	}
}

func wantSkipRefused(t *testing.T, want api.Errno, group int) {
	t.Helper()
	x, r := begun()
	if e := x.Skip(group); e != want {
		t.Errorf("Skip(%d): error %d, not %d", group, e, want)
	}
	wantUnturned(t, x, r)
}

func TestSkipOfNone(t *testing.T) {
	for _, group := range noGroups {
		wantSkipRefused(t, api.ErrArg, group)
	}
	wantSkipRefused(t, api.ErrTwice, 0)
	for far := 4; far < 128; far++ {
		wantSkipRefused(t, api.ErrNone, (254+far)%256)
	}
	for far := 128; far < 256; far++ {
		wantSkipRefused(t, api.ErrTwice, (254+far)%256)
	}
}

// A group that is whole may be given up, and its text is due all the same.
func TestSkipOfAWholeGroup(t *testing.T) {
	x, s := New(plain, 7), shardsOf(plain, 5)
	x.Shard(7, 3, s[3])
	x.Shard(7, 1, s[1])
	wantErrno(t, x.Skip(7), api.OK)
	wantErrno(t, x.Skip(7), api.ErrTwice)
	wantParts(t, x.Due(), api.Part{Group: 7, Data: textOf(plain, 5)})
}

func TestGivenUpGroupTakesShards(t *testing.T) {
	for _, c := range someCodes() {
		for many := range c.N + 1 {
			x, s := New(c, 255), shardsOf(c, 8)
			wantErrno(t, x.Skip(255), api.OK)
			for place := range many {
				wantErrno(t, x.Shard(255, place, s[place]), api.OK)
			}
			if x.Have(255) != many || x.Ready() != 1 {
				t.Error(x.Have(255), x.Ready())
			}
			want := api.Part{Group: 255, Gap: true}
			if many >= c.K {
				want = api.Part{Group: 255, Data: textOf(c, 8)}
			}
			wantParts(t, x.Due(), want)
			if x.Base() != 0 || x.Have(255) != 0 || x.Ready() != 0 {
				t.Error(x.Base(), x.Have(255), x.Ready())
			}
		}
	}
}

// Fields that have no meaning are zero: a gap has no bytes, whatever shards were there, and a text is no gap.
func TestPartsOfBothKinds(t *testing.T) {
	x, s := New(plain, 7), shardsOf(plain, 5)
	x.Shard(7, 3, s[3])
	x.Skip(7)
	x.Shard(8, 0, s[0])
	x.Shard(8, 3, s[3])
	x.Skip(8)
	l := x.Due()
	if len(l) != 2 || l[0].Group != 7 || !l[0].Gap || len(l[0].Data) != 0 || l[1].Group != 8 || l[1].Gap || !bytes.Equal(l[1].Data, textOf(plain, 5)) {
		t.Error(l)
	}
}

func TestReadyBitByBit(t *testing.T) {
	for base := 250; base < 262; base++ {
		for _, byShards := range []bool{false, true} {
			for bits := range 16 {
				x, r := New(plain, base%256), newRow(plain, base%256)
				for far := range 4 {
					if bits>>far&1 == 1 {
						makeReady(x, r, (base+far)%256, byShards)
					}
				}
				if x.Ready() != bits {
					t.Errorf("base %d: ready %b, not %b", base%256, x.Ready(), bits)
				}
				wantLike(t, x, r)
				wantParts(t, x.Due(), r.due()...)
				wantLike(t, x, r)
			}
		}
	}
}

func makeReady(x *Collector, r *row, group int, byShards bool) {
	if !byShards {
		x.Skip(group)
		r.skip(group)
		return
	}
	s := shardsOf(plain, group)
	for _, place := range []int{2, 0} {
		x.Shard(group, place, s[place])
		r.shard(group, place, s[place])
	}
}

func TestHaveOfNone(t *testing.T) {
	x, _ := begun()
	for _, group := range noGroups {
		if x.Have(group) != 0 {
			t.Error(group, x.Have(group))
		}
	}
}

func TestNilCollector(t *testing.T) {
	var x *Collector
	for _, n := range append(noGroups, 0, 1, 255) {
		wantErrno(t, x.Shard(n, n, right), api.ErrArg)
		wantErrno(t, x.Shard(0, n, nil), api.ErrArg)
		wantErrno(t, x.Skip(n), api.ErrArg)
		if x.Have(n) != 0 {
			t.Error(n)
		}
	}
	if len(x.Due()) != 0 || x.Base() != 0 || x.Ready() != 0 {
		t.Error(x.Due(), x.Base(), x.Ready())
	}
}

// Each group of three rounds, of which every number comes again: nothing of it is left from the round before.
func TestGoesRound(t *testing.T) {
	for _, c := range []api.Code{plain, {K: 1, N: 2, Size: 1}, {K: 6, N: 10, Size: 2}} {
		x := New(c, 200)
		for number := 200; number < 200+3*256; number++ {
			group, s := number%256, shardsOf(c, number)
			for place := c.N - 1; place > c.N-c.K; place-- {
				wantErrno(t, x.Shard(group, place, s[place]), api.OK)
			}
			if x.Have(group) != c.K-1 || x.Ready() != 0 || len(x.Due()) != 0 || x.Base() != group {
				t.Fatal(number, x.Have(group), x.Ready())
			}
			want := api.Part{Group: group, Data: textOf(c, number)}
			if number%3 == 0 && c.K > 1 {
				want = api.Part{Group: group, Gap: true}
				wantErrno(t, x.Skip(group), api.OK)
			} else {
				wantErrno(t, x.Shard(group, 0, s[0]), api.OK)
			}
			wantParts(t, x.Due(), want)
			if fourth := (group + 4) % 256; x.Base() != (group+1)%256 || x.Have(group) != 0 || x.Have(fourth) != 0 || x.Ready() != 0 {
				t.Fatal(number, x.Base(), x.Ready())
			}
		}
	}
}

// No more is kept than of the open groups.
func TestKeepsOpenGroupsAlone(t *testing.T) {
	x := New(plain, 0)
	for number := range 1000 {
		for place, b := range shardsOf(plain, number) {
			x.Shard(number%256, place, b)
		}
		x.Skip(number % 256)
		x.Due()
		if len(x.shards) != 0 || x.givenUp != 0 {
			t.Fatal(number, len(x.shards), x.givenUp)
		}
	}
}

// orders hands on each order of some numbers.
func orders(list []int, then func([]int)) {
	var from func(i int)
	from = func(i int) {
		if i == len(list) {
			then(list)
			return
		}
		for j := i; j < len(list); j++ {
			list[i], list[j] = list[j], list[i]
			from(i + 1)
			list[i], list[j] = list[j], list[i]
		}
	}
	from(0)
}

// choices hands on each choice of k of n places.
func choices(n, k int, then func([]int)) {
	for set := range 1 << n {
		var chosen []int
		for place := range n {
			if set>>place&1 == 1 {
				chosen = append(chosen, place)
			}
		}
		if len(chosen) == k {
			then(chosen)
		}
	}
}

func TestAnyOfThemInEveryOrder(t *testing.T) {
	for _, c := range []api.Code{{K: 1, N: 3, Size: 4}, {K: 2, N: 4, Size: 3}, {K: 3, N: 5, Size: 2}, {K: 4, N: 5, Size: 1}} {
		s := shardsOf(c, 11)
		for many := c.K; many <= c.N; many++ {
			choices(c.N, many, func(chosen []int) {
				orders(chosen, func(places []int) {
					x := New(c, 254)
					for i, place := range places {
						wantErrno(t, x.Shard(254, place, s[place]), api.OK)
						// again, all that came until now
						for _, again := range places[:i+1] {
							wantErrno(t, x.Shard(254, again, s[again]), api.ErrTwice)
						}
					}
					wantParts(t, x.Due(), api.Part{Group: 254, Data: textOf(c, 11)})
					if x.Ready() != 0 || x.Base() != 255 || len(x.Due()) != 0 {
						t.Fatal(places, x.Ready(), x.Base())
					}
				})
			})
		}
	}
}

// Of shards that are of no one text, too, the order turns nothing.
func TestOrderOfShardsOfNoText(t *testing.T) {
	c := api.Code{K: 2, N: 4, Size: 2}
	s := [][]byte{{1, 2}, {9, 9}, {200, 7}, {0, 31}}
	want := decoded(c, map[int][]byte{0: s[0], 1: s[1], 2: s[2], 3: s[3]})
	orders([]int{0, 1, 2, 3}, func(places []int) {
		x := New(c, 3)
		for _, place := range places {
			x.Shard(3, place, s[place])
		}
		wantParts(t, x.Due(), api.Part{Group: 3, Data: want})
	})
	if !bytes.Equal(want, []byte{1, 2, 9, 9}) {
		t.Error(want)
	}
}

func TestAnyOfThemOfGreatCodes(t *testing.T) {
	for _, c := range []api.Code{{K: 6, N: 10, Size: 24}, {K: 5, N: 9, Size: 7}, {K: 1, N: 10, Size: 24}} {
		s := shardsOf(c, 12)
		choices(c.N, c.K, func(places []int) {
			x := New(c, 0)
			for _, place := range slices.Backward(places) {
				wantErrno(t, x.Shard(0, place, s[place]), api.OK)
			}
			wantParts(t, x.Due(), api.Part{Group: 0, Data: textOf(c, 12)})
		})
	}
}

// The chapter's example.
func TestOneOfThemIsEnough(t *testing.T) {
	for n := 1; n <= 10; n++ {
		c := api.Code{K: 1, N: n, Size: 4}
		for place, b := range shardsOf(c, 13) {
			x := New(c, 255)
			wantErrno(t, x.Shard(0, place, b), api.OK)
			wantParts(t, x.Due())
			wantErrno(t, x.Shard(255, place, b), api.OK)
			wantParts(t, x.Due(), api.Part{Group: 255, Data: textOf(c, 13)}, api.Part{Group: 0, Data: textOf(c, 13)})
		}
	}
}

// Several groups at once: the last one's shards come first.
func TestSeveralAtOnce(t *testing.T) {
	x := New(plain, 253)
	for _, group := range []int{0, 255, 254, 253} {
		wantParts(t, x.Due())
		s := shardsOf(plain, group)
		x.Shard(group, 3, s[3])
		x.Shard(group, 2, s[2])
	}
	var want []api.Part
	for _, group := range []int{253, 254, 255, 0} {
		want = append(want, api.Part{Group: group, Data: textOf(plain, group)})
	}
	wantParts(t, x.Due(), want...)
	wantParts(t, x.Due())
	if x.Base() != 1 {
		t.Error(x.Base())
	}
}

// drawStep does one thing, mostly near the base, to a collector and its row.
func drawStep(t *testing.T, draw *rand.Rand, x *Collector, r *row) {
	t.Helper()
	group := (r.base + draw.Intn(7) - 1 + 256) % 256
	if draw.Intn(10) == 0 {
		group = draw.Intn(300) - 20
	}
	switch draw.Intn(8) {
	case 0:
		if got, want := x.Skip(group), r.skip(group); got != want {
			t.Fatalf("Skip(%d): error %d, not %d", group, got, want)
		}
	case 1:
		got, want := x.Due(), r.due()
		wantParts(t, got, want...)
		if x.Ready()&1 != 0 {
			t.Fatal("ready behind Due")
		}
	default:
		place := draw.Intn(r.code.N+2) - 1
		b := make([]byte, r.code.Size)
		if draw.Intn(20) == 0 {
			b = make([]byte, draw.Intn(30))
		}
		draw.Read(b)
		if got, want := x.Shard(group, place, b), r.shard(group, place, b); got != want {
			t.Fatalf("Shard(%d, %d, %v): error %d, not %d", group, place, b, got, want)
		}
	}
}

func TestDrawnSteps(t *testing.T) {
	draw := rand.New(rand.NewSource(7))
	for _, c := range someCodes() {
		for range 4 {
			base := draw.Intn(256)
			x, r := New(c, base), newRow(c, base)
			for range 1500 {
				drawStep(t, draw, x, r)
				wantLike(t, x, r)
			}
		}
	}
}

// roomy is bytes with spare room behind them, and all of it.
func roomy(b []byte) (part, all []byte) {
	all = append(slices.Clone(b), 0xa1, 0xa2, 0xa3, 0xa4, 0xa5, 0xa6, 0xa7, 0xa8)
	return all[:len(b):len(all)], all
}

func spoil(b []byte) {
	b = b[:cap(b)]
	for i := range b {
		b[i] ^= 0x5a
	}
}

func TestShardsAreNeitherChangedNorKept(t *testing.T) {
	for _, c := range someCodes() {
		x := New(c, 30)
		var alls, before [][]byte
		for _, group := range []int{31, 30} {
			for place, b := range shardsOf(c, group) {
				part, all := roomy(b)
				was := slices.Clone(all)
				wantErrno(t, x.Shard(group, place, part), api.OK)
				wantErrno(t, x.Shard(group, place, part), api.ErrTwice)
				if !bytes.Equal(all, was) {
					t.Error("changed by Shard")
				}
				spoil(all)
				alls, before = append(alls, all), append(before, slices.Clone(all))
			}
		}
		wantParts(t, x.Due(), api.Part{Group: 30, Data: textOf(c, 30)}, api.Part{Group: 31, Data: textOf(c, 31)})
		for i := range alls {
			if !bytes.Equal(alls[i], before[i]) {
				t.Error("changed by Due")
			}
		}
	}
}

// Turning what was answered, spare room and all, turns neither the other parts nor what is answered later.
func TestAnswersAreNewMemory(t *testing.T) {
	for _, c := range someCodes() {
		x := New(c, 254)
		fill := func(groups ...int) {
			for _, group := range groups {
				for place, b := range shardsOf(c, group) {
					x.Shard(group, place, b)
				}
			}
		}
		fill(254, 255, 0)
		first := x.Due()
		fill(1, 3)
		spoil(first[0].Data)
		if !bytes.Equal(first[1].Data, textOf(c, 255)) || !bytes.Equal(first[2].Data, textOf(c, 0)) {
			t.Error("parts share bytes")
		}
		for _, part := range first[:cap(first)] {
			spoil(part.Data)
		}
		clear(first[:cap(first)])
		second := x.Due()
		wantParts(t, second, api.Part{Group: 1, Data: textOf(c, 1)})
		kept := slices.Clone(second[0].Data)
		fill(2)
		third := x.Due()
		wantParts(t, third, api.Part{Group: 2, Data: textOf(c, 2)}, api.Part{Group: 3, Data: textOf(c, 3)})
		spoil(third[0].Data)
		clear(third[:cap(third)])
		if len(second) != 1 || second[0].Group != 1 || !bytes.Equal(second[0].Data, kept) {
			t.Error("an answer was turned later")
		}
	}
}

// Two collectors turn nothing of each other.
func TestCollectorsAreAlone(t *testing.T) {
	x, y := New(plain, 5), New(plain, 5)
	s := shardsOf(plain, 5)
	x.Shard(5, 0, s[0])
	x.Skip(6)
	if y.Have(5) != 0 || y.Ready() != 0 || x.Have(5) != 1 || x.Ready() != 2 {
		t.Error(y.Have(5), y.Ready())
	}
	y.Skip(5)
	y.Due()
	if x.Base() != 5 || y.Base() != 6 {
		t.Error(x.Base(), y.Base())
	}
}
