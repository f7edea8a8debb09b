package record

import (
	"bytes"
	"encoding/hex"
	"math"
	"math/rand"
	"slices"
	"testing"

	"gurney/api"
)

// What is asked for is reckoned by the tests themselves: by shifts of one number a sample, with the document's numbers written out. They share nothing with the layers below.

func isRight(s api.Sample) bool {
	most := 999
	if s.Kind == 5 {
		most = 255
	}
	return 1 <= s.Kind && s.Kind <= 5 && 0 <= s.At && s.At <= 255 && 0 <= s.Value && s.Value <= most
}

func codeMay(c api.Code) bool {
	return 1 <= c.K && c.K <= 6 && c.K <= c.N && c.N <= 10 && 1 <= c.Size && c.Size <= 24
}

// textOf is a text of so many bytes, which must have room.
func textOf(size int, l []api.Sample) []byte {
	b := make([]byte, size)
	b[0] = byte(len(l))
	for i, s := range l {
		n := s.Kind<<21 | s.At<<13 | s.Value<<3
		b[3*i+1], b[3*i+2], b[3*i+3] = byte(n>>16), byte(n>>8), byte(n)
	}
	return b
}

// samplesOf is what a text says, and whether it is one.
func samplesOf(b []byte) ([]api.Sample, bool) {
	if len(b) == 0 || len(b) < 1+3*int(b[0]) {
		return nil, false
	}
	var l []api.Sample
	behind := b[1:]
	for range b[0] {
		n := int(behind[0])<<16 | int(behind[1])<<8 | int(behind[2])
		s := api.Sample{Kind: n >> 21, At: n >> 13 & 255, Value: n >> 3 & 1023}
		if n&7 != 0 || !isRight(s) {
			return nil, false
		}
		l = append(l, s)
		behind = behind[3:]
	}
	for _, x := range behind {
		if x != 0 {
			return nil, false
		}
	}
	return l, true
}

// roomOf counts how many samples go behind the first byte.
func roomOf(c api.Code) int {
	many := 0
	for left := c.K*c.Size - 1; left >= 3; left -= 3 {
		many++
	}
	return many
}

// numbers are any, at the edges of what samples and codes have, and such that low bits of them alone would do.
var numbers = []int{
	math.MinInt, math.MinInt + 1, math.MinInt32, -1 << 32, -1000, -999, -256, -255, -8, -5, -2, -1,
	0, 1, 2, 3, 4, 5, 6, 7, 8, 9, 10, 11, 23, 24, 25, 127, 128, 254, 255, 256, 257, 511, 512, 998, 999, 1000, 1001, 1023, 1024, 1025,
	1 << 16, math.MaxInt32, 1 << 32, 1<<32 + 1, 1<<32 + 5, 1 << 62, 1<<62 + 1, math.MaxInt - 1, math.MaxInt,
}

// rightSamples are at the bounds of each part, of each kind.
func rightSamples() []api.Sample {
	var l []api.Sample
	for kind := 1; kind <= 5; kind++ {
		for _, at := range []int{0, 1, 85, 128, 170, 254, 255} {
			for _, value := range []int{0, 1, 85, 128, 170, 255, 256, 341, 512, 682, 998, 999} {
				if s := (api.Sample{Kind: kind, At: at, Value: value}); isRight(s) {
					l = append(l, s)
				}
			}
		}
	}
	return l
}

// wrongSamples have one part or more that may not be.
func wrongSamples() []api.Sample {
	l := []api.Sample{
		{}, {Kind: 0, At: 1, Value: 1}, {Kind: 6, At: 1, Value: 1}, {Kind: 7}, {Kind: 8}, {Kind: 9}, {Kind: -1},
		{Kind: 1, At: -1}, {Kind: 1, At: 256}, {Kind: 5, At: 256}, {Kind: 5, At: -1},
		{Kind: 1, Value: -1}, {Kind: 1, Value: 1000}, {Kind: 4, Value: 1000}, {Kind: 4, Value: 1023}, {Kind: 2, Value: 1024},
		{Kind: 5, Value: -1}, {Kind: 5, Value: 256}, {Kind: 5, Value: 999}, {Kind: 0, At: 256, Value: 1000},
	}
	for _, n := range []int{math.MinInt, math.MaxInt, 1<<32 + 1, -1<<32 + 1} {
		l = append(l, api.Sample{Kind: n}, api.Sample{Kind: 1, At: n}, api.Sample{Kind: 1, Value: n}, api.Sample{Kind: 5, Value: n})
	}
	return l
}

// wrongCodes may not be; the products of some are numbers of bytes that others have, or wrap round to such.
func wrongCodes() []api.Code {
	return []api.Code{
		{}, {K: 0, N: 1, Size: 1}, {K: 7, N: 10, Size: 4}, {K: -1, N: 1, Size: 4}, {K: -2, N: 3, Size: -4},
		{K: 2, N: 1, Size: 4}, {K: 2, N: 0, Size: 4}, {K: 2, N: 11, Size: 4}, {K: 2, N: -3, Size: 4},
		{K: 2, N: 3, Size: 0}, {K: 2, N: 3, Size: -4}, {K: 2, N: 3, Size: 25},
		{K: 1 << 32, N: 1 << 32, Size: 1 << 32}, {K: 1<<32 + 2, N: 1<<32 + 3, Size: 4}, {K: 2, N: 3, Size: 1<<62 + 4},
		{K: math.MaxInt, N: math.MaxInt, Size: math.MaxInt}, {K: math.MinInt, N: math.MinInt, Size: math.MinInt}, {K: 2, N: 3, Size: math.MaxInt}, {K: 2, N: 3, Size: math.MinInt},
	}
}

// eachCode is every code that may be.
func eachCode(f func(c api.Code)) {
	for k := 1; k <= 6; k++ {
		for n := k; n <= 10; n++ {
			for size := 1; size <= 24; size++ {
				f(api.Code{K: k, N: n, Size: size})
			}
		}
	}
}

// codeOf is a code of so many bytes, if there is one.
func codeOf(size int) (api.Code, bool) {
	for k := 1; k <= 6; k++ {
		if size%k == 0 && size/k >= 1 && size/k <= 24 {
			return api.Code{K: k, N: k, Size: size / k}, true
		}
	}
	return api.Code{}, false
}

func drawnSamples(r *rand.Rand, many int) []api.Sample {
	l := make([]api.Sample, many)
	for i := range l {
		l[i] = api.Sample{Kind: 1 + r.Intn(5), At: r.Intn(256), Value: r.Intn(1000)}
		if l[i].Kind == 5 {
			l[i].Value = r.Intn(256)
		}
	}
	return l
}

func unhex(t *testing.T, text string) []byte {
	t.Helper()
	b, err := hex.DecodeString(text)
	if err != nil {
		t.Fatal(err)
	}
	return b
}

func checkPacked(t *testing.T, c api.Code, l []api.Sample, want []byte) {
	t.Helper()
	if b, e := Pack(c, l); e != api.OK || !bytes.Equal(b, want) {
		t.Fatalf("Pack(%v, %v) = %x, %d, want %x", c, l, b, e, want)
	}
}

func checkNotPacked(t *testing.T, c api.Code, l []api.Sample, want api.Errno) {
	t.Helper()
	if b, e := Pack(c, l); e != want || len(b) != 0 {
		t.Fatalf("Pack(%v, %v) = %x, %d, want none, %d", c, l, b, e, want)
	}
}

func checkParsed(t *testing.T, b []byte, want []api.Sample) {
	t.Helper()
	if l, e := Parse(b); e != api.OK || !slices.Equal(l, want) {
		t.Fatalf("Parse(%x) = %v, %d, want %v", b, l, e, want)
	}
}

func checkNotParsed(t *testing.T, b []byte) {
	t.Helper()
	if l, e := Parse(b); e != 6 || len(l) != 0 {
		t.Fatalf("Parse(%x) = %v, %d, want none, 6", b, l, e)
	}
}

func checkParse(t *testing.T, b []byte) {
	t.Helper()
	if want, ok := samplesOf(b); ok {
		checkParsed(t, b, want)
	} else {
		checkNotParsed(t, b)
	}
}

func checkRight(t *testing.T, s api.Sample, right, numeric bool) {
	t.Helper()
	if got := Right(s); got != right {
		t.Errorf("Right(%v) = %v", s, got)
	}
	if got := Numeric(s); got != numeric {
		t.Errorf("Numeric(%v) = %v", s, got)
	}
}

// P10.1

func TestRightAndNumericAtTheirEdges(t *testing.T) {
	for _, x := range []struct {
		s              api.Sample
		right, numeric bool
	}{
		{api.Sample{}, false, false},
		{api.Sample{Kind: api.Pulse}, true, true},
		{api.Sample{Kind: api.Oxygen, At: 255, Value: 999}, true, true},
		{api.Sample{Kind: api.Press, At: 128, Value: 256}, true, true},
		{api.Sample{Kind: api.Breath, Value: 999}, true, true},
		{api.Sample{Kind: api.Wave}, true, false},
		{api.Sample{Kind: api.Wave, At: 255, Value: 255}, true, false},
		{api.Sample{Kind: api.Wave, At: 255, Value: 256}, false, false},
		{api.Sample{Kind: api.Wave, At: 256, Value: 255}, false, false},
		{api.Sample{Kind: api.Wave, Value: -1}, false, false},
		{api.Sample{Kind: api.Wave, At: -1}, false, false},
		{api.Sample{Kind: 0, At: 1, Value: 1}, false, false},
		{api.Sample{Kind: -1, At: 1, Value: 1}, false, false},
		{api.Sample{Kind: 6, At: 1, Value: 1}, false, false},
		{api.Sample{Kind: api.Pulse, Value: 1000}, false, false},
		{api.Sample{Kind: api.Breath, Value: 1000}, false, false},
		{api.Sample{Kind: api.Pulse, Value: -1}, false, false},
		{api.Sample{Kind: api.Pulse, At: 256}, false, false},
		{api.Sample{Kind: api.Pulse, At: -1}, false, false},
	} {
		checkRight(t, x.s, x.right, x.numeric)
	}
}

func TestRightAndNumericOfEachValue(t *testing.T) {
	for kind := -1; kind <= 8; kind++ {
		for value := -2; value <= 1030; value++ {
			s := api.Sample{Kind: kind, At: 7, Value: value}
			checkRight(t, s, isRight(s), isRight(s) && kind != 5)
		}
		for at := -2; at <= 300; at++ {
			s := api.Sample{Kind: kind, At: at, Value: 7}
			checkRight(t, s, isRight(s), isRight(s) && kind != 5)
		}
	}
}

func TestRightAndNumericOfAnyNumbers(t *testing.T) {
	for _, kind := range numbers {
		for _, at := range numbers {
			for _, value := range numbers {
				s := api.Sample{Kind: kind, At: at, Value: value}
				checkRight(t, s, isRight(s), isRight(s) && kind != 5)
			}
		}
	}
}

func TestFitsOfWrittenOutCodes(t *testing.T) {
	for _, x := range []struct {
		c    api.Code
		want int
	}{
		{api.Code{K: 1, N: 1, Size: 1}, 0},
		{api.Code{K: 1, N: 10, Size: 3}, 0},
		{api.Code{K: 3, N: 3, Size: 1}, 0},
		{api.Code{K: 1, N: 1, Size: 4}, 1},
		{api.Code{K: 4, N: 4, Size: 1}, 1},
		{api.Code{K: 6, N: 6, Size: 1}, 1},
		{api.Code{K: 1, N: 1, Size: 7}, 2},
		{api.Code{K: 2, N: 3, Size: 4}, 2},
		{api.Code{K: 3, N: 5, Size: 3}, 2},
		{api.Code{K: 5, N: 5, Size: 2}, 3},
		{api.Code{K: 6, N: 10, Size: 24}, 47},
	} {
		if got := Fits(x.c); got != x.want {
			t.Errorf("Fits(%v) = %d, want %d", x.c, got, x.want)
		}
	}
}

func TestFitsOfEachCode(t *testing.T) {
	for k := -2; k <= 9; k++ {
		for n := -2; n <= 13; n++ {
			for size := -2; size <= 30; size++ {
				c := api.Code{K: k, N: n, Size: size}
				want := 0
				if codeMay(c) {
					want = roomOf(c)
				}
				if got := Fits(c); got != want {
					t.Errorf("Fits(%v) = %d, want %d", c, got, want)
				}
			}
		}
	}
}

func TestFitsOfAnyNumbers(t *testing.T) {
	for _, k := range numbers {
		for _, n := range numbers {
			for _, size := range numbers {
				c := api.Code{K: k, N: n, Size: size}
				want := 0
				if codeMay(c) {
					want = roomOf(c)
				}
				if got := Fits(c); got != want {
					t.Fatalf("Fits(%v) = %d, want %d", c, got, want)
				}
			}
		}
	}
	for _, c := range wrongCodes() {
		if got := Fits(c); got != 0 {
			t.Errorf("Fits(%v) = %d, want 0", c, got)
		}
	}
}

func checkSame(t *testing.T, a, b []api.Sample, want bool) {
	t.Helper()
	if Same(a, b) != want || Same(b, a) != want {
		t.Fatalf("Same(%v, %v) = %v, turned round %v, want %v", a, b, Same(a, b), Same(b, a), want)
	}
}

func TestSameOfNilAndEmpty(t *testing.T) {
	none := [][]api.Sample{nil, {}, make([]api.Sample, 0, 4)}
	for _, a := range none {
		for _, b := range none {
			checkSame(t, a, b, true)
		}
		checkSame(t, a, []api.Sample{{}}, false)
		checkSame(t, a, []api.Sample{{Kind: 1}}, false)
	}
}

func TestSameOfLengths(t *testing.T) {
	r := rand.New(rand.NewSource(1))
	all := drawnSamples(r, 60)
	for i := range all {
		for j := range all {
			checkSame(t, all[:i], slices.Clone(all[:j]), i == j)
		}
	}
	zeros := make([]api.Sample, 3)
	checkSame(t, zeros[:2], zeros, false)
}

func TestSameOfEachPlaceAndField(t *testing.T) {
	r := rand.New(rand.NewSource(2))
	for many := 1; many <= 50; many++ {
		a := drawnSamples(r, many)
		for i := range a {
			for _, by := range []int{1, -1, 8, 256, 1024, 1 << 32, math.MinInt} {
				for _, other := range []api.Sample{
					{Kind: a[i].Kind + by, At: a[i].At, Value: a[i].Value},
					{Kind: a[i].Kind, At: a[i].At + by, Value: a[i].Value},
					{Kind: a[i].Kind, At: a[i].At, Value: a[i].Value + by},
				} {
					b := slices.Clone(a)
					b[i] = other
					checkSame(t, a, b, false)
				}
			}
		}
		checkSame(t, a, slices.Clone(a), true)
	}
}

func TestSameOfSamplesThatAreNotRight(t *testing.T) {
	l := wrongSamples()
	for i, a := range l {
		for j, b := range l {
			checkSame(t, []api.Sample{a}, []api.Sample{b}, i == j || a == b)
		}
	}
	checkSame(t, l, slices.Clone(l), true)
}

func TestSameOfAnotherOrder(t *testing.T) {
	a := []api.Sample{{Kind: 1, At: 2, Value: 3}, {Kind: 1, At: 3, Value: 2}}
	checkSame(t, a, []api.Sample{a[1], a[0]}, false)
	checkSame(t, a[:1], []api.Sample{{Kind: 2, At: 1, Value: 3}}, false)
	checkSame(t, a[:1], []api.Sample{{Kind: 3, At: 2, Value: 1}}, false)
}

// P10.2

// written are samples and their texts, written out.
func written() []struct {
	c    api.Code
	l    []api.Sample
	text string
} {
	return []struct {
		c    api.Code
		l    []api.Sample
		text string
	}{
		{api.Code{K: 1, N: 1, Size: 1}, nil, "00"},
		{api.Code{K: 1, N: 2, Size: 3}, nil, "000000"},
		{api.Code{K: 2, N: 3, Size: 4}, nil, "0000000000000000"},
		{api.Code{K: 1, N: 1, Size: 4}, []api.Sample{{Kind: 1}}, "01200000"},
		{api.Code{K: 2, N: 2, Size: 2}, []api.Sample{{Kind: 2}}, "01400000"},
		{api.Code{K: 4, N: 4, Size: 1}, []api.Sample{{Kind: 3}}, "01600000"},
		{api.Code{K: 1, N: 1, Size: 4}, []api.Sample{{Kind: 4}}, "01800000"},
		{api.Code{K: 1, N: 1, Size: 4}, []api.Sample{{Kind: 5}}, "01a00000"},
		{api.Code{K: 1, N: 1, Size: 5}, []api.Sample{{Kind: 1, At: 1}}, "0120200000"},
		{api.Code{K: 1, N: 1, Size: 5}, []api.Sample{{Kind: 1, At: 255}}, "013fe00000"},
		{api.Code{K: 1, N: 1, Size: 6}, []api.Sample{{Kind: 1, Value: 1}}, "012000080000"},
		{api.Code{K: 2, N: 9, Size: 3}, []api.Sample{{Kind: 1, Value: 999}}, "01201f380000"},
		{api.Code{K: 2, N: 3, Size: 4}, []api.Sample{{Kind: 1, At: 1, Value: 999}, {Kind: 5, At: 255, Value: 255}}, "02203f38bfe7f800"},
		{api.Code{K: 1, N: 1, Size: 7}, []api.Sample{{Kind: 4, At: 170, Value: 682}, {Kind: 2, At: 85, Value: 341}}, "02" + "955550" + "4aaaa8"},
		{api.Code{K: 5, N: 10, Size: 2}, []api.Sample{{Kind: 3, At: 128, Value: 512}, {Kind: 3, At: 128, Value: 512}, {Kind: 5, At: 1, Value: 128}}, "03" + "701000" + "701000" + "a02400"},
	}
}

func TestPackOfWrittenOutTexts(t *testing.T) {
	for _, x := range written() {
		checkPacked(t, x.c, x.l, unhex(t, x.text))
	}
}

func TestNoSamplesAreBytesZero(t *testing.T) {
	eachCode(func(c api.Code) {
		none := make([]byte, c.K*c.Size)
		checkPacked(t, c, nil, none)
		checkPacked(t, c, []api.Sample{}, none)
		checkParsed(t, none, nil)
	})
}

func TestPackOfEachSample(t *testing.T) {
	for _, c := range []api.Code{{K: 1, N: 1, Size: 4}, {K: 2, N: 4, Size: 3}} {
		for _, s := range rightSamples() {
			checkPacked(t, c, []api.Sample{s}, textOf(c.K*c.Size, []api.Sample{s}))
		}
	}
	c := api.Code{K: 1, N: 1, Size: 4}
	for kind := 1; kind <= 5; kind++ {
		for value := range 1000 {
			s := api.Sample{Kind: kind, At: value % 256, Value: value}
			if isRight(s) {
				checkPacked(t, c, []api.Sample{s}, textOf(4, []api.Sample{s}))
			}
		}
	}
}

func TestPackOfEachCodeAndCount(t *testing.T) {
	r := rand.New(rand.NewSource(3))
	eachCode(func(c api.Code) {
		l := drawnSamples(r, roomOf(c)+3)
		for many := range l {
			if many <= roomOf(c) {
				checkPacked(t, c, l[:many], textOf(c.K*c.Size, l[:many]))
			} else {
				checkNotPacked(t, c, l[:many], 4)
			}
		}
	})
}

func TestPackOfFarTooMany(t *testing.T) {
	r := rand.New(rand.NewSource(4))
	for _, many := range []int{48, 255, 256, 257, 258, 300, 512, 65536, 65537} {
		l := drawnSamples(r, many)
		checkNotPacked(t, api.Code{K: 6, N: 10, Size: 24}, l, 4)
		checkNotPacked(t, api.Code{K: 1, N: 1, Size: 1}, l, 4)
		l[many-1] = api.Sample{}
		checkNotPacked(t, api.Code{K: 6, N: 10, Size: 24}, l, 1)
	}
}

func TestPackOfCodesThatMayNotBe(t *testing.T) {
	r := rand.New(rand.NewSource(5))
	for _, c := range wrongCodes() {
		for _, many := range []int{0, 1, 2, 47, 48, 300} {
			checkNotPacked(t, c, drawnSamples(r, many), 1)
		}
		checkNotPacked(t, c, []api.Sample{{}}, 1)
	}
}

func TestPackOfWrongSamplesAtEachPlace(t *testing.T) {
	r := rand.New(rand.NewSource(6))
	for _, c := range []api.Code{{K: 1, N: 1, Size: 4}, {K: 2, N: 3, Size: 4}, {K: 3, N: 5, Size: 11}, {K: 6, N: 10, Size: 24}} {
		for many := 1; many <= roomOf(c); many++ {
			l := drawnSamples(r, many)
			for i := range l {
				for _, s := range wrongSamples() {
					spoilt := slices.Clone(l)
					spoilt[i] = s
					checkNotPacked(t, c, spoilt, 1)
				}
			}
		}
	}
}

func TestPackTellsAWrongSampleAheadOfTooMany(t *testing.T) {
	r := rand.New(rand.NewSource(7))
	eachCode(func(c api.Code) {
		l := drawnSamples(r, roomOf(c)+2)
		for i := range l {
			spoilt := slices.Clone(l)
			spoilt[i].Value = 1000
			checkNotPacked(t, c, spoilt, 1)
		}
	})
}

// P10.3

func TestParseOfWrittenOutTexts(t *testing.T) {
	for _, x := range written() {
		checkParsed(t, unhex(t, x.text), x.l)
	}
}

func TestParseOfWhatIsNoText(t *testing.T) {
	for _, text := range []string{
		"",
		"01", "0120", "012000", "02200000", "0220000020", "022000002000", "ff", "ff200000",
		"0120000001", "0120000080", "01200000000001", "0001", "0080", "00000004", "0000000080",
		"01200001", "01200002", "01200004", "01200007", "0220000120000000", "0220000020000100",
		"01000000", "01000008", "011fe7f8", "01c00000", "01e00000", "01fffff8",
		"01201f40", "01201ff8", "01801f40", "01a00800", "01a01f38", "01bfffc0",
		"0220000000000000", "0200000020000000",
	} {
		checkNotParsed(t, unhex(t, text))
	}
	checkNotParsed(t, nil)
	checkNotParsed(t, []byte{})
}

func TestParseOfEachLengthAndCount(t *testing.T) {
	l := drawnSamples(rand.New(rand.NewSource(8)), 255)
	whole := textOf(800, l)
	for size := 1; size <= 800; size++ {
		for _, many := range []int{0, 1, 2, 3, 5, 46, 47, 48, 63, 64, 85, 86, 127, 128, 170, 171, 254, 255} {
			b := make([]byte, size)
			copy(b, whole[:min(size, 1+3*many)])
			b[0] = byte(many)
			if size >= 1+3*many {
				checkParsed(t, b, l[:many])
			} else {
				checkNotParsed(t, b)
			}
		}
	}
}

func TestParseOfEachByteCutOff(t *testing.T) {
	r := rand.New(rand.NewSource(9))
	for many := range 60 {
		l := drawnSamples(r, many)
		b := textOf(1+3*many, l)
		checkParsed(t, b, l)
		for size := range b {
			// What is cut off still stands in the spare room, where nobody may look.
			checkNotParsed(t, b[:size])
		}
	}
}

func TestParseOfEachBitTurned(t *testing.T) {
	r := rand.New(rand.NewSource(10))
	for _, many := range []int{0, 1, 2, 5, 20, 47} {
		for _, more := range []int{0, 1, 2, 3, 4, 30} {
			b := textOf(1+3*many+more, drawnSamples(r, many))
			for i := range 8 * len(b) {
				b[i/8] ^= 0x80 >> (i % 8)
				checkParse(t, b)
				b[i/8] ^= 0x80 >> (i % 8)
			}
		}
	}
}

func TestParseOfBitsBehindAllSamples(t *testing.T) {
	r := rand.New(rand.NewSource(11))
	for many := range 30 {
		l := drawnSamples(r, many)
		for more := 1; more <= 12; more++ {
			b := textOf(1+3*many+more, l)
			checkParsed(t, b, l)
			for i := range more {
				for bit := range 8 {
					spoilt := bytes.Clone(b)
					spoilt[1+3*many+i] = 1 << bit
					checkNotParsed(t, spoilt)
				}
			}
		}
	}
}

func TestParseOfBitsBehindEachSample(t *testing.T) {
	r := rand.New(rand.NewSource(12))
	for many := 1; many <= 47; many++ {
		b := textOf(3*many+4, drawnSamples(r, many))
		for i := range many {
			for low := byte(1); low < 8; low++ {
				spoilt := bytes.Clone(b)
				spoilt[3*i+3] |= low
				checkNotParsed(t, spoilt)
			}
		}
	}
}

// Each three bytes whose last three bits are 0.
func TestParseOfEachSample(t *testing.T) {
	for n := range 1 << 21 {
		b := []byte{1, byte(n >> 13), byte(n >> 5), byte(n << 3)}
		want := api.Sample{Kind: n >> 18, At: n >> 10 & 255, Value: n & 1023}
		l, e := Parse(b)
		if isRight(want) && (e != api.OK || len(l) != 1 || l[0] != want) || !isRight(want) && (e != 6 || len(l) != 0) {
			t.Fatalf("Parse(%x) = %v, %d", b, l, e)
		}
	}
}

func TestParseOfWrongSamplesAtEachPlace(t *testing.T) {
	r := rand.New(rand.NewSource(13))
	wrong := []api.Sample{{Kind: 0, At: 255, Value: 999}, {Kind: 6}, {Kind: 7}, {Kind: 1, Value: 1000}, {Kind: 4, Value: 1023}, {Kind: 5, Value: 256}, {Kind: 5, Value: 999}}
	for many := 1; many <= 60; many++ {
		l := drawnSamples(r, many)
		for i := range l {
			for _, s := range wrong {
				spoilt := slices.Clone(l)
				spoilt[i] = s
				checkNotParsed(t, textOf(2+3*many, spoilt))
			}
		}
	}
}

func TestParseOfDrawnBytes(t *testing.T) {
	r := rand.New(rand.NewSource(14))
	for range 100000 {
		b := make([]byte, r.Intn(20))
		r.Read(b)
		if len(b) > 0 {
			b[0] = byte(r.Intn(7))
		}
		for i := 3; i < len(b); i += 3 {
			b[i] &^= 7
		}
		checkParse(t, b)
	}
}

func TestParseOfManyBytes(t *testing.T) {
	b := make([]byte, 1<<20)
	checkParsed(t, b, nil)
	b[len(b)-1] = 1
	checkNotParsed(t, b)
}

// P10.4

func TestWhatIsPackedIsParsedAgain(t *testing.T) {
	r := rand.New(rand.NewSource(15))
	eachCode(func(c api.Code) {
		l := drawnSamples(r, Fits(c))
		for many := range len(l) + 1 {
			b, e := Pack(c, l[:many])
			if e != api.OK || len(b) != c.K*c.Size {
				t.Fatalf("Pack(%v, %v) = %x, %d", c, l[:many], b, e)
			}
			m, e := Parse(b)
			if e != api.OK || !Same(m, l[:many]) {
				t.Fatalf("%v is parsed as %v, %d, of the code %v", l[:many], m, e, c)
			}
		}
	})
}

func TestWhatIsParsedIsPackedAsWhatItWas(t *testing.T) {
	r := rand.New(rand.NewSource(16))
	parsed := 0
	for range 60000 {
		many := r.Intn(4)
		b := make([]byte, 1+r.Intn(16))
		r.Read(b)
		b[0] = byte(many)
		for i := 1; i < len(b); i++ {
			if i > 3*many || i%3 == 0 && r.Intn(8) > 0 {
				b[i] &= byte(r.Intn(2)) << 7
			}
		}
		l, e := Parse(b)
		c, ok := codeOf(len(b))
		if e != api.OK || !ok {
			continue
		}
		parsed++
		checkPacked(t, c, l, b)
	}
	if parsed < 2000 {
		t.Errorf("only %d texts were parsed", parsed)
	}
}

func TestTheCodeMattersByItsBytesAlone(t *testing.T) {
	r := rand.New(rand.NewSource(17))
	eachCode(func(c api.Code) {
		l := drawnSamples(r, Fits(c))
		other, _ := codeOf(c.K * c.Size)
		want, _ := Pack(other, l)
		checkPacked(t, c, l, want)
	})
}

// Rules 1, 3, 4 and 6 of all calls.

func TestAnyNumbersInSamples(t *testing.T) {
	c := api.Code{K: 1, N: 1, Size: 4}
	for _, kind := range numbers {
		for _, at := range numbers {
			for _, value := range numbers {
				l := []api.Sample{{Kind: kind, At: at, Value: value}}
				if isRight(l[0]) {
					checkPacked(t, c, l, textOf(4, l))
				} else {
					checkNotPacked(t, c, l, 1)
				}
			}
		}
	}
}

func TestAnyNumbersInCodes(t *testing.T) {
	l := []api.Sample{{Kind: 3, At: 200, Value: 120}}
	for _, k := range numbers {
		for _, n := range numbers {
			for _, size := range numbers {
				c := api.Code{K: k, N: n, Size: size}
				switch {
				case !codeMay(c):
					checkNotPacked(t, c, l, 1)
				case roomOf(c) == 0:
					checkNotPacked(t, c, l, 4)
				default:
					checkPacked(t, c, l, textOf(k*size, l))
				}
			}
		}
	}
}

func TestSamplesHandedInAreNotChanged(t *testing.T) {
	r := rand.New(rand.NewSource(18))
	c := api.Code{K: 2, N: 4, Size: 20}
	for _, many := range []int{0, 1, 12, 13, 14} {
		whole := drawnSamples(r, 20)
		before := slices.Clone(whole)
		Pack(c, whole[:many])
		Pack(api.Code{}, whole[:many])
		Same(whole[:many], whole[many:])
		Same(whole[:many], whole[:many])
		if !slices.Equal(whole, before) {
			t.Fatalf("what was handed in is %v, and was %v", whole, before)
		}
	}
}

func TestBytesHandedInAreNotChanged(t *testing.T) {
	r := rand.New(rand.NewSource(19))
	for size := range 60 {
		for _, many := range []int{0, 1, 5, 13} {
			whole := textOf(60, drawnSamples(r, many))
			before := bytes.Clone(whole)
			Parse(whole[:size])
			if !bytes.Equal(whole, before) {
				t.Fatalf("what was handed in is %x, and was %x", whole, before)
			}
		}
	}
}

// spoilSamples turns all of a list, its spare room too.
func spoilSamples(l []api.Sample) {
	l = l[:cap(l)]
	for i := range l {
		l[i] = api.Sample{Kind: -1, At: -1, Value: -1}
	}
}

// spoilBytes turns all of them, their spare room too.
func spoilBytes(b []byte) {
	b = b[:cap(b)]
	for i := range b {
		b[i] ^= 0xff
	}
}

func TestTextsAreNewMemory(t *testing.T) {
	r := rand.New(rand.NewSource(20))
	c := api.Code{K: 3, N: 4, Size: 9}
	for many := range roomOf(c) + 1 {
		l := drawnSamples(r, many)
		kept := slices.Clone(l)
		want := textOf(27, l)
		first, _ := Pack(c, l)
		second, _ := Pack(c, l)
		spoilBytes(first)
		if !slices.Equal(l, kept) || !bytes.Equal(second, want) {
			t.Fatalf("an answer that is turned turns others: %v, %x", l, second)
		}
		spoilSamples(l)
		if !bytes.Equal(second, want) {
			t.Fatalf("what was handed in turns the answer: %x", second)
		}
		checkPacked(t, c, kept, want)
	}
}

func TestSamplesAreNewMemory(t *testing.T) {
	r := rand.New(rand.NewSource(21))
	for many := range 50 {
		want := drawnSamples(r, many)
		b := textOf(160, want)
		kept := bytes.Clone(b)
		first, _ := Parse(b)
		second, _ := Parse(b)
		spoilSamples(first)
		if !bytes.Equal(b, kept) || !slices.Equal(second, want) {
			t.Fatalf("an answer that is turned turns others: %x, %v", b, second)
		}
		spoilBytes(b)
		if !slices.Equal(second, want) {
			t.Fatalf("what was handed in turns the answer: %v", second)
		}
		checkParsed(t, kept, want)
	}
}

func TestAnswersHangOnArgumentsAlone(t *testing.T) {
	r := rand.New(rand.NewSource(22))
	c := api.Code{K: 6, N: 10, Size: 24}
	for range 200 {
		l := drawnSamples(r, r.Intn(48))
		want := textOf(144, l)
		checkPacked(t, c, l, want)
		checkNotPacked(t, c, wrongSamples(), 1)
		checkNotParsed(t, nil)
		checkPacked(t, c, l, want)
		checkParsed(t, want, l)
		checkNotParsed(t, append(bytes.Clone(want), 1))
		checkParsed(t, want, l)
	}
}
