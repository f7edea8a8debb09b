package rs

import (
	"bytes"
	"encoding/hex"
	"math"
	"math/rand"
	"slices"
	"testing"

	"gurney/api"
)

// What is asked for is reckoned by the tests themselves: products by shifts, inverses by trying, and shards by Newton's divided differences, not by weights.

func times(a, b byte) byte {
	product, part := 0, int(a)
	for ; b > 0; b >>= 1 {
		if b&1 == 1 {
			product ^= part
		}
		part <<= 1
		if part > 255 {
			part ^= 0x11d
		}
	}
	return byte(product)
}

var inverses = func() (table [256]byte) {
	for a := range 256 {
		for b := range 256 {
			if times(byte(a), byte(b)) == 1 {
				table[a] = byte(b)
			}
		}
	}
	return table
}()

// polynomialAt is what the polynomial of the least degree that is values at the bytes at is at x.
func polynomialAt(at, values []byte, x byte) byte {
	d := slices.Clone(values)
	for step := 1; step < len(at); step++ {
		for i := len(at) - 1; i >= step; i-- {
			d[i] = times(d[i]^d[i-1], inverses[at[i]^at[i-step]])
		}
	}
	sum := byte(0)
	for i := len(at) - 1; i >= 0; i-- {
		sum = times(sum, x^at[i]) ^ d[i]
	}
	return sum
}

// extended is a shard at x, place by place, of shards at bytes.
func extended(at []byte, known [][]byte, x byte) []byte {
	shard := make([]byte, len(known[0]))
	for place := range shard {
		values := make([]byte, len(known))
		for i := range known {
			values[i] = known[i][place]
		}
		shard[place] = polynomialAt(at, values, x)
	}
	return shard
}

// rising is the bytes from 0 on, so many.
func rising(many int) []byte {
	b := make([]byte, many)
	for i := range b {
		b[i] = byte(i)
	}
	return b
}

func shardsOf(c api.Code, text []byte) [][]byte {
	shards := make([][]byte, c.N)
	for i := range c.K {
		shards[i] = bytes.Clone(text[i*c.Size : (i+1)*c.Size])
	}
	for i := c.K; i < c.N; i++ {
		shards[i] = extended(rising(c.K), shards[:c.K], byte(i))
	}
	return shards
}

func draw(r *rand.Rand, many int) []byte {
	b := make([]byte, many)
	r.Read(b)
	return b
}

// eachCode calls a test with every K and N that may be, of the sizes.
func eachCode(sizes []int, test func(c api.Code)) {
	for k := 1; k <= 6; k++ {
		for n := k; n <= 10; n++ {
			for _, size := range sizes {
				test(api.Code{K: k, N: n, Size: size})
			}
		}
	}
}

// some is those shards of all whose bit is 1; the others are lost: nil and empty by turns.
func some(all [][]byte, mask int) [][]byte {
	l := make([][]byte, len(all))
	for i := range l {
		if mask>>i&1 == 1 {
			l[i] = bytes.Clone(all[i])
		} else if i%2 == 1 {
			l[i] = []byte{}
		}
	}
	return l
}

func ones(mask int) int {
	n := 0
	for ; mask > 0; mask >>= 1 {
		n += mask & 1
	}
	return n
}

func same(a, b [][]byte) bool { return slices.EqualFunc(a, b, bytes.Equal) }

// wrongCodes are codes that may not be, for one reason or for several.
func wrongCodes() []api.Code {
	l := []api.Code{
		{}, {K: 1}, {N: 1}, {Size: 1}, {K: 1, N: 1}, {K: 1, Size: 1}, {N: 1, Size: 1},
		{K: 0, N: 0, Size: 1}, {K: 0, N: 10, Size: 24}, {K: -1, N: 10, Size: 24}, {K: -1, N: -1, Size: 24},
		{K: 7, N: 7, Size: 1}, {K: 7, N: 10, Size: 24}, {K: 10, N: 10, Size: 1},
		{K: 2, N: 1, Size: 1}, {K: 6, N: 5, Size: 24}, {K: 1, N: 0, Size: 1}, {K: 6, N: -6, Size: 1}, {K: 1, N: 11, Size: 1}, {K: 6, N: 11, Size: 24},
		{K: 1, N: 1, Size: 0}, {K: 6, N: 10, Size: 0}, {K: 6, N: 10, Size: 25}, {K: 1, N: 1, Size: 25}, {K: 1, N: 1, Size: -1}, {K: -1, N: 1, Size: -1},
		{K: 1 << 32, N: 1 << 32, Size: 1 << 32}, {K: 1<<32 + 1, N: 1<<32 + 1, Size: 1}, {K: 1<<8 + 1, N: 1<<8 + 1, Size: 1<<8 + 1}, {K: 1, N: 1<<32 + 1, Size: 1}, {K: 1, N: 1, Size: 1<<32 + 1}, {K: 2, N: 2, Size: 1<<63 - 1},
	}
	for _, n := range []int{math.MinInt, math.MinInt32, math.MaxInt32, math.MaxInt} {
		l = append(l, api.Code{K: n, N: 10, Size: 1}, api.Code{K: 1, N: n, Size: 1}, api.Code{K: 1, N: 1, Size: n}, api.Code{K: n, N: n, Size: n}, api.Code{K: n, N: n, Size: 1})
	}
	return l
}

func TestProductsOfTheTests(t *testing.T) {
	for _, x := range [][3]byte{{2, 0x80, 0x1d}, {0x53, 0xca, 0x8f}, {3, 3, 5}, {0x80, 0x80, 0x13}, {2, 0x8e, 1}, {0xff, 1, 0xff}, {0, 0xff, 0}} {
		if got := times(x[0], x[1]); got != x[2] {
			t.Errorf("%x times %x is reckoned as %x, want %x", x[0], x[1], got, x[2])
		}
	}
	if inverses[1] != 1 || inverses[2] != 0x8e {
		t.Errorf("the inverses of 1 and 2 are reckoned as %x and %x", inverses[1], inverses[2])
	}
}

func TestMay(t *testing.T) {
	for k := -2; k <= 12; k++ {
		for n := -2; n <= 13; n++ {
			for size := -2; size <= 27; size++ {
				want := k >= 1 && k <= 6 && n >= k && n <= 10 && size >= 1 && size <= 24
				if c := (api.Code{K: k, N: n, Size: size}); May(c) != want {
					t.Errorf("May(%v) = %v, want %v", c, !want, want)
				}
			}
		}
	}
}

func TestMayAtTheEnds(t *testing.T) {
	for _, c := range []api.Code{{K: 1, N: 1, Size: 1}, {K: 1, N: 1, Size: 24}, {K: 1, N: 10, Size: 1}, {K: 1, N: 10, Size: 24}, {K: 6, N: 6, Size: 1}, {K: 6, N: 6, Size: 24}, {K: 6, N: 10, Size: 1}, {K: 6, N: 10, Size: 24}} {
		if !May(c) {
			t.Errorf("May(%v) = false", c)
		}
	}
	for _, c := range wrongCodes() {
		if May(c) {
			t.Errorf("May(%v) = true", c)
		}
	}
}

// weightsOf is the product that the chapter words, over all other ones.
func weightsOf(at []byte, x byte) []byte {
	l := make([]byte, len(at))
	for i := range at {
		l[i] = 1
		for j := range at {
			if j != i {
				l[i] = times(l[i], times(x^at[j], inverses[at[i]^at[j]]))
			}
		}
	}
	return l
}

func TestWeightsWritten(t *testing.T) {
	for _, w := range []struct {
		at   []byte
		x    byte
		want []byte
	}{
		{[]byte{0, 1}, 2, []byte{3, 2}},
		{[]byte{1, 0}, 2, []byte{2, 3}},
		{[]byte{0, 1, 2}, 3, []byte{1, 1, 1}},
		{[]byte{0, 1, 2}, 1, []byte{0, 1, 0}},
		{[]byte{0xff, 0x80, 3, 0x1d}, 0x7e, []byte{0xa8, 0x49, 0xcc, 0x2c}},
		{[]byte{0, 1, 2, 3, 4, 5}, 9, []byte{0xdf, 0xa0, 0xb7, 0xdf, 0xe8, 0xfe}},
	} {
		if got := Weights(w.at, w.x); !bytes.Equal(got, w.want) {
			t.Errorf("Weights(%x, %x) = %x, want %x", w.at, w.x, got, w.want)
		}
		if got := weightsOf(w.at, w.x); !bytes.Equal(got, w.want) {
			t.Errorf("the weights at %x for %x are reckoned as %x, want %x", w.at, w.x, got, w.want)
		}
	}
}

// unlike draws so many bytes that are all unlike.
func unlike(r *rand.Rand, many int) []byte {
	b := make([]byte, many)
	for i, x := range r.Perm(256)[:many] {
		b[i] = byte(x)
	}
	return b
}

func TestWeightsOfUnlike(t *testing.T) {
	r := rand.New(rand.NewSource(51))
	for many := 1; many <= 12; many++ {
		for range 6 {
			at := unlike(r, many)
			for x := range 256 {
				if got, want := Weights(at, byte(x)), weightsOf(at, byte(x)); !bytes.Equal(got, want) {
					t.Fatalf("Weights(%x, %x) = %x, want %x", at, x, got, want)
				}
			}
		}
	}
	for _, many := range []int{64, 128, 255} {
		at := unlike(r, many)
		for x := range 8 {
			if got, want := Weights(at, byte(31*x)), weightsOf(at, byte(31*x)); !bytes.Equal(got, want) {
				t.Fatalf("Weights(%x, %x) = %x, want %x", at, 31*x, got, want)
			}
		}
	}
}

func TestWeightsAtOneOfThem(t *testing.T) {
	r := rand.New(rand.NewSource(52))
	for _, many := range []int{1, 2, 3, 6, 10, 100, 256} {
		at := unlike(r, many)
		for _, i := range []int{0, many / 2, many - 1} {
			want := make([]byte, many)
			want[i] = 1
			if got := Weights(at, at[i]); !bytes.Equal(got, want) {
				t.Errorf("Weights(%x, %x) = %x, want 1 there alone", at, at[i], got)
			}
		}
	}
}

func TestWeightsOfOneAndOfNone(t *testing.T) {
	for x := range 256 {
		for a := range 256 {
			if got := Weights([]byte{byte(a)}, byte(x)); len(got) != 1 || got[0] != 1 {
				t.Errorf("Weights(%x, %x) = %x, want 1", a, x, got)
			}
		}
		if got := Weights(nil, byte(x)); len(got) != 0 {
			t.Errorf("Weights(nil, %x) = %x, want none", x, got)
		}
		if got := Weights([]byte{}, byte(x)); len(got) != 0 {
			t.Errorf("Weights of none, at %x: %x, want none", x, got)
		}
	}
}

func TestWeightsOfTwoAlike(t *testing.T) {
	r := rand.New(rand.NewSource(53))
	for many := 2; many <= 12; many++ {
		for i := range many {
			for j := range i {
				at := unlike(r, many)
				at[i] = at[j]
				for _, x := range []byte{0, 1, 255, at[0], at[i], byte(r.Intn(256))} {
					if got := Weights(at, x); len(got) != 0 {
						t.Errorf("Weights(%x, %x) = %x, want none", at, x, got)
					}
				}
			}
		}
	}
	for _, a := range []byte{0, 1, 127, 128, 255} {
		for _, many := range []int{2, 3, 256, 257, 1 << 20} {
			if got := Weights(bytes.Repeat([]byte{a}, many), 7); len(got) != 0 {
				t.Errorf("Weights of %d times %x = %x, want none", many, a, got)
			}
		}
	}
}

func TestWeightsOfAllBytesAndOneMore(t *testing.T) {
	all := rising(256)
	if got, want := Weights(all, 0x35), weightsOf(all, 0x35); !bytes.Equal(got, want) {
		t.Errorf("Weights of all bytes, at 35: %x, want %x", got, want)
	}
	for _, more := range []byte{0, 1, 254, 255} {
		if got := Weights(append(rising(256), more), 0x35); len(got) != 0 {
			t.Errorf("Weights of all bytes and %x = %x, want none", more, got)
		}
	}
}

func TestPad(t *testing.T) {
	r := rand.New(rand.NewSource(54))
	eachCode([]int{1, 2, 7, 23, 24}, func(c api.Code) {
		whole := c.K * c.Size
		for many := range whole + 1 {
			b := draw(r, many)
			want := make([]byte, whole)
			copy(want, b)
			if got := Pad(c, b); !bytes.Equal(got, want) {
				t.Fatalf("Pad(%v, %x) = %x, want %x", c, b, got, want)
			}
		}
		if got := Pad(c, nil); !bytes.Equal(got, make([]byte, whole)) {
			t.Errorf("Pad(%v, nil) = %x, want %d bytes 0", c, got, whole)
		}
		for _, many := range []int{whole + 1, whole + 2, 2 * whole, 4096} {
			if many == whole {
				continue
			}
			if got := Pad(c, draw(r, many)); len(got) != 0 {
				t.Errorf("Pad(%v, %d bytes) = %x, want none", c, many, got)
			}
		}
	})
}

func TestPadOfWrongCodes(t *testing.T) {
	for _, c := range wrongCodes() {
		for _, many := range []int{0, 1, 7, 24, 144, 250} {
			if got := Pad(c, make([]byte, many)); len(got) != 0 {
				t.Errorf("Pad(%v, %d bytes) = %x, want none", c, many, got)
			}
		}
	}
}

// written is texts and their shards, written out.
func written() []struct {
	c      api.Code
	text   string
	shards []string
} {
	return []struct {
		c      api.Code
		text   string
		shards []string
	}{
		{api.Code{K: 3, N: 6, Size: 4}, "hello world!", []string{"68656c6c", "6f20776f", "726c6421", "75297f22", "0c4184c7", "0b049fc4"}},
		{api.Code{K: 2, N: 4, Size: 3}, "gurney", []string{"677572", "6e6579", "755564", "7c456f"}},
		{api.Code{K: 1, N: 3, Size: 2}, "ab", []string{"6162", "6162", "6162"}},
		{api.Code{K: 4, N: 4, Size: 1}, "ward", []string{"77", "61", "72", "64"}},
		{api.Code{K: 2, N: 10, Size: 1}, "\x00\x01", []string{"00", "01", "02", "03", "04", "05", "06", "07", "08", "09"}},
		{api.Code{K: 6, N: 10, Size: 1}, "\x01\x02\x04\x08\x10\x20", []string{"01", "02", "04", "08", "10", "20", "4f", "70", "9e", "42"}},
		{api.Code{K: 6, N: 10, Size: 2}, "telemetryok!", []string{"7465", "6c65", "6d65", "7472", "796f", "6b21", "70af", "63f6", "bea5", "5243"}},
	}
}

func TestWritten(t *testing.T) {
	for _, w := range written() {
		var want [][]byte
		for _, text := range w.shards {
			b, err := hex.DecodeString(text)
			if err != nil {
				t.Fatal(err)
			}
			want = append(want, b)
		}
		if got := shardsOf(w.c, []byte(w.text)); !same(got, want) {
			t.Errorf("%q's shards are reckoned as %x, want %x", w.text, got, want)
		}
		if got, e := Encode(w.c, []byte(w.text)); e != api.OK || !same(got, want) {
			t.Errorf("Encode(%v, %q) = %x, %d, want %x", w.c, w.text, got, e, want)
		}
		if got, e := Decode(w.c, want); e != api.OK || string(got) != w.text {
			t.Errorf("Decode(%v, %x) = %q, %d, want %q", w.c, want, got, e, w.text)
		}
	}
}

func TestExample(t *testing.T) {
	r := rand.New(rand.NewSource(55))
	for n := 1; n <= 10; n++ {
		for size := 1; size <= 24; size++ {
			c, text := api.Code{K: 1, N: n, Size: size}, draw(r, size)
			got, e := Encode(c, text)
			if e != api.OK || len(got) != n {
				t.Fatalf("Encode(%v, %x) = %x, %d", c, text, got, e)
			}
			for i, shard := range got {
				if !bytes.Equal(shard, text) {
					t.Errorf("shard %d of %x is %x", i, text, shard)
				}
			}
		}
	}
}

func TestEncode(t *testing.T) {
	r := rand.New(rand.NewSource(56))
	eachCode([]int{1, 2, 3, 12, 23, 24}, func(c api.Code) {
		many := c.K * c.Size
		for _, text := range [][]byte{draw(r, many), draw(r, many), make([]byte, many), bytes.Repeat([]byte{255}, many), rising(many)} {
			got, e := Encode(c, text)
			if want := shardsOf(c, text); e != api.OK || !same(got, want) {
				t.Fatalf("Encode(%v, %x) = %x, %d, want %x", c, text, got, e, want)
			}
		}
	})
}

func TestEncodeOfWrongTexts(t *testing.T) {
	eachCode([]int{1, 2, 7, 23, 24}, func(c api.Code) {
		whole := c.K * c.Size
		for _, many := range []int{0, 1, c.Size, c.N * c.Size, whole - 1, whole + 1, 2 * whole, 4096} {
			if many == whole {
				continue
			}
			if got, e := Encode(c, make([]byte, many)); e != api.ErrSize || len(got) != 0 {
				t.Errorf("Encode(%v, %d bytes) = %x, %d, want none, %d", c, many, got, e, api.ErrSize)
			}
		}
		if got, e := Encode(c, nil); e != api.ErrSize || len(got) != 0 {
			t.Errorf("Encode(%v, nil) = %x, %d, want none, %d", c, got, e, api.ErrSize)
		}
	})
}

func TestEncodeOfWrongCodes(t *testing.T) {
	for _, c := range wrongCodes() {
		// Texts that the code's numbers would ask for, where there is one, and others: ErrArg either way.
		for _, many := range []int{0, 1, 7, 24, 50, 144, 150, 168} {
			if got, e := Encode(c, make([]byte, many)); e != api.ErrArg || len(got) != 0 {
				t.Errorf("Encode(%v, %d bytes) = %x, %d, want none, %d", c, many, got, e, api.ErrArg)
			}
		}
	}
}

// eachLoss calls a test with which of a code's shards are there: all ways.
func eachLoss(c api.Code, test func(mask int)) {
	for mask := range 1 << c.N {
		test(mask)
	}
}

func TestDecodeOfAllFirstAndLast(t *testing.T) {
	r := rand.New(rand.NewSource(57))
	eachCode([]int{1, 2, 12, 23, 24}, func(c api.Code) {
		text := draw(r, c.K*c.Size)
		shards := shardsOf(c, text)
		first := 1<<c.K - 1
		for _, mask := range []int{1<<c.N - 1, first, first << (c.N - c.K)} {
			if got, e := Decode(c, some(shards, mask)); e != api.OK || !bytes.Equal(got, text) {
				t.Errorf("Decode(%v) of %b = %x, %d, want %x", c, mask, got, e, text)
			}
		}
	})
}

func TestDecodeOfWhicheverAreThere(t *testing.T) {
	r := rand.New(rand.NewSource(58))
	eachCode([]int{1 + r.Intn(24)}, func(c api.Code) {
		text := draw(r, c.K*c.Size)
		shards := shardsOf(c, text)
		eachLoss(c, func(mask int) {
			got, e := Decode(c, some(shards, mask))
			if ones(mask) < c.K {
				if e != api.ErrNone || len(got) != 0 {
					t.Fatalf("Decode(%v) of %b = %x, %d, want none, %d", c, mask, got, e, api.ErrNone)
				}
			} else if e != api.OK || !bytes.Equal(got, text) {
				t.Fatalf("Decode(%v) of %b = %x, %d, want %x", c, mask, got, e, text)
			}
		})
	})
}

// The first K that are there say the text, and the others nothing, whatever they are.
func TestDecodeByTheFirstAlone(t *testing.T) {
	r := rand.New(rand.NewSource(59))
	eachCode([]int{1, 1 + r.Intn(24)}, func(c api.Code) {
		text := draw(r, c.K*c.Size)
		shards := shardsOf(c, text)
		eachLoss(c, func(mask int) {
			if ones(mask) <= c.K {
				return
			}
			l := some(shards, mask)
			there := 0
			for _, shard := range l {
				if len(shard) > 0 {
					there++
				}
				if there > c.K {
					spoil(shard)
				}
			}
			if got, e := Decode(c, l); e != api.OK || !bytes.Equal(got, text) {
				t.Fatalf("Decode(%v) of %b, of which the first say %x = %x, %d", c, mask, text, got, e)
			}
		})
	})
}

// Shards that are no text's: what is decoded is by the tests' own polynomial through the first K.
func TestDecodeOfNoTextsShards(t *testing.T) {
	r := rand.New(rand.NewSource(60))
	eachCode([]int{1, 5, 24}, func(c api.Code) {
		for range 20 {
			all := make([][]byte, c.N)
			for i := range all {
				all[i] = draw(r, c.Size)
			}
			l := some(all, r.Intn(1<<c.N))
			var at []byte
			var known [][]byte
			for i, shard := range l {
				if len(shard) > 0 && len(at) < c.K {
					at, known = append(at, byte(i)), append(known, shard)
				}
			}
			if len(at) < c.K {
				continue
			}
			var want []byte
			for i := range c.K {
				want = append(want, extended(at, known, byte(i))...)
			}
			if got, e := Decode(c, l); e != api.OK || !bytes.Equal(got, want) {
				t.Fatalf("Decode(%v, %x) = %x, %d, want %x", c, l, got, e, want)
			}
		}
	})
}

func TestDecodeOfWrongCodes(t *testing.T) {
	for _, c := range wrongCodes() {
		for many := range 13 {
			for _, size := range []int{0, 1, 2, 24, 25} {
				shards := make([][]byte, many)
				for i := range shards {
					shards[i] = make([]byte, size)
				}
				if got, e := Decode(c, shards); e != api.ErrArg || len(got) != 0 {
					t.Errorf("Decode(%v) of %d shards of %d bytes = %x, %d, want none, %d", c, many, size, got, e, api.ErrArg)
				}
			}
		}
	}
}

func TestDecodeOfAnotherCount(t *testing.T) {
	r := rand.New(rand.NewSource(61))
	eachCode([]int{1, 24}, func(c api.Code) {
		shards := shardsOf(c, draw(r, c.K*c.Size))
		more := append(slices.Clone(shards), shards[0])
		lost := append(slices.Clone(shards), nil)
		for _, l := range [][][]byte{shards[:c.N-1], more, lost, nil, {}, make([][]byte, c.N-1), make([][]byte, c.N+1), make([][]byte, 300)} {
			if got, e := Decode(c, l); e != api.ErrSize || len(got) != 0 {
				t.Errorf("Decode(%v) of %d shards = %x, %d, want none, %d", c, len(l), got, e, api.ErrSize)
			}
		}
	})
}

// One of another size, wherever it stands, whether the others are all there, or fewer than K.
func TestDecodeOfAnotherSize(t *testing.T) {
	r := rand.New(rand.NewSource(62))
	eachCode([]int{1, 2, 24}, func(c api.Code) {
		shards := shardsOf(c, draw(r, c.K*c.Size))
		for place := range c.N {
			for _, size := range []int{1, c.Size - 1, c.Size + 1, 2 * c.Size, 4096} {
				if size == 0 || size == c.Size {
					continue
				}
				for _, mask := range []int{1<<c.N - 1, 1<<c.K - 1, 1<<c.N - 1<<(c.N-c.K), 0, r.Intn(1 << c.N)} {
					l := some(shards, mask)
					l[place] = make([]byte, size)
					if got, e := Decode(c, l); e != api.ErrSize || len(got) != 0 {
						t.Fatalf("Decode(%v) of %b, with %d bytes at %d = %x, %d, want none, %d", c, mask, size, place, got, e, api.ErrSize)
					}
				}
			}
		}
	})
}

func TestDecodeOfFewerThanAreNeeded(t *testing.T) {
	eachCode([]int{1, 24}, func(c api.Code) {
		shards := shardsOf(c, make([]byte, c.K*c.Size))
		for _, mask := range []int{0, 1<<(c.K-1) - 1, (1<<(c.K-1) - 1) << (c.N - c.K + 1)} {
			if got, e := Decode(c, some(shards, mask)); e != api.ErrNone || len(got) != 0 {
				t.Errorf("Decode(%v) of %b = %x, %d, want none, %d", c, mask, got, e, api.ErrNone)
			}
		}
	})
}

// What follows: by the calls alone, for texts and losses that are drawn.
func TestFromWhicheverShards(t *testing.T) {
	r := rand.New(rand.NewSource(63))
	eachCode([]int{1, 1 + r.Intn(24), 24}, func(c api.Code) {
		for range 12 {
			text := draw(r, c.K*c.Size)
			all, e := Encode(c, text)
			if e != api.OK {
				t.Fatalf("Encode(%v, %x): %d", c, text, e)
			}
			l := make([][]byte, c.N)
			for _, i := range r.Perm(c.N)[:c.K+r.Intn(c.N-c.K+1)] {
				l[i] = all[i]
			}
			got, e := Decode(c, l)
			if e != api.OK || !bytes.Equal(got, text) {
				t.Fatalf("Decode(%v, %x) = %x, %d, want %x", c, l, got, e, text)
			}
			if again, e := Encode(c, got); e != api.OK || !same(again, all) {
				t.Fatalf("the shards of what was decoded are %x, %d, and were %x", again, e, all)
			}
		}
	})
}

// Any K shards are a text's: they are among the shards of what is decoded from them.
func TestShardsOfWhatIsDecoded(t *testing.T) {
	r := rand.New(rand.NewSource(64))
	eachCode([]int{1, 1 + r.Intn(24), 24}, func(c api.Code) {
		for range 12 {
			l := make([][]byte, c.N)
			for _, i := range r.Perm(c.N)[:c.K] {
				l[i] = draw(r, c.Size)
			}
			text, e := Decode(c, l)
			if e != api.OK || len(text) != c.K*c.Size {
				t.Fatalf("Decode(%v, %x) = %x, %d", c, l, text, e)
			}
			all, _ := Encode(c, text)
			for i, shard := range l {
				if len(shard) > 0 && !bytes.Equal(all[i], shard) {
					t.Fatalf("shard %d of %x, decoded from %x, is %x", i, text, l, all[i])
				}
			}
		}
	})
}

func TestPaddedTextsComeBack(t *testing.T) {
	r := rand.New(rand.NewSource(65))
	eachCode([]int{1, 24}, func(c api.Code) {
		b := draw(r, r.Intn(c.K*c.Size+1))
		shards, e := Encode(c, Pad(c, b))
		if e != api.OK {
			t.Fatalf("Encode(%v) of a padded text: %d", c, e)
		}
		if got, e := Decode(c, shards); e != api.OK || !bytes.HasPrefix(got, b) {
			t.Errorf("Decode(%v) = %x, %d, want %x and bytes 0", c, got, e, b)
		}
	})
}

// roomy is a copy of bytes with spare room behind it, and all of it.
func roomy(b []byte) (short, whole []byte) {
	whole = append(bytes.Clone(b), bytes.Repeat([]byte{0xee}, 200)...)
	return whole[:len(b)], whole
}

func spoil(b []byte) {
	b = b[:cap(b)]
	for i := range b {
		b[i] ^= 0xff
	}
}

// handIn calls with bytes that have spare room, and then holds that neither the bytes nor the answer are changed through each other.
func handIn(t *testing.T, name string, b []byte, call func(b []byte) []byte) {
	t.Helper()
	in, whole := roomy(b)
	before := bytes.Clone(whole)
	got, other := call(in), call(in)
	want := bytes.Clone(got)
	if !bytes.Equal(whole, before) {
		t.Fatalf("%s has changed what was handed in: %x, and it was %x", name, whole, before)
	}
	spoil(other)
	if !bytes.Equal(whole, before) || !bytes.Equal(got, want) {
		t.Fatalf("%s: an answer shares memory with what was handed in, or with another answer", name)
	}
	spoil(whole)
	if !bytes.Equal(got, want) {
		t.Fatalf("%s keeps what was handed in", name)
	}
	copy(whole, before)
	if again := call(in); !bytes.Equal(again, want) {
		t.Fatalf("%s answers %x, and answered %x", name, again, want)
	}
}

func TestBytesHandedInAreNotChangedOrShared(t *testing.T) {
	r := rand.New(rand.NewSource(66))
	eachCode([]int{1, 5, 24}, func(c api.Code) {
		whole := c.K * c.Size
		for _, many := range []int{0, whole - 1, whole, whole + 1} {
			handIn(t, "Pad", draw(r, many), func(b []byte) []byte { return Pad(c, b) })
		}
		for _, many := range []int{0, 1, 2, 6, 10} {
			handIn(t, "Weights", unlike(r, many), func(b []byte) []byte { return Weights(b, 7) })
			handIn(t, "Weights", make([]byte, many), func(b []byte) []byte { return Weights(b, 7) })
		}
		for _, many := range []int{0, whole - 1, whole, whole + 1} {
			for i := range c.N {
				handIn(t, "Encode", draw(r, many), func(b []byte) []byte {
					shards, e := Encode(c, b)
					if e != api.OK {
						return nil
					}
					return shards[i]
				})
			}
		}
	})
}

// No two shards of an answer share memory, spare room included, nor do the lists that they stand in.
func TestShardsAreEachTheirOwn(t *testing.T) {
	r := rand.New(rand.NewSource(67))
	eachCode([]int{1, 5, 24}, func(c api.Code) {
		text := draw(r, c.K*c.Size)
		want := shardsOf(c, text)
		for i := range c.N {
			got, _ := Encode(c, text)
			other, _ := Encode(c, text)
			spoil(got[i])
			clear(other[:cap(other)])
			for j := range got {
				if j != i && !bytes.Equal(got[j], want[j]) {
					t.Fatalf("Encode(%v): shards %d and %d share memory", c, i, j)
				}
			}
		}
	})
}

// roomyList is a list of shards with spare room behind each, and behind the list; and all of it, and all of each.
func roomyList(l [][]byte) (short, whole, wholes [][]byte) {
	for _, shard := range l {
		in, all := roomy(shard)
		whole, wholes = append(whole, in), append(wholes, all)
	}
	for range 8 {
		in, all := roomy([]byte("spare"))
		whole, wholes = append(whole, in), append(wholes, all)
	}
	return whole[:len(l)], whole, wholes
}

func cloned(l [][]byte) [][]byte {
	c := make([][]byte, len(l))
	for i := range l {
		c[i] = bytes.Clone(l[i])
	}
	return c
}

func TestShardsHandedInAreNotChangedOrShared(t *testing.T) {
	r := rand.New(rand.NewSource(68))
	eachCode([]int{1, 5, 24}, func(c api.Code) {
		text := draw(r, c.K*c.Size)
		shards := shardsOf(c, text)
		first := 1<<c.K - 1
		for _, mask := range []int{first, first << (c.N - c.K), 1<<c.N - 1, first >> 1, r.Intn(1 << c.N)} {
			in, whole, wholes := roomyList(some(shards, mask))
			stand, bytesThere := slices.Clone(whole), cloned(wholes)
			unchanged := func() bool {
				for i := range whole {
					if len(whole[i]) != len(stand[i]) || &whole[i][:1][0] != &stand[i][:1][0] {
						return false
					}
				}
				return same(wholes, bytesThere)
			}
			got, e := Decode(c, in)
			other, _ := Decode(c, in)
			if !unchanged() {
				t.Fatalf("Decode(%v) of %b has changed what was handed in", c, mask)
			}
			spoil(other)
			if !unchanged() {
				t.Fatalf("Decode(%v) of %b: an answer shares memory with what was handed in", c, mask)
			}
			for _, b := range wholes {
				spoil(b)
			}
			clear(whole)
			if e == api.OK && !bytes.Equal(got, text) {
				t.Fatalf("Decode(%v) of %b keeps what was handed in, or shares memory with another answer", c, mask)
			}
		}
	})
}
