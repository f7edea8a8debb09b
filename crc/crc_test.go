package crc

import (
	"bytes"
	"hash/crc32"
	"math"
	"math/big"
	"math/rand"
	"strings"
	"testing"
)

// shortByDivision is the CRC-16 as the rest of a division of polynomials, one number for all bits: the first state is put together with the first 16 bits of the text and 16 zeros behind it.
func shortByDivision(b []byte) int {
	n := new(big.Int).SetBytes(b)
	n.Lsh(n, 16)
	n.Xor(n, new(big.Int).Lsh(big.NewInt(0xffff), uint(8*len(b))))
	by := big.NewInt(0x11021)
	for n.BitLen() > 16 {
		n.Xor(n, new(big.Int).Lsh(by, uint(n.BitLen()-17)))
	}
	return int(n.Int64())
}

func texts() [][]byte {
	r := rand.New(rand.NewSource(2))
	all := [][]byte{nil, {}, []byte("a"), []byte("123456789"), make([]byte, 70), bytes.Repeat([]byte{255}, 70), []byte(strings.Repeat("gurney ", 400))}
	for i := range 256 {
		all = append(all, []byte{byte(i)})
	}
	for size := range 200 {
		b := make([]byte, size)
		r.Read(b)
		all = append(all, b)
	}
	return all
}

func checkSums(t *testing.T, b []byte, wantShort, wantLong int) {
	t.Helper()
	if got := Short(b); got != wantShort {
		t.Errorf("Short(%x) = %x, want %x", b, got, wantShort)
	}
	if got := Long(b); got != wantLong {
		t.Errorf("Long(%x) = %x, want %x", b, got, wantLong)
	}
}

func TestExample(t *testing.T) {
	checkSums(t, []byte("123456789"), 0x29b1, 0xcbf43926)
}

func TestSumsOfNoBytes(t *testing.T) {
	checkSums(t, nil, 0xffff, 0)
	checkSums(t, []byte{}, 0xffff, 0)
	checkSums(t, []byte("a")[:0], 0xffff, 0)
}

func TestSumsOfOneByte(t *testing.T) {
	checkSums(t, []byte{0}, 0xe1f0, 0xd202ef8d)
	checkSums(t, []byte("a"), 0x9d77, 0xe8b7be43)
	checkSums(t, []byte{255}, 0xff00, 0xff000000)
}

func TestSumsOfTexts(t *testing.T) {
	for _, b := range texts() {
		checkSums(t, b, shortByDivision(b), int(crc32.ChecksumIEEE(b)))
	}
}

func TestSumsChangeNothing(t *testing.T) {
	for _, b := range texts() {
		room := append(bytes.Clone(b), "room"...)
		kept := bytes.Clone(room)
		s, l := Short(room[:len(b)]), Long(room[:len(b)])
		if !bytes.Equal(room, kept) {
			t.Fatalf("%x was changed to %x", kept, room)
		}
		checkSums(t, room[:len(b)], s, l)
	}
}

func TestNumber(t *testing.T) {
	for _, x := range []struct {
		n, many int
		want    []byte
	}{
		{258, 0, nil}, {258, 1, []byte{2}}, {258, 2, []byte{1, 2}}, {258, 3, []byte{0, 1, 2}}, {258, 4, []byte{0, 0, 1, 2}},
		{0, 1, []byte{0}}, {0, 4, make([]byte, 4)}, {255, 1, []byte{255}}, {256, 1, []byte{0}},
		{0xffff, 2, []byte{255, 255}}, {0x10000, 2, []byte{0, 0}},
		{0x01020304, 4, []byte{1, 2, 3, 4}}, {0x01020304, 3, []byte{2, 3, 4}}, {0xfffefdfc, 4, []byte{255, 254, 253, 252}},
		{0x0102030405060708, 4, []byte{5, 6, 7, 8}}, {1 << 32, 4, make([]byte, 4)},
		{-1, 0, nil}, {-1, 1, []byte{255}}, {-1, 2, []byte{255, 255}}, {-1, 4, []byte{255, 255, 255, 255}},
		{-2, 2, []byte{255, 254}}, {-256, 2, []byte{255, 0}}, {-257, 4, []byte{255, 255, 254, 255}},
		{math.MaxInt, 4, []byte{255, 255, 255, 255}}, {math.MinInt, 4, make([]byte, 4)}, {math.MinInt + 5, 4, []byte{0, 0, 0, 5}},
	} {
		if got := Number(x.n, x.many); !bytes.Equal(got, x.want) {
			t.Errorf("Number(%d, %d) = %x, want %x", x.n, x.many, got, x.want)
		}
	}
}

func TestNumberOfNoCount(t *testing.T) {
	for _, many := range []int{math.MinInt, -4, -1, 5, 6, 8, 256, 1 << 32, math.MaxInt} {
		for _, n := range []int{0, 258, -1, math.MaxInt, math.MinInt} {
			if got := Number(n, many); len(got) != 0 {
				t.Errorf("Number(%d, %d) = %x, want none", n, many, got)
			}
		}
	}
}

func TestNumberIsNewMemory(t *testing.T) {
	a := Number(258, 2)
	a = append(a[:0], "changed"...)
	if got := Number(258, 2); !bytes.Equal(got, []byte{1, 2}) {
		t.Errorf("Number(258, 2) = %x behind %x, want 0102", got, a)
	}
}

func TestRead(t *testing.T) {
	for _, x := range []struct {
		b    []byte
		want int
	}{
		{nil, 0}, {[]byte{}, 0}, {[]byte{0}, 0}, {[]byte{7}, 7}, {[]byte{255}, 255},
		{[]byte{1, 2}, 258}, {[]byte{2, 1}, 513}, {[]byte{0, 1}, 1}, {[]byte{1, 2, 3}, 0x010203}, {[]byte{1, 2, 3, 4}, 0x01020304},
		{[]byte{128, 0, 0, 0}, 1 << 31}, {[]byte{255, 255, 255, 255}, 0xffffffff},
		{make([]byte, 5), 0}, {[]byte{0, 0, 0, 0, 1}, 0}, {[]byte{1, 2, 3, 4, 5}, 0}, {bytes.Repeat([]byte{255}, 8), 0}, {bytes.Repeat([]byte{1}, 1000), 0},
	} {
		kept := bytes.Clone(x.b)
		if got := Read(x.b); got != x.want {
			t.Errorf("Read(%x) = %x, want %x", x.b, got, x.want)
		}
		if !bytes.Equal(x.b, kept) {
			t.Errorf("Read changed %x to %x", kept, x.b)
		}
	}
}

func TestReadOfNumber(t *testing.T) {
	r := rand.New(rand.NewSource(3))
	for range 1000 {
		n := int(r.Uint64())
		for many := range 5 {
			if got, want := Read(Number(n, many)), n&(1<<(8*many)-1); got != want {
				t.Fatalf("Read(Number(%d, %d)) = %x, want %x", n, many, got, want)
			}
		}
	}
}

// turned is a text with bits turned from a place on: those of pattern, whose lowest comes first. The bits of a byte are gone through by place, from its lowest or its highest on.
func turned(b []byte, from, many int, pattern uint64, place func(i int) int) []byte {
	c := bytes.Clone(b)
	for i := range many {
		if pattern>>i&1 == 1 {
			c[(from+i)/8] ^= 1 << place((from+i)%8)
		}
	}
	return c
}

func fromLowest(i int) int  { return i }
func fromHighest(i int) int { return 7 - i }

func TestOneBitTurned(t *testing.T) {
	for _, b := range texts() {
		if len(b) > 75 {
			continue
		}
		s, l := Short(b), Long(b)
		for i := range 8 * len(b) {
			c := turned(b, i, 1, 1, fromLowest)
			if Short(c) == s || Long(c) == l {
				t.Fatalf("%x and %x have one sum", b, c)
			}
		}
	}
}

// checkBursts turns bits next to one another, the first and the last of them always and others between as it comes, in the order in which a sum takes them.
func checkBursts(t *testing.T, sum func([]byte) int, widest int, place func(i int) int) {
	t.Helper()
	r := rand.New(rand.NewSource(4))
	b := []byte("samples of a bed, as a group's text")
	want := sum(b)
	for many := 2; many <= widest; many++ {
		ends := uint64(1) | 1<<(many-1)
		for from := range 8*len(b) - many + 1 {
			for _, between := range []uint64{0, 1<<many - 1, r.Uint64(), r.Uint64()} {
				c := turned(b, from, many, ends|between, place)
				if sum(c) == want {
					t.Fatalf("%x and %x have one sum", b, c)
				}
			}
		}
	}
}

func TestBitsNextToOneAnotherTurned(t *testing.T) {
	checkBursts(t, Short, 16, fromHighest)
	checkBursts(t, Long, 32, fromLowest)
}

// All of the bits turned, a sum tells it in whichever order a byte's bits stand next to one another.
func TestRunsTurned(t *testing.T) {
	b := []byte("samples of a bed, as a group's text")
	s, l := Short(b), Long(b)
	for _, place := range []func(i int) int{fromHighest, fromLowest} {
		for many := 1; many <= 32; many++ {
			for from := range 8*len(b) - many + 1 {
				c := turned(b, from, many, 1<<many-1, place)
				if many <= 16 && Short(c) == s || Long(c) == l {
					t.Fatalf("%x and %x have one sum", b, c)
				}
			}
		}
	}
}
