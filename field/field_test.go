package field

import (
	"math"
	"testing"
)

// What is asked for is reckoned by the tests themselves: a whole product of polynomials, and then what long division by 11d leaves of it.

func productOf(a, b byte) byte {
	whole := 0
	for i := range 8 {
		for j := range 8 {
			bit := (int(a) >> i) & (int(b) >> j) & 1
			whole ^= bit << (i + j)
		}
	}
	for top := 14; top >= 8; top-- {
		if whole>>top&1 == 1 {
			whole ^= 0x11d << (top - 8)
		}
	}
	return byte(whole)
}

// inverseOf is found by trying all bytes.
func inverseOf(a byte) byte {
	for b := range 256 {
		if productOf(a, byte(b)) == 1 {
			return byte(b)
		}
	}
	return 0
}

// powerOf is reckoned by squares, for n from 0 on.
func powerOf(a byte, n int) byte {
	p := byte(1)
	for ; n > 0; n >>= 1 {
		if n&1 == 1 {
			p = productOf(p, a)
		}
		a = productOf(a, a)
	}
	return p
}

// eachPair calls a test with all pairs of bytes.
func eachPair(test func(a, b byte)) {
	for a := range 256 {
		for b := range 256 {
			test(byte(a), byte(b))
		}
	}
}

type square [256][256]byte

// squareOf is a call's answers of all pairs, so that all triples can be gone through.
func squareOf(call func(a, b byte) byte) *square {
	s := new(square)
	eachPair(func(a, b byte) { s[a][b] = call(a, b) })
	return s
}

func TestExample(t *testing.T) {
	if got := Mul(2, 0x80); got != 0x1d {
		t.Errorf("Mul(2, 80) = %x, want 1d", got)
	}
}

// The tests' own product is held against some that are written down.
func TestProductOfTheTests(t *testing.T) {
	for _, x := range [][3]byte{{2, 0x80, 0x1d}, {0x80, 2, 0x1d}, {0x53, 0xca, 0x8f}, {3, 3, 5}, {0x80, 0x80, 0x13}, {2, 0x8e, 1}, {0xff, 1, 0xff}, {0, 0xff, 0}} {
		if got := productOf(x[0], x[1]); got != x[2] {
			t.Errorf("%x times %x is reckoned as %x, want %x", x[0], x[1], got, x[2])
		}
		if got := Mul(x[0], x[1]); got != x[2] {
			t.Errorf("Mul(%x, %x) = %x, want %x", x[0], x[1], got, x[2])
		}
	}
}

func TestAdd(t *testing.T) {
	eachPair(func(a, b byte) {
		want := byte(0)
		for i := range 8 {
			if a>>i&1 != b>>i&1 {
				want += 1 << i
			}
		}
		if got := Add(a, b); got != want {
			t.Errorf("Add(%x, %x) = %x, want %x", a, b, got, want)
		}
	})
}

func TestMul(t *testing.T) {
	eachPair(func(a, b byte) {
		if got, want := Mul(a, b), productOf(a, b); got != want {
			t.Errorf("Mul(%x, %x) = %x, want %x", a, b, got, want)
		}
	})
}

func TestInv(t *testing.T) {
	if got := Inv(0); got != 0 {
		t.Errorf("Inv(0) = %x, want 0", got)
	}
	for a := range 256 {
		if got, want := Inv(byte(a)), inverseOf(byte(a)); got != want {
			t.Errorf("Inv(%x) = %x, want %x", a, got, want)
		}
	}
}

func TestDiv(t *testing.T) {
	for b := range 256 {
		inverse := inverseOf(byte(b))
		for a := range 256 {
			want := byte(0)
			if b != 0 {
				want = productOf(byte(a), inverse)
			}
			if got := Div(byte(a), byte(b)); got != want {
				t.Errorf("Div(%x, %x) = %x, want %x", a, b, got, want)
			}
		}
	}
}

func TestPowOneBehindTheOther(t *testing.T) {
	for a := range 256 {
		want := byte(1)
		for n := range 600 {
			if got := Pow(byte(a), n); got != want {
				t.Fatalf("Pow(%x, %d) = %x, want %x", a, n, got, want)
			}
			want = productOf(want, byte(a))
		}
	}
}

func TestPowAtTheEdges(t *testing.T) {
	for a := range 256 {
		x := byte(a)
		around := min(x, 1)
		for _, want := range []struct {
			n     int
			power byte
		}{{0, 1}, {1, x}, {2, productOf(x, x)}, {254, inverseOf(x)}, {255, around}, {256, x}, {510, around}, {511, x}} {
			if got := Pow(x, want.n); got != want.power {
				t.Errorf("Pow(%x, %d) = %x, want %x", x, want.n, got, want.power)
			}
		}
	}
}

func TestPowOfGreatNumbers(t *testing.T) {
	great := []int{1 << 15, 1<<16 - 1, 1 << 16, math.MaxInt32, 1 << 31, math.MaxUint32, 1 << 32, 1<<32 + 1, 255 << 32, 255<<32 - 1, 255<<32 + 1, 1 << 55, 1<<56 + 3, 1 << 62, math.MaxInt - 255, math.MaxInt - 254, math.MaxInt - 1, math.MaxInt}
	for a := range 256 {
		for _, n := range great {
			if got, want := Pow(byte(a), n), powerOf(byte(a), n); got != want {
				t.Errorf("Pow(%x, %d) = %x, want %x", a, n, got, want)
			}
		}
	}
}

func TestPowBelowZero(t *testing.T) {
	for a := range 256 {
		for _, n := range []int{-1, -2, -3, -254, -255, -256, -510, -1 << 16, math.MinInt32, -1 << 32, -255 << 32, 1 - math.MaxInt, -math.MaxInt, math.MinInt} {
			if got := Pow(byte(a), n); got != 0 {
				t.Errorf("Pow(%x, %d) = %x, want 0", a, n, got)
			}
		}
	}
}

func TestExp(t *testing.T) {
	want := byte(1)
	for i := range 510 {
		if got := Exp(i); got != want {
			t.Errorf("Exp(%d) = %x, want %x", i, got, want)
		}
		want = productOf(want, 2)
	}
}

func TestExpOfOthers(t *testing.T) {
	for _, i := range []int{-1, -2, -8, -254, -255, -256, -509, -510, 510, 511, 512, 764, 765, 766, 1020, 1 << 16, 1<<16 + 1, math.MaxInt32, math.MinInt32, 1 << 32, 1<<32 + 1, -1 << 32, 255 << 32, math.MinInt, math.MinInt + 1, math.MaxInt - 1, math.MaxInt} {
		if got := Exp(i); got != 0 {
			t.Errorf("Exp(%d) = %x, want 0", i, got)
		}
	}
}

func TestLog(t *testing.T) {
	if got := Log(0); got != -1 {
		t.Errorf("Log(0) = %d, want -1", got)
	}
	power := byte(1)
	for i := range 255 {
		if got := Log(power); got != i {
			t.Errorf("Log(%x) = %d, want %d", power, got, i)
		}
		power = productOf(power, 2)
	}
}

func TestLogIsTheLeast(t *testing.T) {
	for a := 1; a < 256; a++ {
		least := 0
		for least < 510 && Exp(least) != byte(a) {
			least++
		}
		if got := Log(byte(a)); got != least || got > 254 {
			t.Errorf("Log(%x) = %d, and Exp is it of %d first", a, got, least)
		}
	}
}

func TestLawsOfPairs(t *testing.T) {
	eachPair(func(a, b byte) {
		if Add(a, b) != Add(b, a) {
			t.Errorf("Add isn't commutative of %x and %x", a, b)
		}
		if Mul(a, b) != Mul(b, a) {
			t.Errorf("Mul isn't commutative of %x and %x", a, b)
		}
		if b != 0 && Div(Mul(a, b), b) != a {
			t.Errorf("%x times %x, divided by it, isn't %x", a, b, a)
		}
	})
}

func TestLawsOfTriples(t *testing.T) {
	add, mul := squareOf(Add), squareOf(Mul)
	for a := range 256 {
		eachPair(func(b, c byte) {
			if add[add[a][b]][c] != add[a][add[b][c]] {
				t.Fatalf("Add isn't associative of %x, %x and %x", a, b, c)
			}
			if mul[mul[a][b]][c] != mul[a][mul[b][c]] {
				t.Fatalf("Mul isn't associative of %x, %x and %x", a, b, c)
			}
			if mul[a][add[b][c]] != add[mul[a][b]][mul[a][c]] {
				t.Fatalf("Mul doesn't go over Add of %x, %x and %x", a, b, c)
			}
		})
	}
}

func TestLawsOfZeroAndOne(t *testing.T) {
	for a := range 256 {
		x := byte(a)
		if Add(x, 0) != x || Add(x, x) != 0 || Mul(x, 1) != x || Mul(x, 0) != 0 {
			t.Errorf("0 and 1 aren't what leaves %x as it is", x)
		}
	}
}

func TestEachButZeroHasOneInverse(t *testing.T) {
	mul := squareOf(Mul)
	for a := range 256 {
		count := 0
		for b := range 256 {
			if mul[a][b] == 1 {
				count++
				if got := Inv(byte(a)); got != byte(b) {
					t.Errorf("Inv(%x) = %x, want %x", a, got, b)
				}
			}
		}
		if want := min(a, 1); count != want {
			t.Errorf("%x has %d inverses, want %d", a, count, want)
		}
	}
}
