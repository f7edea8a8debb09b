package bits

import (
	"bytes"
	"math"
	"strconv"
	"strings"
	"testing"
)

// What is asked for is told by texts of the characters 0 and 1, which share nothing with the way that the package keeps bits.

func textOf(n, width int) string {
	s := strconv.FormatInt(int64(n), 2)
	return strings.Repeat("0", width-len(s)) + s
}

func bytesOf(text string) []byte {
	var b []byte
	for len(text) > 0 {
		piece := text[:min(8, len(text))]
		text = text[len(piece):]
		n, _ := strconv.ParseUint(piece+strings.Repeat("0", 8-len(piece)), 2, 8)
		b = append(b, byte(n))
	}
	return b
}

func checkPen(t *testing.T, p *Pen, text string) {
	t.Helper()
	if p.Len() != len(text) {
		t.Errorf("Len() = %d, want %d", p.Len(), len(text))
	}
	if got, want := p.Bytes(), bytesOf(text); !bytes.Equal(got, want) {
		t.Errorf("Bytes() = %x, want %x", got, want)
	}
}

func checkGet(t *testing.T, e *Eye, width, n int, ok bool, left int) {
	t.Helper()
	if gotN, gotOK := e.Get(width); gotN != n || gotOK != ok {
		t.Errorf("Get(%d) = %d, %v, want %d, %v", width, gotN, gotOK, n, ok)
	}
	if e.Left() != left {
		t.Errorf("Left() = %d behind Get(%d), want %d", e.Left(), width, left)
	}
}

// sampleNumbers are those of a width at which a bit may go astray.
func sampleNumbers(width int) []int {
	top := 1<<width - 1
	return []int{0, 1, top, top - 1, 1 << (width - 1), 0x55555555 & top, 0xaaaaaaaa & top, 0x12345678 & top}
}

var noWidths = []int{math.MinInt, math.MinInt32, -64, -32, -1, 0, 33, 34, 63, 64, 65, 1 << 32, 1<<32 + 1, math.MaxInt}

func TestExample(t *testing.T) {
	var p Pen
	if !p.Put(5, 3) || !p.Put(1, 2) {
		t.Error("a field was refused")
	}
	if got := p.Bytes(); !bytes.Equal(got, []byte{0xa8}) || p.Len() != 5 {
		t.Errorf("%x of %d bits, want a8 of 5", got, p.Len())
	}
}

func TestZeroPen(t *testing.T) {
	var p Pen
	checkPen(t, &p, "")
	checkPen(t, new(Pen), "")
}

func TestPutFieldsOfAllWidths(t *testing.T) {
	for ahead := range 9 {
		for width := 1; width <= 32; width++ {
			for _, n := range sampleNumbers(width) {
				var p Pen
				for range ahead {
					p.Put(1, 1)
				}
				if !p.Put(n, width) {
					t.Fatalf("Put(%d, %d) is refused behind %d bits", n, width, ahead)
				}
				checkPen(t, &p, strings.Repeat("1", ahead)+textOf(n, width))
			}
		}
	}
}

func TestPutOneBehindTheOther(t *testing.T) {
	var p Pen
	text := ""
	for width := 1; width <= 32; width++ {
		for _, n := range sampleNumbers(width) {
			if !p.Put(n, width) {
				t.Fatalf("Put(%d, %d) is refused", n, width)
			}
			text += textOf(n, width)
			checkPen(t, &p, text)
		}
	}
}

func TestPutRefusesWidths(t *testing.T) {
	var p Pen
	p.Put(5, 3)
	for _, width := range noWidths {
		for _, n := range []int{0, 1, -1, math.MaxInt, math.MinInt} {
			if p.Put(n, width) {
				t.Errorf("Put(%d, %d) is taken", n, width)
			}
			checkPen(t, &p, "101")
		}
	}
	if !p.Put(1, 2) {
		t.Error("a field is refused behind what was none")
	}
	checkPen(t, &p, "10101")
}

func TestPutRefusesNumbers(t *testing.T) {
	for width := 1; width <= 32; width++ {
		var p Pen
		top := 1<<width - 1
		for _, n := range []int{-1, -top, -top - 1, math.MinInt, math.MinInt32, top + 1, top + 2, 2*top + 1, 1 << 40, math.MaxInt} {
			if p.Put(n, width) {
				t.Errorf("Put(%d, %d) is taken", n, width)
			}
			checkPen(t, &p, "")
		}
		if !p.Put(top, width) {
			t.Errorf("Put(%d, %d) is refused", top, width)
		}
		checkPen(t, &p, strings.Repeat("1", width))
	}
}

func TestPutRefusedByAZeroPen(t *testing.T) {
	var p Pen
	if p.Put(2, 1) || p.Put(0, 0) || p.Put(-1, 32) {
		t.Error("what is no field is taken")
	}
	checkPen(t, &p, "")
}

func TestNilPen(t *testing.T) {
	var p *Pen
	for _, width := range []int{-1, 0, 1, 8, 32, 33} {
		if p.Put(0, width) || p.Put(1, width) {
			t.Errorf("a nil pen takes a field of %d bits", width)
		}
	}
	checkPen(t, p, "")
}

func TestPensAreAlone(t *testing.T) {
	var a, b Pen
	a.Put(5, 3)
	b.Put(2, 3)
	a.Put(1, 2)
	checkPen(t, &a, "10101")
	checkPen(t, &b, "010")
}

func TestBytesAreNewMemory(t *testing.T) {
	var p Pen
	text := ""
	for i := range 40 {
		p.Put(i%8, 3)
		text += textOf(i%8, 3)
		kept := p.Bytes()
		before := bytes.Clone(kept)
		spoilt := p.Bytes()
		spoilt = spoilt[:cap(spoilt)]
		for j := range spoilt {
			spoilt[j] ^= 0xff
		}
		checkPen(t, &p, text)
		p.Put(1, 1)
		text += "1"
		checkPen(t, &p, text)
		if !bytes.Equal(kept, before) {
			t.Fatalf("an answer is %x behind a Put, and was %x", kept, before)
		}
	}
}

func TestLookAtBytes(t *testing.T) {
	e := Look([]byte{0xa5, 0x0f})
	if e.Left() != 16 {
		t.Errorf("Left() = %d, want 16", e.Left())
	}
	checkGet(t, e, 1, 1, true, 15)
	checkGet(t, e, 3, 2, true, 12)
	checkGet(t, e, 8, 0x50, true, 4)
	checkGet(t, e, 5, 0, false, 4)
	checkGet(t, e, 4, 15, true, 0)
	checkGet(t, e, 1, 0, false, 0)
}

func TestLookAtNothing(t *testing.T) {
	for _, b := range [][]byte{nil, {}, make([]byte, 0, 8)} {
		e := Look(b)
		if e == nil {
			t.Fatal("there is no eye")
		}
		if e.Left() != 0 {
			t.Errorf("Left() = %d, want 0", e.Left())
		}
		for _, width := range []int{-1, 0, 1, 8, 32, 33} {
			checkGet(t, e, width, 0, false, 0)
		}
	}
}

func TestGetFieldsOfAllWidths(t *testing.T) {
	for ahead := range 9 {
		for width := 1; width <= 32; width++ {
			for _, n := range sampleNumbers(width) {
				b := bytesOf(strings.Repeat("1", ahead) + textOf(n, width))
				e := Look(b)
				for range ahead {
					e.Get(1)
				}
				checkGet(t, e, width, n, true, 8*len(b)-ahead-width)
			}
		}
	}
}

func TestGetRefusesWidths(t *testing.T) {
	e := Look([]byte{0xff, 0xff, 0xff, 0xff, 0xff, 0xff, 0xff, 0xff, 0xff})
	for _, width := range noWidths {
		checkGet(t, e, width, 0, false, 72)
	}
	checkGet(t, e, 3, 7, true, 69)
	for _, width := range noWidths {
		checkGet(t, e, width, 0, false, 69)
	}
	checkGet(t, e, 32, 1<<32-1, true, 37)
}

func TestGetRefusesMoreThanIsLeft(t *testing.T) {
	for many := range 5 {
		b := bytes.Repeat([]byte{0xff}, many)
		for gone := 0; gone <= 8*many; gone++ {
			e := Look(b)
			for range gone {
				e.Get(1)
			}
			left := 8*many - gone
			for width := left + 1; width <= 32; width++ {
				checkGet(t, e, width, 0, false, left)
			}
			if left > 0 {
				checkGet(t, e, left, 1<<left-1, true, 0)
			}
		}
	}
}

func TestNilEye(t *testing.T) {
	var e *Eye
	for _, width := range []int{math.MinInt, -1, 0, 1, 8, 32, 33, math.MaxInt} {
		checkGet(t, e, width, 0, false, 0)
	}
}

func TestLookKeepsAndChangesNothing(t *testing.T) {
	whole := []byte{0xa5, 0x0f, 0x33, 0xcc}
	b := whole[:2]
	e := Look(b)
	checkGet(t, e, 3, 5, true, 13)
	if !bytes.Equal(whole, []byte{0xa5, 0x0f, 0x33, 0xcc}) {
		t.Errorf("what was handed in is %x", whole)
	}
	for i := range whole {
		whole[i] = 0xff
	}
	checkGet(t, e, 13, 0x50f, true, 0)
	if !bytes.Equal(whole, []byte{0xff, 0xff, 0xff, 0xff}) {
		t.Errorf("what was handed in is %x", whole)
	}
}

func TestEyesAreAlone(t *testing.T) {
	b := []byte{0xa5, 0x0f}
	first, second := Look(b), Look(b)
	checkGet(t, first, 9, 0x14a, true, 7)
	checkGet(t, second, 4, 0xa, true, 12)
	checkGet(t, first, 7, 0x0f, true, 0)
	checkGet(t, second, 12, 0x50f, true, 0)
}

type pair struct{ n, width int }

// pairs are some, by a rule that runs the same each time; about each eighth is no field.
func pairs(many int, seed uint64) []pair {
	var l []pair
	for range many {
		seed = seed*6364136223846793005 + 1442695040888963407
		width := int(seed>>33)%32 + 1
		n := int(seed>>31) & (1<<width - 1)
		if seed>>60&7 == 0 {
			n += 1 << width
		}
		l = append(l, pair{n, width})
	}
	return l
}

func TestWhatIsPutIsSeenAgain(t *testing.T) {
	for seed := range uint64(200) {
		var p Pen
		var put []pair
		for _, x := range pairs(int(seed), seed) {
			right := x.n < 1<<x.width
			if p.Put(x.n, x.width) != right {
				t.Fatalf("Put(%d, %d) isn't %v", x.n, x.width, right)
			}
			if right {
				put = append(put, x)
			}
		}
		e := Look(p.Bytes())
		left := (p.Len() + 7) / 8 * 8
		for _, x := range put {
			left -= x.width
			checkGet(t, e, 0, 0, false, left+x.width)
			checkGet(t, e, x.width, x.n, true, left)
		}
		if left > 0 {
			checkGet(t, e, left, 0, true, 0)
		}
	}
}
