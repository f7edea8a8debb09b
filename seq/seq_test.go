package seq

import (
	"math"
	"math/rand"
	"testing"
)

// What is asked for is reckoned by the tests themselves: by going on step by step, with the document's numbers written out.

// noGroups are numbers that are no groups: those beside either end, and far from both.
var noGroups = []int{math.MinInt, math.MinInt + 1, math.MinInt32, -4096, -257, -256, -255, -128, -4, -2, -1, 256, 257, 258, 259, 260, 384, 511, 512, 4095, 4096, math.MaxInt32, math.MaxInt - 1, math.MaxInt}

var noPlaces = []int{math.MinInt, math.MinInt + 1, -256, -17, -16, -15, -2, -1, 16, 17, 31, 32, 255, 256, math.MaxInt - 1, math.MaxInt}

// onward is the group behind one.
func onward(group int) int {
	if group == 255 {
		return 0
	}
	return group + 1
}

// backward is the group ahead of one.
func backward(group int) int {
	if group == 0 {
		return 255
	}
	return group - 1
}

// steps is how many steps it is from one group on to another one.
func steps(from, to int) int {
	many := 0
	for ; from != to; from = onward(from) {
		many++
	}
	return many
}

// numbers are some of all sizes: those beside powers of two, above and below 0, and drawn ones.
func numbers() []int {
	list := []int{0, math.MinInt, math.MaxInt}
	for shift := range 63 {
		for d := -5; d <= 5; d++ {
			list = append(list, 1<<shift+d, -(1<<shift)+d)
		}
	}
	draw := rand.New(rand.NewSource(6))
	for range 500 {
		list = append(list, int(draw.Uint64())>>draw.Intn(64))
	}
	return list
}

func TestMake(t *testing.T) {
	want := 0
	for group := range 256 {
		for place := range 16 {
			if got, ok := Make(group, place); got != want || !ok {
				t.Fatalf("Make(%d, %d): %d, %v, not %d", group, place, got, ok, want)
			}
			want++
		}
	}
	if got, ok := Make(18, 5); got != 18*16+5 || !ok {
		t.Error(got, ok)
	}
}

func wantNotMade(t *testing.T, group, place int) {
	t.Helper()
	if got, ok := Make(group, place); got != 0 || ok {
		t.Errorf("Make(%d, %d): %d, %v", group, place, got, ok)
	}
}

func TestMakeOfNone(t *testing.T) {
	for _, group := range noGroups {
		for place := range 16 {
			wantNotMade(t, group, place)
		}
		for _, place := range noPlaces {
			wantNotMade(t, group, place)
		}
	}
	for _, place := range noPlaces {
		for group := range 256 {
			wantNotMade(t, group, place)
		}
	}
}

func TestSplit(t *testing.T) {
	number := 0
	for group := range 256 {
		for place := range 16 {
			if g, p, ok := Split(number); g != group || p != place || !ok {
				t.Fatalf("Split(%d): %d, %d, %v, not %d, %d", number, g, p, ok, group, place)
			}
			number++
		}
	}
	if number != 4096 {
		t.Fatal(number)
	}
}

func TestSplitOfNone(t *testing.T) {
	list := append(numbers(), -1, -2, -15, -16, -17, -4095, -4096, 4096, 4097, 4111, 4112, 8191, 8192)
	for _, number := range list {
		if number >= 0 && number <= 4095 {
			continue
		}
		if g, p, ok := Split(number); g != 0 || p != 0 || ok {
			t.Errorf("Split(%d): %d, %d, %v", number, g, p, ok)
		}
	}
}

func TestMakeAndSplitTurnBack(t *testing.T) {
	for number := range 4096 {
		g, p, _ := Split(number)
		if got, ok := Make(g, p); got != number || !ok {
			t.Errorf("Make(%d, %d): %d, %v, not %d", g, p, got, ok, number)
		}
	}
}

func TestFarOpenBehindOfEveryTwoGroups(t *testing.T) {
	for base := range 256 {
		for group := range 256 {
			want := steps(base, group)
			if got := Far(base, group); got != want {
				t.Fatalf("Far(%d, %d): %d, not %d", base, group, got, want)
			}
			if got := Open(base, group); got != (want < 4) {
				t.Fatalf("Open(%d, %d): %v, %d far", base, group, got, want)
			}
			if got := Behind(base, group); got != (want >= 128) {
				t.Fatalf("Behind(%d, %d): %v, %d far", base, group, got, want)
			}
		}
	}
}

func TestFarOpenBehindAtTheirEdges(t *testing.T) {
	for _, x := range []struct {
		base, group, far int
		open, behind     bool
	}{
		{254, 1, 3, true, false}, // the chapter's example
		{7, 7, 0, true, false},
		{7, 10, 3, true, false},
		{7, 11, 4, false, false},
		{7, 134, 127, false, false},
		{7, 135, 128, false, true},
		{7, 6, 255, false, true},
		{0, 255, 255, false, true},
		{255, 0, 1, true, false},
		{255, 2, 3, true, false},
		{255, 3, 4, false, false},
		{200, 71, 127, false, false},
		{200, 72, 128, false, true},
	} {
		if far, open, behind := Far(x.base, x.group), Open(x.base, x.group), Behind(x.base, x.group); far != x.far || open != x.open || behind != x.behind {
			t.Errorf("%d, %d: %d, %v, %v", x.base, x.group, far, open, behind)
		}
	}
}

func wantNoneFar(t *testing.T, base, group int) {
	t.Helper()
	if got := Far(base, group); got != -1 {
		t.Errorf("Far(%d, %d): %d, not -1", base, group, got)
	}
	if Open(base, group) {
		t.Errorf("Open(%d, %d)", base, group)
	}
	if Behind(base, group) {
		t.Errorf("Behind(%d, %d)", base, group)
	}
}

func TestFarOpenBehindOfNone(t *testing.T) {
	for _, none := range noGroups {
		for group := range 256 {
			wantNoneFar(t, none, group)
			wantNoneFar(t, group, none)
		}
		for _, other := range noGroups {
			wantNoneFar(t, none, other)
		}
	}
}

func TestNext(t *testing.T) {
	for group := range 256 {
		behind, ahead := group, group
		for n := range 1200 {
			if got := Next(group, n); got != behind {
				t.Fatalf("Next(%d, %d): %d, not %d", group, n, got, behind)
			}
			if got := Next(group, -n); got != ahead {
				t.Fatalf("Next(%d, %d): %d, not %d", group, -n, got, ahead)
			}
			behind, ahead = onward(behind), backward(ahead)
		}
	}
}

// TestNextOfGreatNumbers: 256 divides one more than MaxInt, and MinInt, so that the former is one step ahead, the latter none; of others the low byte of the number counts.
func TestNextOfGreatNumbers(t *testing.T) {
	for group := range 256 {
		if got := Next(group, math.MaxInt); got != backward(group) {
			t.Errorf("Next(%d, MaxInt): %d", group, got)
		}
		if got := Next(group, math.MinInt); got != group {
			t.Errorf("Next(%d, MinInt): %d", group, got)
		}
		if got := Next(group, math.MinInt+1); got != onward(group) {
			t.Errorf("Next(%d, MinInt+1): %d", group, got)
		}
		for _, n := range numbers() {
			if got, want := Next(group, n), int(byte(group)+byte(n)); got != want {
				t.Fatalf("Next(%d, %d): %d, not %d", group, n, got, want)
			}
		}
	}
}

func TestNextOfNone(t *testing.T) {
	for _, none := range noGroups {
		for n := -600; n <= 600; n++ {
			if got := Next(none, n); got != -1 {
				t.Fatalf("Next(%d, %d): %d", none, n, got)
			}
		}
		for _, n := range numbers() {
			if got := Next(none, n); got != -1 {
				t.Fatalf("Next(%d, %d): %d", none, n, got)
			}
		}
	}
}

func TestNeverOpenAndBehind(t *testing.T) {
	for base := range 256 {
		open, behind := 0, 0
		for group := range 256 {
			if Open(base, group) && Behind(base, group) {
				t.Errorf("%d is both open and behind from %d", group, base)
			}
			if Open(base, group) {
				open++
			}
			if Behind(base, group) {
				behind++
			}
		}
		if open != 4 || behind != 128 {
			t.Errorf("from %d: %d open, %d behind", base, open, behind)
		}
	}
}

func TestNextByFarIsTheGroup(t *testing.T) {
	for base := range 256 {
		for group := range 256 {
			if got := Next(base, Far(base, group)); got != group {
				t.Errorf("Next(%d, Far(%d, %d)): %d", base, base, group, got)
			}
		}
	}
}

// TestAnyNumbers: whatever is handed in, every call ends, and answers what may be answered.
func TestAnyNumbers(t *testing.T) {
	list := numbers()
	for _, a := range list {
		isGroup := a >= 0 && a <= 255
		if g, p, ok := Split(a); ok != (a >= 0 && a <= 4095) || g < 0 || g > 255 || p < 0 || p > 15 {
			t.Fatalf("Split(%d): %d, %d, %v", a, g, p, ok)
		}
		for _, b := range list {
			if n, ok := Make(a, b); ok != (isGroup && b >= 0 && b <= 15) || n < 0 || n > 4095 {
				t.Fatalf("Make(%d, %d): %d, %v", a, b, n, ok)
			}
			both := isGroup && b >= 0 && b <= 255
			if far := Far(a, b); far < -1 || far > 255 || (far == -1) == both {
				t.Fatalf("Far(%d, %d): %d", a, b, far)
			}
			if !both && (Open(a, b) || Behind(a, b)) {
				t.Fatalf("of %d and %d one is no group, yet one is open or behind", a, b)
			}
			if next := Next(a, b); next < -1 || next > 255 || (next == -1) == isGroup {
				t.Fatalf("Next(%d, %d): %d", a, b, next)
			}
		}
	}
}
