package lines

import (
	"fmt"
	"math/rand"
	"strings"
	"testing"
	"unsafe"

	"gurney/api"
)

// Rule 1: any bytes.
func TestAnyLines(t *testing.T) {
	t.Parallel()
	r := rand.New(rand.NewSource(1))
	var none *Console
	all := consoles(t)
	for range 20000 {
		b := make([]byte, r.Intn(30))
		r.Read(b)
		line := string(b)
		for _, p := range all {
			if told := p.do(line); told != "what?" && !form.MatchString(line) {
				t.Fatalf("%q: %q", line, told)
			}
		}
		if told := none.Do(line); told != "what?" {
			t.Fatalf("nil: %q: %q", line, told)
		}
	}
	for first := range 256 {
		for second := range 256 {
			if told := all[1].c.Do(string([]byte{byte(first), byte(second)})); told != "what?" {
				t.Fatalf("%d %d: %q", first, second, told)
			}
		}
	}
}

// Rule 1: lines that are long.
func TestLongLines(t *testing.T) {
	all := consoles(t)
	const long = 1 << 20
	for _, line := range []string{
		strings.Repeat(" ", long), strings.Repeat("a", long), strings.Repeat("fate ", long/5), strings.Repeat("9", long),
		"fate" + strings.Repeat(" 0", long), "budget " + strings.Repeat("9", long), "budget " + strings.Repeat("0", long), "turn" + strings.Repeat("\n", long), "turn" + strings.Repeat(" ", long),
	} {
		say(t, all, line, false)
	}
}

// Rule 1: each line with any numbers in each place.
func TestAnyNumbers(t *testing.T) {
	t.Parallel()
	r := rand.New(rand.NewSource(2))
	numbers := []int{0, 0, 1, 1, 2, 3, 4, 5, 6, 7, 8, 60, 99, 100, 101, 127, 255, 256, 257, 999, 1000, 1001, 9999, 10000, 10001, 65535, 65536, 99998, 99999}
	var all []string
	for first := range firsts {
		all = append(all, first)
	}
	for range 300 {
		p := pair(t)
		p.do(fmt.Sprintf("open %d %d %d", 1+r.Intn(4), r.Intn(10), 1+r.Intn(5)))
		for range 60 {
			first := all[r.Intn(len(all))]
			least, most := counts(first)
			line := first
			for range least + r.Intn(most-least+1) {
				line += fmt.Sprint(" ", numbers[r.Intn(len(numbers))])
			}
			p.do(line)
		}
	}
}

// Rule 1: very many commands and samples for one turn.
func TestManyLinesForOneTurn(t *testing.T) {
	t.Parallel()
	c := opened(t, 4)
	for i := range 20000 {
		for _, line := range []string{fmt.Sprint("admit ", i%100, i%9, " 1 1 1 1"), fmt.Sprint("take ", i%4, " 1 60"), fmt.Sprint("reset ", i%4), fmt.Sprint("budget ", i), "fate 0 1 2"} {
			c.Do(line)
		}
	}
	if told := c.Do("turn"); strings.Count(told, ", ")+1 < 20000 {
		t.Errorf("%d events", strings.Count(told, ", ")+1)
	}
	if got := turnOf(c.next); got != turnOf(api.Turn{Budget: 19999, Fates: []byte{0, 1, 2}}) {
		t.Errorf("the next turn is %s", got)
	}
}

// Rule 3: no fates are none, as ahead of the first line of them.
func TestNoFates(t *testing.T) {
	a, b := opened(t, 2), opened(t, 2)
	talk(t, a, "fate 4: ok\nfate: ok")
	for range 5 {
		if x, y := a.Do("turn"), b.Do("turn"); x != y || stateOf(a.ward) != stateOf(b.ward) {
			t.Errorf("%q, not %q", x, y)
		}
	}
}

// Rule 4: a line isn't kept: the bytes that it stood in may turn behind it.
func TestLinesAreNotKept(t *testing.T) {
	t.Parallel()
	for seed := range 10 {
		r := rand.New(rand.NewSource(int64(4000 + seed)))
		s := newScript(r, 2)
		a, b := opened(t, 2), opened(t, 2)
		var told, was []string
		for range 300 {
			line := s.line()
			bytes := []byte(line)
			got, want := a.Do(unsafe.String(unsafe.SliceData(bytes), len(bytes))), b.Do(line)
			if string(bytes) != line {
				t.Fatalf("%q was turned: %q", line, bytes)
			}
			for i := range bytes {
				bytes[i] = '7'
			}
			if got != want || stateOf(a.ward) != stateOf(b.ward) || turnOf(a.next) != turnOf(b.next) {
				t.Fatalf("seed %d, %s: %q, not %q", seed, line, got, want)
			}
			told, was = append(told, got), append(was, strings.Clone(got))
		}
		for i, x := range told {
			if x != was[i] {
				t.Fatalf("an answer was turned: %q, not %q", x, was[i])
			}
		}
	}
}

// Rule 6: consoles side by side turn nothing of each other.
func TestSideBySide(t *testing.T) {
	t.Parallel()
	for seed := range 10 {
		var scripts []*script
		var pairs []*both
		for i := range 4 {
			r := rand.New(rand.NewSource(int64(5000 + 10*seed + i)))
			scripts, pairs = append(scripts, newScript(r, 1+i)), append(pairs, pair(t))
			pairs[i].do(fmt.Sprintf("open %d 4 3", 1+i))
		}
		for range 150 {
			for i, s := range scripts {
				pairs[i].do(s.line())
			}
			for _, p := range pairs {
				p.check("lines to others")
			}
		}
	}
}
