package lines

import (
	"fmt"
	"math/rand"
	"strings"
	"testing"
)

// Of P20.1: what a line's form is. What isn't of it tells what?, and turns nothing.

// lineOf is a line of a first word, with so many of a word behind it.
func lineOf(first string, many int, word string) string {
	return first + strings.Repeat(" "+word, many)
}

// counts are how many words may stand behind a first one.
func counts(first string) (int, int) {
	if first == "fate" {
		return 0, 12
	}
	return firsts[first], firsts[first]
}

// consoles are one without a ward and one with, each with the book beside it.
func consoles(t *testing.T) []*both {
	t.Helper()
	a, b := pair(t), pair(t)
	b.do("open 4 4 3")
	b.do("admit 1 1 2 1 5 1")
	b.do("turn")
	b.do("take 1 1 60")
	b.do("fate 3")
	return []*both{a, b}
}

// say says a line to all, and asks whether it is one.
func say(t *testing.T, all []*both, line string, isLine bool) {
	t.Helper()
	if form.MatchString(line) != isLine {
		t.Fatalf("%q: the tests' own form is wrong", line)
	}
	for _, p := range all {
		if told := p.do(line); (told != "what?") != isLine {
			t.Fatalf("%q: %q", line, told)
		}
	}
}

// How many words stand behind each first one.
func TestHowManyWords(t *testing.T) {
	for first := range firsts {
		least, most := counts(first)
		for many := range 30 {
			for _, word := range []string{"1", "0", "255"} {
				say(t, consoles(t), lineOf(first, many, word), many >= least && many <= most)
			}
		}
		say(t, consoles(t), lineOf(first, 100000, "1"), false)
	}
}

// One blank between two words, none ahead, none behind, nothing else between them.
func TestBlanks(t *testing.T) {
	for first := range firsts {
		least, _ := counts(first)
		line := lineOf(first, max(least, firsts[first]&1), "1")
		all := consoles(t)
		for _, wrong := range []string{" " + line, line + " ", "  " + line, line + "  ", line + "\n", "\n" + line, line + "\r", line + "\x00", line + ",", line + "\t", "\ufeff" + line, line + "\u00a0"} {
			say(t, all, wrong, false)
		}
		for i, r := range line {
			if r != ' ' {
				continue
			}
			for _, between := range []string{"  ", "\t", "\n", "", ",", ", ", " \t", "\u00a0", "\u2003", "\x00", "_"} {
				wrong := line[:i] + between + line[i+1:]
				say(t, all, wrong, false)
			}
		}
		say(t, all, line, true)
	}
}

// First words are just these.
func TestFirstWords(t *testing.T) {
	all := consoles(t)
	for first := range firsts {
		least, _ := counts(first)
		behind := strings.Repeat(" 1", least)
		for _, wrong := range []string{
			strings.ToUpper(first), strings.ToUpper(first[:1]) + first[1:], first[1:], first[:len(first)-1], first + first[len(first)-1:], first + ":", first + "s", "\x00" + first, first + "\x00", "1",
		} {
			say(t, all, wrong+behind, false)
			say(t, all, wrong, false)
		}
	}
	for _, wrong := range []string{"", " ", "  ", "\n", "0", "7", "what?", "ok", "none", "error 8", "error 11", "help", "quit", "now", "seen", "nothing", "turn turn", "status alarms", "open open", "\xff", "état"} {
		say(t, all, wrong, false)
	}
}

// Numbers: digits, no nought ahead of others, at most 99,999, of fates at most 255.
func TestNumbers(t *testing.T) {
	right := []string{"0", "1", "7", "9", "10", "99", "100", "254", "255"}
	greater := []string{"256", "257", "999", "1000", "9999", "10000", "65536", "99998", "99999"}
	wrong := []string{
		"", "00", "01", "007", "0000", "09", "010", "099999", "00000",
		"100000", "100001", "123456", "999999", "1000000", "4294967296", "4294967297", "2147483648",
		"9223372036854775807", "9223372036854775808", "18446744073709551616", "18446744073709551617", strings.Repeat("9", 1000), "1" + strings.Repeat("0", 1000), strings.Repeat("0", 1000) + "1",
		"-1", "-0", "+1", "+0", "--1", "-", "+", "-99999",
		"a", "x1", "1x", "0x1", "0b1", "0o7", "1e1", "1.0", "1.", ".1", "1,000", "1_000", "1_0", "٣", "３", "½", "²", "\x00", "1\x00", "\xff", "'1'", "\"1\"", "nil", "ok", "one", "Inf", "NaN", "0\n", "\n0",
	}
	for first := range firsts {
		least, most := counts(first)
		for place := range most {
			all := consoles(t)
			try := func(word string, isLine bool) {
				words := strings.Fields(strings.Repeat("1 ", max(least, place+1)))
				words[place] = word
				say(t, all, first+" "+strings.Join(words, " "), isLine)
			}
			for _, w := range right {
				try(w, true)
			}
			for _, w := range greater {
				try(w, first != "fate")
			}
			for _, w := range wrong {
				try(w, false)
			}
		}
	}
}

// Each number to some 100,000, by what is told of it.
func TestEachNumber(t *testing.T) {
	t.Parallel()
	c := opened(t, 1)
	for n := range 101000 {
		want := "ok"
		if n > 99999 {
			want = "what?"
		}
		if got := c.Do(fmt.Sprint("budget ", n)); got != want || n <= 99999 && c.next.Budget != n {
			t.Fatalf("budget %d: %q, %d", n, got, c.next.Budget)
		}
		if n < 1000 {
			want = "ok"
			if n > 255 {
				want = "what?"
			}
			if got := c.Do(fmt.Sprint("fate ", n)); got != want || n <= 255 && int(c.next.Fates[0]) != n {
				t.Fatalf("fate %d: %q, %d", n, got, c.next.Fates)
			}
		}
	}
}

// A line that is wrong behind right words turns nothing, wherever the wrong word stands.
func TestWhatIsNoLineTurnsNothing(t *testing.T) {
	for first := range firsts {
		_, most := counts(first)
		for place := range most {
			p := consoles(t)[1]
			state, next := stateOf(p.c.ward), turnOf(p.c.next)
			words := strings.Fields(strings.Repeat("2 ", most))
			words[place] = "x"
			p.do(first + " " + strings.Join(words, " "))
			if stateOf(p.c.ward) != state || turnOf(p.c.next) != next {
				t.Fatalf("%s: the word %d", first, place)
			}
		}
	}
}

// Lines whose bytes are drawn, or are those of lines, some of them turned: the form of the tests tells which are lines.
func TestDrawnForms(t *testing.T) {
	t.Parallel()
	r := rand.New(rand.NewSource(1))
	all := consoles(t)
	lines, not := 0, 0
	for i := range 60000 {
		line := []byte(newScript(r, 1+r.Intn(4)).line())
		for range r.Intn(4) {
			turned(r, &line)
		}
		isLine := form.Match(line)
		if isLine {
			lines++
		} else {
			not++
		}
		for _, p := range all {
			if told := p.do(string(line)); (told != "what?") != isLine {
				t.Fatalf("%q: %q", line, told)
			}
		}
		if i%100 == 0 {
			all = consoles(t)
		}
	}
	if lines < 5000 || not < 5000 {
		t.Errorf("%d lines, %d that are none", lines, not)
	}
}

// turned turns a byte, takes one out, or puts one in.
func turned(r *rand.Rand, line *[]byte) {
	const some = "0123456789 0 9  -+\t\nabcdeflnorstu\x00\xff"
	l := *line
	x := some[r.Intn(len(some))]
	i := r.Intn(len(l) + 1)
	switch kind := r.Intn(3); {
	case i == len(l) || kind == 0:
		l = append(l[:i:i], append([]byte{x}, l[i:]...)...)
	case kind == 1:
		l = append(l[:i:i], l[i+1:]...)
	default:
		l[i] = x
	}
	*line = l
}
