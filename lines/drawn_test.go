package lines

import (
	"fmt"
	"math/rand"
	"strings"
	"testing"
)

// script draws lines of a ward of so many devices: right ones, and some that aren't.
type script struct {
	r       *rand.Rand
	devices int
	periods []int
	busy    bool     // many samples, of which few are released
	kind    int      // of times: of fates
	first   []string // lines that come ahead of others
}

func newScript(r *rand.Rand, devices int) *script {
	s := &script{r: r, devices: devices, periods: []int{1, 2, 3, 4, 5, 6, 60}}
	if s.seldom(3) {
		s.periods, s.busy = []int{30, 60}, true
	}
	return s
}

// seldom is true once in so many.
func (s *script) seldom(many int) bool { return s.r.Intn(many) == 0 }

// of is one of some numbers.
func (s *script) of(n ...int) int { return n[s.r.Intn(len(n))] }

// words is a line of a first word and numbers, one of which may be any.
func (s *script) words(first string, n ...int) string {
	if len(n) > 0 && s.seldom(60) {
		n[s.r.Intn(len(n))] = s.of(0, 1, 2, 3, 4, 5, 255, 256, 1000, 1001, 10000, 10001, 65536, 99999, 100000)
	}
	line := first
	for _, x := range n {
		line += fmt.Sprint(" ", x)
	}
	return line
}

// line is the next one.
func (s *script) line() string {
	r := s.r
	if len(s.first) > 0 {
		line := s.first[0]
		s.first = s.first[1:]
		return line
	}
	switch {
	case s.busy && s.seldom(2):
		return s.words("take", r.Intn(s.devices), s.of(1, 2, 3, 4, 5), r.Intn(20))
	case s.seldom(3):
		return "turn"
	case s.seldom(3):
		return s.asks()
	case s.seldom(2):
		return s.words("take", r.Intn(s.devices+1), s.of(1, 1, 2, 3, 4, 5, 5, 5), r.Intn(20))
	case s.seldom(2):
		return s.commands()
	case s.seldom(4):
		return s.words("reset", r.Intn(s.devices+1))
	case s.seldom(2):
		return s.words("budget", s.of(0, 0, 0, 1, 2, 3, 4, 5, 10, 99999))
	case s.seldom(30):
		return s.open()
	case s.seldom(30):
		return s.of2("", "turn 1", "status ", "nothing", "bed", "fate -1", "take 0 1 01", "open 1 4 0", "open 0 4 3")
	}
	return s.fates()
}

func (s *script) of2(l ...string) string { return l[s.r.Intn(len(l))] }

// open is a new ward; most often beds come then, one of each device.
func (s *script) open() string {
	s.first = nil
	for i := range s.r.Intn(s.devices + 1) {
		s.first = append(s.first, s.words("admit", i, i, s.of(s.periods...), 1, s.of(3, 5, 10, 1000), s.r.Intn(4)))
	}
	return s.words("open", s.devices, s.r.Intn(8), 1+s.r.Intn(4))
}

func (s *script) asks() string {
	return s.of2("status", "alarms", fmt.Sprint("bed ", s.r.Intn(6)))
}

func (s *script) commands() string {
	r := s.r
	id := r.Intn(5)
	switch r.Intn(12) {
	case 0:
		if s.seldom(3) {
			return s.words("discharge", id)
		}
		return s.words("ack", id, r.Intn(5))
	case 1, 2:
		return s.words("ack", id, r.Intn(5))
	case 3:
		return s.words("silence", r.Intn(20))
	case 4, 5, 6, 7:
		return s.words("limit", id, 1+r.Intn(4), r.Intn(10), 8+r.Intn(12), 1+r.Intn(2))
	}
	return s.words("admit", id, r.Intn(s.devices+1), s.of(s.periods...), 1+r.Intn(3), s.of(1, 3, 5, 10, 1000), r.Intn(4))
}

// fates are of good times, of bad ones, or of all kinds.
func (s *script) fates() string {
	if s.seldom(3) {
		s.kind = s.r.Intn(4)
	}
	var n []int
	for range s.r.Intn(13) {
		switch s.kind {
		case 0:
			n = append(n, s.of(0, 1, 2, 3, 8, 128))
		case 1:
			n = append(n, 4)
		case 2:
			n = append(n, s.of(0, 0, 4))
		default:
			n = append(n, s.r.Intn(256))
		}
	}
	return s.words("fate", n...)
}

// P20.2: what is told of a ward by words is what its calls tell: the same is said to a console and to the book, which turns a ward of its own by its calls.
func TestWhatIsTold(t *testing.T) {
	t.Parallel()
	kinds, levels, seen := map[string]int{}, map[string]int{}, map[string]int{}
	for seed := range 120 {
		r := rand.New(rand.NewSource(int64(seed)))
		s := newScript(r, 1+r.Intn(4))
		p := pair(t)
		for i := range 400 {
			line := s.line()
			if i > 3 && p.b.w == nil {
				line = s.open()
			}
			count(line, p.do(line), kinds, levels, seen)
		}
	}
	for kind := 1; kind <= 12; kind++ {
		if k := fmt.Sprint(kind); kinds[k] < 20 {
			t.Errorf("events of the kind %s: %d", k, kinds[k])
		}
	}
	for level := range 4 {
		if l := fmt.Sprint(level); levels[l] < 10 {
			t.Errorf("beds of the level %s: %d", l, levels[l])
		}
	}
	for _, what := range []string{"ok", "none", "error 1", "error 8", "error 11", "what?", "alarm", "bits 0 0", "bits 1 0", "bits 1 1", "lost 0", "lost 1", "alarms", "waits", "points", "numeric", "waves"} {
		if seen[what] < 10 {
			t.Errorf("%s was told %d times", what, seen[what])
		}
	}
	if seen["bits 0 1"] > 0 {
		t.Error("an alarm is shown that was cleared and acknowledged")
	}
}

// count notes what was told.
func count(line, told string, kinds, levels, seen map[string]int) {
	seen[told]++
	switch first, _, _ := strings.Cut(line, " "); {
	case told == "none" || strings.HasPrefix(told, "error") || told == "what?":
	case first == "turn":
		for _, e := range strings.Split(told, ", ") {
			kind, _, _ := strings.Cut(e, " ")
			kinds[kind]++
		}
	case first == "alarms":
		l := strings.Split(told, ", ")
		if len(l) > 1 {
			seen["alarms"]++
		}
		for _, a := range l {
			words := strings.Split(a, " ")
			seen["alarm"]++
			seen["bits "+words[3]+" "+words[4]]++
		}
	case first == "bed":
		words := strings.Split(told, " ")
		levels[words[1]]++
		seen["lost "+words[3]]++
		for _, i := range []int{4, 6} {
			if words[i+1] != "0" {
				seen[words[i]]++
			}
		}
	case first == "status":
		words := strings.Split(told, " ")
		for i, name := range []string{"numeric", "waves"} {
			if words[9+i] != "0" {
				seen[name]++
			}
		}
	}
}

// P20.2, of the console's own ward: behind each line status, alarms and each bed tell what its calls tell.
func TestWhatIsToldOfTheWard(t *testing.T) {
	t.Parallel()
	for seed := range 40 {
		r := rand.New(rand.NewSource(int64(1000 + seed)))
		s := newScript(r, 1+r.Intn(4))
		c := opened(t, s.devices)
		for range 200 {
			line := s.line()
			c.Do(line)
			for ask, want := range map[string]string{"status": statusOf(c.ward), "alarms": alarmsOf(c.ward)} {
				if got := c.Do(ask); got != want {
					t.Fatalf("behind %s: %s: %q, not %q", line, ask, got, want)
				}
			}
			for id := range 7 {
				if got, want := c.Do(fmt.Sprint("bed ", id)), bedOf(c.ward, id); got != want {
					t.Fatalf("behind %s: bed %d: %q, not %q", line, id, got, want)
				}
			}
		}
	}
}

// telling are lines that tell, and those that are refused: they turn nothing.
func (s *script) telling() string {
	switch s.r.Intn(8) {
	case 0:
		return s.of2("", "nothing", "turn ", "turn 1", "budget 100000", "fate 256", "fate 0 0 0 0 0 0 0 0 0 0 0 0 0", "take 0 1 01", "admit 1 2 3 4 5 x", "open 1 4", "reset", "status status")
	case 1:
		return s.of2("open 0 4 3", "open 5 4 3", "open 2 10001 3", "open 1 4 0")
	case 2:
		return s.of2("take 4 1 60", "take 99999 1 60", "reset 4", "reset 99999", "bed 99999")
	}
	return s.asks()
}

// P20.3: lines that tell turn nothing: with them or without, the others come to the same.
func TestTellingTurnsNothing(t *testing.T) {
	t.Parallel()
	for seed := range 60 {
		r := rand.New(rand.NewSource(int64(2000 + seed)))
		s := newScript(r, 1+r.Intn(4))
		asked, left := New(), New()
		for i := range 400 {
			line := s.line()
			if i == 5 {
				line = fmt.Sprintf("open %d 4 3", s.devices)
			}
			for range r.Intn(4) {
				ask := s.telling()
				state, next := stateOf(asked.ward), turnOf(asked.next)
				told := asked.Do(ask)
				if again := asked.Do(ask); again != told {
					t.Fatalf("%s: %q, and again: %q", ask, told, again)
				}
				if stateOf(asked.ward) != state || turnOf(asked.next) != next {
					t.Fatalf("%s turns the ward, or its next turn", ask)
				}
			}
			if x, y := asked.Do(line), left.Do(line); x != y || stateOf(asked.ward) != stateOf(left.ward) {
				t.Fatalf("seed %d, %s: %q, and with what tells between: %q", seed, line, y, x)
			}
		}
	}
}

// P20.3, and rule 6: the same lines come to the same, whatever was said to other consoles in between.
func TestTheSameLines(t *testing.T) {
	t.Parallel()
	for seed := range 40 {
		r := rand.New(rand.NewSource(int64(3000 + seed)))
		s := newScript(r, 1+r.Intn(4))
		lines := []string{s.line(), fmt.Sprintf("open %d 4 3", s.devices)}
		for range 300 {
			lines = append(lines, s.line())
		}
		first, second := New(), New()
		var told []string
		for _, line := range lines {
			told = append(told, first.Do(line))
		}
		for i, line := range lines {
			other := opened(t, 1+r.Intn(4))
			other.Do(s.line())
			if got := second.Do(line); got != told[i] {
				t.Fatalf("seed %d, line %d, %s: %q, not %q", seed, i, line, got, told[i])
			}
			other.Do("turn")
		}
		if stateOf(first.ward) != stateOf(second.ward) || turnOf(first.next) != turnOf(second.next) {
			t.Fatalf("seed %d: the same lines come to another ward", seed)
		}
	}
}
