package lines

import (
	"fmt"
	"regexp"
	"strings"
	"testing"

	"gurney/api"
	"gurney/ward"
)

// plain is the config of the chapter's row of open.
func plain(capacity, calm int) api.Conf {
	return api.Conf{
		Roam:     api.Roam{Room: 8, Age: 50, Margin: 5},
		Link:     api.Link{Code: api.Code{K: 2, N: 3, Size: 8}, Wait: 2, Most: 3},
		Capacity: capacity, Calm: calm, Ahead: 2,
	}
}

// talk says each line of a script to a console: a line, ": ", what is told.
func talk(t *testing.T, c *Console, script string) {
	t.Helper()
	for i, l := range strings.Split(strings.TrimSpace(script), "\n") {
		line, want, is := strings.Cut(strings.TrimSpace(l), ": ")
		if !is {
			t.Fatalf("%q is no line of a script", l)
		}
		if got := c.Do(line); got != want {
			t.Fatalf("%d, %s: %q, not %q", i, line, got, want)
		}
	}
}

// opened is a console with a ward of so many devices.
func opened(t *testing.T, devices int) *Console {
	t.Helper()
	c := New()
	talk(t, c, fmt.Sprintf("open %d 4 3: ok", devices))
	return c
}

// firsts are the first words, with how many numbers stand behind each in its row; -1: 0 to 12.
var firsts = map[string]int{
	"open": 3, "admit": 6, "discharge": 1, "ack": 2, "silence": 1, "limit": 5, "take": 3,
	"budget": 1, "fate": -1, "reset": 1, "turn": 0, "status": 0, "bed": 1, "alarms": 0,
}

// form is that of all lines.
var form = regexp.MustCompile(`\A(` +
	`(turn|status|alarms)` +
	`|(discharge|silence|budget|reset|bed)` + aNumber +
	`|ack` + aNumber + aNumber +
	`|(open|take)` + aNumber + aNumber + aNumber +
	`|limit` + aNumber + aNumber + aNumber + aNumber + aNumber +
	`|admit` + aNumber + aNumber + aNumber + aNumber + aNumber + aNumber +
	`|fate( ([0-9]|[1-9][0-9]|1[0-9][0-9]|2[0-4][0-9]|25[0-5])){0,12}` +
	`)\z`)

// aNumber is a blank, and a number.
const aNumber = ` (0|[1-9][0-9]{0,4})`

// said is a line, its first word and its numbers.
type said struct {
	first string
	n     []int
}

// book is the tests' own console: it keeps all lines since the ward was opened, and lays each turn out of them anew.
type book struct {
	w        *ward.Ward
	devices  int
	capacity int
	lines    []said
	turned   int // how many lines stand up to the last turn
}

func read(line string) said {
	words := strings.Fields(line)
	s := said{first: words[0]}
	for _, w := range words[1:] {
		n := 0
		for _, digit := range w {
			n = 10*n + int(digit-'0')
		}
		s.n = append(s.n, n)
	}
	return s
}

// do is what a line tells.
func (b *book) do(line string) string {
	if !form.MatchString(line) {
		return "what?"
	}
	s := read(line)
	if s.first == "open" {
		return b.open(s.n)
	}
	if b.w == nil {
		return "error 11"
	}
	switch s.first {
	case "take", "reset":
		if s.n[0] >= b.devices {
			return "error 8"
		}
	case "status":
		return statusOf(b.w)
	case "bed":
		return bedOf(b.w, s.n[0])
	case "alarms":
		return alarmsOf(b.w)
	case "turn":
		events := b.w.Do(b.turn())
		b.turned = len(b.lines)
		return eventsOf(events)
	}
	b.lines = append(b.lines, s)
	return "ok"
}

func (b *book) open(n []int) string {
	w := ward.New(plain(n[1], n[2]), n[0])
	if w == nil {
		return "error 1"
	}
	*b = book{w: w, devices: n[0], capacity: n[1]}
	return "ok"
}

// turn is the next one.
func (b *book) turn() api.Turn {
	t := api.Turn{Budget: b.capacity, Samples: make([][]api.Sample, b.devices)}
	for i, s := range b.lines {
		switch {
		case s.first == "budget":
			t.Budget = s.n[0]
		case s.first == "fate":
			t.Fates = make([]byte, len(s.n))
			for i, n := range s.n {
				t.Fates[i] = byte(n)
			}
		case i >= b.turned:
			b.lay(&t, s)
		}
	}
	return t
}

// lay is what is for one turn alone.
func (b *book) lay(t *api.Turn, s said) {
	n := s.n
	switch s.first {
	case "take":
		t.Samples[n[0]] = append(t.Samples[n[0]], api.Sample{Kind: n[1], At: b.w.Station().Now() & 255, Value: n[2]})
	case "reset":
		t.Reset = 1 + n[0]
	case "admit":
		t.Cmds = append(t.Cmds, api.Cmd{Kind: 1, Bed: api.Bed{Id: n[0], Tx: n[1], Period: n[2], Cost: n[3], Watch: n[4], Prio: n[5]}})
	case "discharge":
		t.Cmds = append(t.Cmds, api.Cmd{Kind: 2, A: n[0]})
	case "limit":
		t.Cmds = append(t.Cmds, api.Cmd{Kind: 3, Limit: api.Limit{Bed: n[0], Kind: n[1], From: n[2], To: n[3], Count: n[4]}})
	case "ack":
		t.Cmds = append(t.Cmds, api.Cmd{Kind: 4, A: n[0], B: n[1]})
	case "silence":
		t.Cmds = append(t.Cmds, api.Cmd{Kind: 5, A: n[0]})
	}
}

func statusOf(w *ward.Ward) string {
	s := w.Station()
	numeric, waves := s.Left()
	return fmt.Sprintf("now %d beds %d alarms %d follows %d left %d %d", s.Now(), len(s.Beds()), len(s.Alarms()), len(s.Follows()), numeric, waves)
}

func bedOf(w *ward.Ward, id int) string {
	s := w.Station()
	for _, b := range s.Beds() {
		if b.Id == id {
			lost := map[bool]int{true: 1}[s.Lost(id)]
			waits, points, seen := s.Waits(id)
			return fmt.Sprintf("level %d lost %d waits %d points %d seen %d", s.Level(id), lost, waits, points, seen)
		}
	}
	return "error 8"
}

func alarmsOf(w *ward.Ward) string {
	told := ""
	for _, a := range w.Station().Alarms() {
		bits := map[bool]int{true: 1}
		told += fmt.Sprintf(", %d %d %d %d %d", a.Bed, a.Kind, a.Since, bits[a.On], bits[a.Acked])
	}
	return listOf(told)
}

func eventsOf(events []api.Event) string {
	told := ""
	for _, e := range events {
		told += fmt.Sprintf(", %d %d %d %d", e.Kind, e.A, e.B, e.C)
	}
	return listOf(told)
}

// listOf is a list of which each part has a comma and a blank ahead.
func listOf(told string) string {
	if told == "" {
		return "none"
	}
	return told[2:]
}

// stateOf is all that a ward tells of itself.
func stateOf(w *ward.Ward) string {
	if w == nil {
		return ""
	}
	s := w.Station()
	l := fmt.Sprint(statusOf(w), s.Beds(), s.Alarms(), s.Sounds(), s.Follows())
	for _, b := range s.Beds() {
		l += "; " + bedOf(w, b.Id)
	}
	for i := range 4 {
		d := w.Device(i)
		l += fmt.Sprint("; ", d.Kept(), d.Out(), d.Lost(), d.Session())
	}
	in, out := w.Late()
	return l + fmt.Sprint("; ", in, out)
}

// turnOf is a turn as text, nil and empty lists alike, without empty lists at the end of the samples.
func turnOf(t api.Turn) string {
	for len(t.Samples) > 0 && len(t.Samples[len(t.Samples)-1]) == 0 {
		t.Samples = t.Samples[:len(t.Samples)-1]
	}
	return fmt.Sprintf("%v", t)
}

// both is a console and the book, to which the same lines are said.
type both struct {
	t *testing.T
	c *Console
	b *book
}

func pair(t *testing.T) *both {
	t.Helper()
	return &both{t: t, c: New(), b: &book{}}
}

// do holds what the two tell of a line, and what they are behind it, against each other.
func (p *both) do(line string) string {
	p.t.Helper()
	got, want := p.c.Do(line), p.b.do(line)
	if got != want {
		p.t.Fatalf("%q: %q, not %q", line, got, want)
	}
	p.check(line)
	return got
}

func (p *both) check(line string) {
	p.t.Helper()
	if got, want := stateOf(p.c.ward), stateOf(p.b.w); got != want {
		p.t.Fatalf("behind %q the ward is %s, not %s", line, got, want)
	}
	if p.b.w == nil {
		return
	}
	if got, want := turnOf(p.c.next), turnOf(p.b.turn()); got != want {
		p.t.Fatalf("behind %q the next turn is %s, not %s", line, got, want)
	}
}
