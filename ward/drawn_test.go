package ward

import (
	"math/rand"
	"testing"

	"gurney/api"
)

// What is done is drawn: samples, right and wrong; commands of all kinds; Budgets that go up and down; fates that go through good times and bad ones; and devices that begin anew.

// script draws turns.
type script struct {
	r       *rand.Rand
	c       api.Conf
	devices int
	busy    int // samples a turn, about
	kind    int // of times
	budget  int
	watch   int // the greatest Watch of beds
}

func newScript(r *rand.Rand) *script {
	s := &script{r: r, c: drawConf(r), devices: 1 + r.Intn(4), busy: 1 + r.Intn(5), watch: 1 + r.Intn(20)}
	s.budget = s.c.Capacity
	return s
}

func drawConf(r *rand.Rand) api.Conf {
	k := 1 + r.Intn(3)
	return api.Conf{
		Roam:     api.Roam{Room: 1 + max(r.Intn(8), r.Intn(8)), Age: 1 + r.Intn(30), Margin: r.Intn(20)},
		Link:     api.Link{Code: api.Code{K: k, N: k + r.Intn(3), Size: 4 + r.Intn(21)}, Wait: 1 + r.Intn(4), Most: 1 + r.Intn(4)},
		Capacity: r.Intn(20), Calm: 1 + r.Intn(5), Ahead: 1 + r.Intn(3),
	}
}

// seldom is true once in so many.
func (s *script) seldom(many int) bool { return s.r.Intn(many) == 0 }

func (s *script) number() int { return numbers[s.r.Intn(len(numbers))] }

func (s *script) sample() api.Sample {
	x := api.Sample{Kind: 1 + s.r.Intn(4), At: s.r.Intn(256), Value: s.r.Intn(20)}
	switch {
	case s.seldom(2):
		x.Kind = 5
	case s.seldom(30):
		x.Kind = s.number()
	case s.seldom(30):
		x.Value = s.number()
	}
	return x
}

func (s *script) samples() [][]api.Sample {
	l := make([][]api.Sample, s.r.Intn(s.devices+2))
	for i := range l {
		for range s.r.Intn(2 * s.busy) {
			l[i] = append(l[i], s.sample())
		}
		if s.seldom(100) {
			for range 70 {
				l[i] = append(l[i], s.sample())
			}
		}
	}
	return l
}

func (s *script) bed() api.Bed {
	periods := []int{1, 1, 2, 3, 4, 5, 6, 10, 12, 7}
	return api.Bed{Id: s.r.Intn(6), Tx: s.r.Intn(s.devices + 1), Period: periods[s.r.Intn(len(periods))], Cost: 1 + s.r.Intn(5), Watch: 1 + s.r.Intn(s.watch), Prio: s.r.Intn(4)}
}

func (s *script) cmd() api.Cmd {
	c := api.Cmd{A: s.r.Intn(6), B: s.r.Intn(5), Bed: s.bed(), Limit: api.Limit{Bed: s.r.Intn(6), Kind: 1 + s.r.Intn(4), From: s.r.Intn(10), To: 8 + s.r.Intn(12), Count: 1 + s.r.Intn(3)}}
	c.Kind = []int{1, 1, 1, 1, 2, 3, 3, 3, 4, 4, 5}[s.r.Intn(11)]
	switch {
	case s.seldom(30):
		c.Kind = s.number()
	case s.seldom(30):
		c.A = s.number()
	}
	return c
}

// fate is one of a kind of times: good ones, those in which some is lost, those of all kinds, those in which all is lost.
func (s *script) fate() byte {
	upper := byte(s.r.Intn(32)) << 3
	switch {
	case s.kind == 3:
		return upper | 4
	case s.kind == 0, s.kind < 3 && s.seldom(2):
		return byte(s.r.Intn(4)) | upper&0x88
	case s.kind == 1:
		return 4
	}
	return upper | byte(s.r.Intn(8))
}

func (s *script) fates() []byte {
	if s.seldom(10) {
		s.kind = s.r.Intn(5)
	}
	var l []byte
	for range s.r.Intn(30) {
		l = append(l, s.fate())
	}
	return l
}

// turn is the next one.
func (s *script) turn() api.Turn {
	t := api.Turn{Samples: s.samples(), Fates: s.fates()}
	for range max(0, s.r.Intn(6)-3) {
		t.Cmds = append(t.Cmds, s.cmd())
	}
	switch {
	case s.seldom(8):
		s.budget = s.r.Intn(2*s.c.Capacity + 2)
	case s.seldom(40):
		s.budget = s.number()
	case s.seldom(10):
		s.budget = s.c.Capacity + s.r.Intn(40)
	}
	t.Budget = s.budget
	switch {
	case s.seldom(40):
		t.Reset = 1 + s.r.Intn(s.devices)
	case s.seldom(40):
		t.Reset = s.number()
	}
	return t
}

// W1, and P19.1: of drawn turns the ward tells what the model tells, turn for turn, and is what it is behind each.
func TestDrawnTurns(t *testing.T) {
	t.Parallel()
	kinds, lost, late := map[int]int{}, 0, [2]int{}
	for seed := range 200 {
		s := newScript(rand.New(rand.NewSource(int64(seed))))
		b := pair(t, s.c, s.devices)
		for range 120 {
			for _, e := range b.do(s.turn()) {
				kinds[e.Kind]++
			}
			late[0], late[1] = late[0]+len(b.m.in), late[1]+len(b.m.out)
		}
		for _, p := range b.m.posts {
			lost += p.lost
		}
	}
	for kind := 1; kind <= 12; kind++ {
		if kinds[kind] < 100 {
			t.Errorf("events of the kind %d: %d", kind, kinds[kind])
		}
	}
	if lost < 100 || late[0] < 100 || late[1] < 100 {
		t.Errorf("groups that were lost: %d, late: %v", lost, late)
	}
}
