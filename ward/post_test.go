package ward

import "gurney/api"

// What is asked for is reckoned by the tests themselves: by a ward by the chapters' words, in which messages go about instead of bytes, and the document's numbers are written out. Here: its transmitters, and the air.

// message is what a frame says.
type message struct {
	tx, kind  int
	group     int // of an ack: the base
	place     int
	bundle    *bundle // of a shard
	session   int     // of a greeting
	ready     [4]bool // of an ack
	ant, rssi int
	e         int // what layer 3 tells of it, when a bit of it was turned
}

// size is how many bytes it has.
func (x message) size(c api.Code) int {
	return 11 + map[int]int{0: c.Size, 1: 2, 2: 0, 3: 1}[x.kind]
}

// bundle is a group that is out; its number is that among all of its session, from 0 on.
type bundle struct {
	number, sent, last int
	samples            []api.Sample
	there, givenUp     bool
}

// post is a transmitter.
type post struct {
	tx, now, session int
	link             api.Link
	kept             []api.Sample
	out              []*bundle
	texts, lost      int   // of this session
	acks             []int // when, in this session
}

func rightSample(s api.Sample) bool {
	most := 999
	if s.Kind == 5 {
		most = 255
	}
	return s.Kind >= 1 && s.Kind <= 5 && s.At >= 0 && s.At <= 255 && s.Value >= 0 && s.Value <= most
}

// take says whether the sample is kept.
func (p *post) take(x api.Sample) bool {
	if !rightSample(x) || len(p.kept) == 60 {
		return false
	}
	p.kept = append(p.kept, x)
	return true
}

func (p *post) tick() []message {
	if len(p.out) < 4 && len(p.kept) > 0 {
		many := min((p.link.Code.K*p.link.Code.Size-1)/3, len(p.kept))
		p.out = append(p.out, &bundle{number: p.texts, samples: p.kept[:many:many]})
		p.texts++
		p.kept = append([]api.Sample(nil), p.kept[many:]...)
	}
	var l []message
	if len(p.acks) == 0 || p.now > p.acks[len(p.acks)-1]+p.link.Wait*p.link.Most {
		first := p.texts
		if len(p.out) > 0 {
			first = p.out[0].number
		}
		l = append(l, message{tx: p.tx, kind: 3, group: first % 256, session: p.session})
	}
	for _, g := range p.out {
		l = append(l, p.sent(g)...)
	}
	p.now++
	return l
}

func (p *post) sent(g *bundle) []message {
	if g.there || g.sent > 0 && p.now < g.last+p.link.Wait {
		return nil
	}
	g.sent, g.last = g.sent+1, p.now
	if g.sent > p.link.Most {
		g.givenUp = true
		return []message{{tx: p.tx, kind: 2, group: g.number % 256}}
	}
	var l []message
	for place := range p.link.Code.N {
		l = append(l, message{tx: p.tx, group: g.number % 256, place: place, bundle: g})
	}
	return l
}

// hear is of an ack that arrives.
func (p *post) hear(x message) {
	if x.e != 0 {
		return
	}
	var left []*bundle
	for _, g := range p.out {
		far := (g.number - x.group + 65536) % 256
		if far >= 128 {
			if g.givenUp {
				p.lost++
			}
			continue
		}
		g.there = far < 4 && x.ready[far]
		left = append(left, g)
	}
	p.out = left
	p.acks = append(p.acks, p.now)
}

func (p *post) reset() {
	*p = post{tx: p.tx, link: p.link, now: p.now, session: (p.session + 1) % 256}
}

// befall is what arrives of a message at once, and what does in the next turn.
func befall(c api.Code, x message, fate int) (now, late []message) {
	switch fate % 8 {
	case 4:
		return nil, nil
	case 5:
		return []message{x, x}, nil
	case 6:
		return nil, []message{x}
	case 7:
		// The sum of the head is that of 5 bytes, behind which it stands.
		x.e = 5
		if fate%x.size(c) < 7 {
			x.e = 3
		}
	}
	return []message{x}, nil
}

// model is a ward.
type model struct {
	desk    *desk
	posts   []*post
	in, out []message // what is late, to the station, and to devices
	used    int       // how many fates, in the last turn
}

func newModel(c api.Conf, devices int) *model {
	m := &model{desk: &desk{c: c}}
	for tx := range devices {
		m.posts = append(m.posts, &post{tx: tx, link: c.Link})
	}
	return m
}

func (m *model) do(t api.Turn) []api.Event {
	if t.Reset >= 1 && t.Reset <= len(m.posts) {
		m.posts[t.Reset-1].reset()
	}
	for i := 0; i < len(t.Samples) && i < len(m.posts); i++ {
		for _, x := range t.Samples[i] {
			m.posts[i].take(x)
		}
	}
	m.used = 0
	fate := func() int {
		m.used++
		if len(t.Fates) == 0 {
			return 0
		}
		return int(t.Fates[(m.used-1)%len(t.Fates)])
	}
	code := m.desk.c.Link.Code
	arrived := m.in
	m.in = nil
	for _, p := range m.posts {
		for _, x := range p.tick() {
			f := fate()
			x.ant, x.rssi = f/8%4, 40+f/32*8
			now, late := befall(code, x, f)
			arrived, m.in = append(arrived, now...), append(m.in, late...)
		}
	}
	events, acks := m.desk.tick(arrived, t.Cmds, t.Budget)
	arrived = m.out
	m.out = nil
	for _, x := range acks {
		now, late := befall(code, x, fate())
		arrived, m.out = append(arrived, now...), append(m.out, late...)
	}
	for _, x := range arrived {
		m.posts[x.tx].hear(x)
	}
	return events
}
