package ward

import (
	"maps"
	"slices"

	"gurney/api"
	"gurney/rs"
)

// The station by its words, which messages come to. Of the layers below it calls layer 5 alone, for the text of shards of two sessions.

// gathered is a group's shards: by their places, the bundle that each is of.
type gathered struct {
	shards  map[int]*bundle
	skipped bool
}

// groups is a collector.
type groups struct {
	session, base int
	open          [4]gathered
}

func newGroups(session, base int) *groups {
	g := &groups{session: session, base: base}
	for i := range g.open {
		g.open[i].shards = map[int]*bundle{}
	}
	return g
}

func (g *groups) far(group int) int { return (group - g.base + 256) % 256 }

func (g *groups) shard(group, place int, b *bundle) {
	if far := g.far(group); far < 4 && g.open[far].shards[place] == nil {
		g.open[far].shards[place] = b
	}
}

func (g *groups) skip(group int) {
	if far := g.far(group); far < 4 {
		g.open[far].skipped = true
	}
}

func (g *groups) ready(c api.Code) [4]bool {
	var ready [4]bool
	for i, x := range g.open {
		ready[i] = x.skipped || len(x.shards) >= c.K
	}
	return ready
}

// next is what the base was, and the next group is the base.
func (g *groups) next() gathered {
	x := g.open[0]
	g.open = [4]gathered{g.open[1], g.open[2], g.open[3], {shards: map[int]*bundle{}}}
	g.base = (g.base + 1) % 256
	return x
}

// samples are those of a group of which at least K shards came, and whether its text is one of samples.
func (x gathered) samples(c api.Code) ([]api.Sample, bool) {
	places := slices.Sorted(maps.Keys(x.shards))[:c.K]
	alike := true
	shards := make([][]byte, c.N)
	for _, place := range places {
		b := x.shards[place]
		alike = alike && b == x.shards[places[0]]
		l, _ := rs.Encode(c, textOf(c, b.samples))
		shards[place] = l[place]
	}
	if alike {
		return x.shards[places[0]].samples, true
	}
	text, _ := rs.Decode(c, shards)
	return samplesOf(text)
}

func textOf(c api.Code, l []api.Sample) []byte {
	text := []byte{byte(len(l))}
	for _, s := range l {
		n := s.Kind<<21 | s.At<<13 | s.Value<<3
		text = append(text, byte(n>>16), byte(n>>8), byte(n))
	}
	return append(text, make([]byte, c.K*c.Size-len(text))...)
}

func samplesOf(text []byte) ([]api.Sample, bool) {
	if len(text) == 0 || len(text) < 1+3*int(text[0]) {
		return nil, false
	}
	var l []api.Sample
	for i := range int(text[0]) {
		b := text[1+3*i:]
		n := int(b[0])<<16 | int(b[1])<<8 | int(b[2])
		x := api.Sample{Kind: n >> 21, At: n >> 13 & 255, Value: n >> 3 & 1023}
		if n&7 != 0 || !rightSample(x) {
			return nil, false
		}
		l = append(l, x)
	}
	for _, b := range text[1+3*len(l):] {
		if b != 0 {
			return nil, false
		}
	}
	return l, true
}

// bounded is a limit, and how many values beyond it came one behind the other.
type bounded struct {
	l      api.Limit
	beyond int
}

// bed is one, with all that there is of it.
type bed struct {
	api.Bed
	heard, level         int
	lost                 bool
	limits               map[int]*bounded
	alarms               map[int]*api.Alarm
	groups               *groups
	waits                []api.Sample
	next, points, looked int
}

// due is a job, and how many came ahead of it.
type due struct {
	api.Job
	came int
}

// ahead says whether a job is done ahead of another one.
func (d due) ahead(o due) bool {
	if d.By != o.By {
		return d.By < o.By
	}
	if d.Bed != o.Bed {
		return d.Bed < o.Bed
	}
	return d.came < o.came
}

// first is the place of the one that is done ahead of all.
func first(l []due) int {
	at := 0
	for i := range l {
		if l[i].ahead(l[at]) {
			at = i
		}
	}
	return at
}

// hold is a load that is reserved.
type hold struct{ load, until int }

// desk is a station.
type desk struct {
	c                api.Conf
	now, last, until int
	calm, came       int
	overloads        []bool // of each tick
	seen             []api.Seen
	beds             []*bed
	numeric, waves   []due
	holds            []hold
	events           []api.Event
	acks             []message
	heard            map[int]bool
}

func (m *desk) tell(kind, a, b, c int) {
	m.events = append(m.events, api.Event{Kind: kind, A: a, B: b, C: c})
}

func (m *desk) bedAt(id int) *bed {
	for _, p := range m.beds {
		if p.Id == id {
			return p
		}
	}
	return nil
}

func (m *desk) bedOf(tx int) *bed {
	for _, p := range m.beds {
		if p.Tx == tx {
			return p
		}
	}
	return nil
}

func (m *desk) tick(messages []message, cmds []api.Cmd, budget int) ([]api.Event, []message) {
	if budget < 0 {
		budget = 0
	}
	if budget > 100000 {
		budget = 100000
	}
	m.events, m.acks, m.heard = nil, nil, map[int]bool{}
	m.look()
	for _, c := range cmds {
		m.tell(3, c.Kind, m.do(c), 0)
	}
	m.forget()
	m.giveUp(budget)
	for _, x := range messages {
		m.message(x)
	}
	for _, p := range m.beds {
		m.parts(p)
	}
	m.release()
	m.work(budget)
	m.shed(budget)
	m.answer()
	m.now, m.last = m.now+1, budget
	return m.events, m.acks
}

func (m *desk) look() {
	for _, p := range m.beds {
		if !p.lost && p.heard+p.Watch < m.now {
			p.lost = true
			m.raise(p, 0)
		}
	}
}

func (m *desk) raise(p *bed, kind int) {
	if a := p.alarms[kind]; a == nil || !a.On {
		p.alarms[kind] = &api.Alarm{Bed: p.Id, Kind: kind, Since: m.now, On: true}
	}
	m.tell(1, p.Id, kind, 0)
}

func (m *desk) clear(p *bed, kind int) {
	if a := p.alarms[kind]; a != nil && a.On && a.Acked {
		delete(p.alarms, kind)
	} else if a != nil {
		a.On = false
	}
	m.tell(2, p.Id, kind, 0)
}

// do does a command, and answers the error's number.
func (m *desk) do(c api.Cmd) int {
	switch c.Kind {
	case 1:
		return m.admit(c.Bed)
	case 2:
		return m.discharge(c.A)
	case 3:
		return m.limit(c.Limit)
	case 4:
		return m.ack(c.A, c.B)
	case 5:
		if c.A < 0 || c.A > 1000 {
			return 1
		}
		m.until = m.now + c.A
		return 0
	}
	return 1
}

func mayBed(b api.Bed) bool {
	periods := []int{1, 2, 3, 4, 5, 6, 10, 12, 15, 20, 30, 60}
	return b.Id >= 0 && b.Id < 100 && b.Tx >= 0 && b.Tx < 256 && slices.Contains(periods, b.Period) &&
		b.Cost > 0 && b.Cost <= 100 && b.Watch > 0 && b.Watch <= 1000 && b.Prio >= 0 && b.Prio < 10
}

func loadOf(b api.Bed) int { return 60 / b.Period * b.Cost }

// loads is what counts: of all beds, and what is reserved.
func (m *desk) loads() int {
	sum := 0
	for _, p := range m.beds {
		sum += loadOf(p.Bed)
	}
	for _, h := range m.holds {
		if h.until > m.now {
			sum += h.load
		}
	}
	return sum
}

func (m *desk) admit(b api.Bed) int {
	switch {
	case !mayBed(b):
		return 1
	case m.bedAt(b.Id) != nil, m.bedOf(b.Tx) != nil:
		return 9
	case len(m.beds) == 8:
		return 7
	case m.loads()+loadOf(b) > 60*m.c.Capacity:
		return 10
	}
	m.beds = append(m.beds, &bed{Bed: b, heard: m.now, limits: map[int]*bounded{}, alarms: map[int]*api.Alarm{}})
	return 0
}

func (m *desk) discharge(id int) int {
	p := m.bedAt(id)
	if p == nil {
		return 8
	}
	m.holds = append(m.holds, hold{loadOf(p.Bed), p.next})
	m.beds = slices.DeleteFunc(m.beds, func(q *bed) bool { return q == p })
	isIts := func(d due) bool { return d.Bed == id }
	m.numeric = slices.DeleteFunc(m.numeric, isIts)
	m.waves = slices.DeleteFunc(m.waves, isIts)
	return 0
}

func (m *desk) limit(l api.Limit) int {
	p := m.bedAt(l.Bed)
	switch {
	case p == nil:
		return 8
	case l.Kind < 1, l.Kind > 4, l.From < 0, l.To > 999, l.From > l.To, l.Count < 1, l.Count > 100:
		return 1
	}
	p.limits[l.Kind] = &bounded{l: l}
	return 0
}

func (m *desk) ack(bed, kind int) int {
	p := m.bedAt(bed)
	if p == nil || p.alarms[kind] == nil || p.alarms[kind].Acked {
		return 8
	}
	if p.alarms[kind].Acked = true; !p.alarms[kind].On {
		delete(p.alarms, kind)
	}
	return 0
}

func (m *desk) forget() {
	var stay []api.Seen
	for _, x := range m.seen {
		if x.Last+m.c.Roam.Age >= m.now {
			stay = append(stay, x)
			continue
		}
		m.tell(4, x.Tx, 0, 0)
		if p := m.bedOf(x.Tx); p != nil {
			p.groups = nil
		}
	}
	m.seen = stay
}

// takeOut takes jobs out one behind the other, the one that is done ahead of all first.
func takeOut(l []due, goes func(due) bool, told func(due)) []due {
	var stay []due
	for len(l) > 0 {
		i := first(l)
		if goes(l[i]) {
			told(l[i])
		} else {
			stay = append(stay, l[i])
		}
		l = slices.Delete(l, i, i+1)
	}
	return stay
}

func (m *desk) giveUp(budget int) {
	all := m.last < m.c.Capacity && budget >= m.c.Capacity
	m.numeric = takeOut(m.numeric, func(d due) bool { return all || d.By <= m.now }, func(d due) { m.tell(10, d.Bed, d.Sample.Kind, 0) })
	m.waves = takeOut(m.waves, func(d due) bool { return d.By <= m.now }, func(due) {})
}

func (m *desk) message(x message) {
	if x.e != 0 {
		m.tell(5, x.e, 0, 0)
		return
	}
	p := m.bedOf(x.tx)
	if !m.follows(x) || p == nil {
		m.tell(6, x.tx, 0, 0)
		return
	}
	m.heard[x.tx] = true
	switch {
	case x.kind == 3:
		if p.groups == nil || p.groups.session != x.session {
			p.groups = newGroups(x.session, x.group)
		}
	case p.groups == nil:
	case x.kind == 0:
		p.groups.shard(x.group, x.place, x.bundle)
	case x.kind == 2:
		p.groups.skip(x.group)
	}
}

// follows says whether a message's transmitter is followed, or is now.
func (m *desk) follows(x message) bool {
	for i := range m.seen {
		s := &m.seen[i]
		if s.Tx != x.tx {
			continue
		}
		s.Last = m.now
		if x.ant != s.Ant && x.rssi < s.Rssi+m.c.Roam.Margin {
			return true
		}
		if x.ant != s.Ant {
			m.tell(7, x.tx, x.ant, 0)
		}
		s.Ant, s.Rssi = x.ant, x.rssi
		return true
	}
	if len(m.seen) >= m.c.Roam.Room {
		return false
	}
	m.seen = append(m.seen, api.Seen{Tx: x.tx, Ant: x.ant, Rssi: x.rssi, Last: m.now})
	return true
}

func (m *desk) parts(p *bed) {
	for p.groups != nil && p.groups.ready(m.c.Link.Code)[0] {
		group := p.groups.base
		g := p.groups.next()
		if len(g.shards) < m.c.Link.Code.K {
			m.tell(8, p.Id, group, 0)
			continue
		}
		l, ok := g.samples(m.c.Link.Code)
		if !ok {
			m.tell(12, p.Id, 0, 0)
		}
		for _, x := range l {
			m.sample(p, x)
		}
	}
}

func (m *desk) sample(p *bed, x api.Sample) {
	switch {
	case x.Kind == 5:
		fine := map[int]int{0: 1, 1: 2, 2: 4}[p.level]
		if fine > 0 && p.points%fine == 0 && len(m.waves) < 40 {
			m.waves = append(m.waves, m.job(p, x, 8, 1))
		}
		p.points++
	case len(p.waits) == 24:
		m.tell(12, p.Id, 0, 0)
	default:
		p.waits = append(p.waits, x)
	}
}

func (m *desk) job(p *bed, x api.Sample, ticks, left int) due {
	m.came++
	return due{api.Job{Bed: p.Id, Sample: x, Since: m.now, By: m.now + ticks, Left: left}, m.came}
}

func (m *desk) release() {
	for _, p := range m.beds {
		if len(p.waits) > 0 && p.next <= m.now {
			m.numeric = append(m.numeric, m.job(p, p.waits[0], p.Period, p.Cost))
			p.waits = slices.Clone(p.waits[1:])
			p.next = m.now + p.Period
		}
	}
}

// work does units one by one: those of numeric jobs, as long as there are some, then waves'.
func (m *desk) work(budget int) {
	for ; budget > 0 && len(m.numeric) > 0; budget-- {
		i := first(m.numeric)
		if m.numeric[i].Left--; m.numeric[i].Left == 0 {
			d := m.numeric[i]
			m.numeric = slices.Delete(m.numeric, i, i+1)
			m.value(m.bedAt(d.Bed), d.Sample)
		}
	}
	for ; budget > 0 && len(m.waves) > 0; budget-- {
		i := first(m.waves)
		m.bedAt(m.waves[i].Bed).looked++
		m.waves = slices.Delete(m.waves, i, i+1)
	}
}

func (m *desk) value(p *bed, x api.Sample) {
	m.tell(9, p.Id, x.Kind, x.Value)
	p.heard = m.now
	if p.lost {
		p.lost = false
		m.clear(p, 0)
	}
	k := p.limits[x.Kind]
	if k == nil {
		return
	}
	was := k.beyond >= k.l.Count
	if k.beyond++; x.Value >= k.l.From && x.Value <= k.l.To {
		k.beyond = 0
	}
	if is := k.beyond >= k.l.Count; is && !was {
		m.raise(p, x.Kind)
	} else if was && !is {
		m.clear(p, x.Kind)
	}
}

// left are the units that are left, of numeric jobs and of waves'.
func (m *desk) left() (int, int) {
	n := 0
	for _, d := range m.numeric {
		n += d.Left
	}
	return n, len(m.waves)
}

// order is that in which beds are shed: the least priority first, of one those that came last.
func (m *desk) order() []*bed {
	var l []*bed
	for prio := range 10 {
		for i := len(m.beds) - 1; i >= 0; i-- {
			if m.beds[i].Prio == prio {
				l = append(l, m.beds[i])
			}
		}
	}
	return l
}

func (m *desk) shed(budget int) {
	numeric, waves := m.left()
	over := numeric+waves > budget*m.c.Ahead
	m.overloads = append(m.overloads, over)
	if over {
		m.calm = 0
		for _, p := range m.order() {
			if p.level < 3 {
				p.level++
				m.tell(11, p.Id, p.level, 0)
				return
			}
		}
		return
	}
	if m.calm++; m.calm == m.c.Calm {
		m.calm = 0
		for _, p := range m.beds {
			p.level = 0
		}
	}
}

func (m *desk) answer() {
	for _, p := range m.beds {
		if p.groups != nil && m.heard[p.Tx] {
			m.acks = append(m.acks, message{tx: p.Tx, kind: 1, group: p.groups.base, ready: p.groups.ready(m.c.Link.Code)})
		}
	}
}

// alarms are those that are shown, in order.
func (m *desk) alarms() []api.Alarm {
	var l []api.Alarm
	for _, p := range m.beds {
		for _, a := range p.alarms {
			l = append(l, *a)
		}
	}
	worth := func(a api.Alarm) int {
		n := (a.Kind*1000000+a.Since)*100 + a.Bed
		if a.Acked {
			n += 1000000000
		}
		return n
	}
	slices.SortFunc(l, func(a, b api.Alarm) int { return worth(a) - worth(b) })
	return l
}

func (m *desk) sounds() bool {
	return m.now >= m.until && slices.ContainsFunc(m.alarms(), func(a api.Alarm) bool { return !a.Acked })
}

func (m *desk) list() []api.Bed {
	var l []api.Bed
	for _, p := range m.beds {
		l = append(l, p.Bed)
	}
	return l
}
