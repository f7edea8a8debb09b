package station

import (
	"bytes"
	"slices"

	"gurney/api"
	"gurney/frame"
	"gurney/rs"
)

// What is asked for is reckoned by the tests themselves: by a station by its words, whose beds hold all that there is of them, with the document's numbers written out. It is told which frames bytes are; of the layers below it calls layer 5 for the text of shards, and layer 3 for the bytes of acks.

// wire is bytes that come, the frame that they are, or the error that layer 3 tells of them.
type wire struct {
	bytes []byte
	f     api.Frame
	e     api.Errno
}

// groups is a collector by its words.
type groups struct {
	session byte
	base    int
	got     [4]map[int][]byte
	skipped [4]bool
}

func newGroups(session byte, base int) *groups {
	g := &groups{session: session, base: base}
	for i := range g.got {
		g.got[i] = map[int][]byte{}
	}
	return g
}

func (g *groups) far(group int) int { return (group - g.base + 256) % 256 }

func (g *groups) shard(c api.Code, group, place int, b []byte) {
	far := g.far(group)
	if far < 4 && place < c.N && len(b) == c.Size && g.got[far][place] == nil {
		g.got[far][place] = slices.Clone(b)
	}
}

func (g *groups) skip(group int) {
	if far := g.far(group); far < 4 {
		g.skipped[far] = true
	}
}

func (g *groups) isReady(c api.Code, far int) bool {
	return g.skipped[far] || len(g.got[far]) >= c.K
}

func (g *groups) ready(c api.Code) int {
	sum := 0
	for far, worth := range [4]int{1, 2, 4, 8} {
		if g.isReady(c, far) {
			sum += worth
		}
	}
	return sum
}

// next is the base's text (nil of a gap), and the next group is the base.
func (g *groups) next(c api.Code) []byte {
	var text []byte
	if len(g.got[0]) >= c.K {
		list := make([][]byte, c.N)
		for place, b := range g.got[0] {
			list[place] = b
		}
		text, _ = rs.Decode(c, list)
	}
	g.got = [4]map[int][]byte{g.got[1], g.got[2], g.got[3], {}}
	g.skipped = [4]bool{g.skipped[1], g.skipped[2], g.skipped[3], false}
	g.base = (g.base + 1) % 256
	return text
}

// samplesOf are a text's samples, and whether it is one.
func samplesOf(text []byte) ([]api.Sample, bool) {
	if len(text) == 0 || len(text) < 1+3*int(text[0]) {
		return nil, false
	}
	var l []api.Sample
	for i := range int(text[0]) {
		b := text[1+3*i:]
		x := api.Sample{Kind: int(b[0]) >> 5, At: int(b[0])&31<<3 | int(b[1])>>5, Value: int(b[1])&31<<5 | int(b[2])>>3}
		if x.Kind < 1 || x.Kind > 5 || x.Value > 999 || x.Kind == 5 && x.Value > 255 || b[2]&7 != 0 {
			return nil, false
		}
		l = append(l, x)
	}
	for _, b := range text[1+3*int(text[0]):] {
		if b != 0 {
			return nil, false
		}
	}
	return l, true
}

// bounded is a limit, and how many values beyond it came one behind the other.
type bounded struct {
	l      api.Limit
	beyond int
}

// place is a bed by its words, with all that there is of it.
type place struct {
	api.Bed
	heard, level         int
	lost                 bool
	limits               map[int]*bounded
	alarms               map[int]*api.Alarm
	groups               *groups
	waits                []api.Sample
	next, points, looked int
}

// due is a job, and how many came ahead of it.
type due struct {
	api.Job
	came int
}

// ahead says whether a job is done ahead of another one.
func (d due) ahead(o due) bool {
	if d.By != o.By {
		return d.By < o.By
	}
	if d.Bed != o.Bed {
		return d.Bed < o.Bed
	}
	return d.came < o.came
}

// first is the place of the one that is done ahead of all.
func first(l []due) int {
	at := 0
	for i := range l {
		if l[i].ahead(l[at]) {
			at = i
		}
	}
	return at
}

// hold is a load that is reserved.
type hold struct{ load, until int }

// model is a station by its words.
type model struct {
	c                api.Conf
	now, last, until int
	calm, came       int
	overloads        []bool // of each tick
	seen             []api.Seen
	beds             []*place
	numeric, waves   []due
	holds            []hold
	events           []api.Event
	acks             [][]byte
	heard            map[int]bool
}

func (m *model) tell(kind, a, b, c int) {
	m.events = append(m.events, api.Event{Kind: kind, A: a, B: b, C: c})
}

func (m *model) bed(id int) *place {
	for _, p := range m.beds {
		if p.Id == id {
			return p
		}
	}
	return nil
}

func (m *model) bedOf(tx int) *place {
	for _, p := range m.beds {
		if p.Tx == tx {
			return p
		}
	}
	return nil
}

func (m *model) tick(frames []wire, cmds []api.Cmd, budget int) ([]api.Event, [][]byte) {
	if budget < 0 {
		budget = 0
	}
	if budget > 100000 {
		budget = 100000
	}
	m.events, m.acks, m.heard = nil, nil, map[int]bool{}
	m.look()
	for _, c := range cmds {
		m.tell(3, c.Kind, m.do(c), 0)
	}
	m.forget()
	m.giveUp(budget)
	for _, w := range frames {
		m.frame(w)
	}
	for _, p := range m.beds {
		m.parts(p)
	}
	m.release()
	m.work(budget)
	m.shed(budget)
	m.answer()
	m.now, m.last = m.now+1, budget
	return m.events, m.acks
}

func (m *model) look() {
	for _, p := range m.beds {
		if !p.lost && p.heard+p.Watch < m.now {
			p.lost = true
			m.raise(p, 0)
		}
	}
}

func (m *model) raise(p *place, kind int) {
	if a := p.alarms[kind]; a == nil || !a.On {
		p.alarms[kind] = &api.Alarm{Bed: p.Id, Kind: kind, Since: m.now, On: true}
	}
	m.tell(1, p.Id, kind, 0)
}

func (m *model) clear(p *place, kind int) {
	if a := p.alarms[kind]; a != nil && a.On && a.Acked {
		delete(p.alarms, kind)
	} else if a != nil {
		a.On = false
	}
	m.tell(2, p.Id, kind, 0)
}

// do does a command, and answers the error's number.
func (m *model) do(c api.Cmd) int {
	switch c.Kind {
	case 1:
		return m.admit(c.Bed)
	case 2:
		return m.discharge(c.A)
	case 3:
		return m.limit(c.Limit)
	case 4:
		return m.ack(c.A, c.B)
	case 5:
		if c.A < 0 || c.A > 1000 {
			return 1
		}
		m.until = m.now + c.A
		return 0
	}
	return 1
}

func mayBed(b api.Bed) bool {
	periods := []int{1, 2, 3, 4, 5, 6, 10, 12, 15, 20, 30, 60}
	return b.Id >= 0 && b.Id < 100 && b.Tx >= 0 && b.Tx < 256 && slices.Contains(periods, b.Period) &&
		b.Cost > 0 && b.Cost <= 100 && b.Watch > 0 && b.Watch <= 1000 && b.Prio >= 0 && b.Prio < 10
}

func loadOf(b api.Bed) int { return 60 / b.Period * b.Cost }

// loads is what counts: of all beds, and what is reserved.
func (m *model) loads() int {
	sum := 0
	for _, p := range m.beds {
		sum += loadOf(p.Bed)
	}
	for _, h := range m.holds {
		if h.until > m.now {
			sum += h.load
		}
	}
	return sum
}

func (m *model) admit(b api.Bed) int {
	switch {
	case !mayBed(b):
		return 1
	case m.bed(b.Id) != nil, m.bedOf(b.Tx) != nil:
		return 9
	case len(m.beds) == 8:
		return 7
	case m.loads()+loadOf(b) > 60*m.c.Capacity:
		return 10
	}
	m.beds = append(m.beds, &place{Bed: b, heard: m.now, limits: map[int]*bounded{}, alarms: map[int]*api.Alarm{}})
	return 0
}

func (m *model) discharge(id int) int {
	p := m.bed(id)
	if p == nil {
		return 8
	}
	m.holds = append(m.holds, hold{loadOf(p.Bed), p.next})
	m.beds = slices.DeleteFunc(m.beds, func(q *place) bool { return q == p })
	isIts := func(d due) bool { return d.Bed == id }
	m.numeric = slices.DeleteFunc(m.numeric, isIts)
	m.waves = slices.DeleteFunc(m.waves, isIts)
	return 0
}

func (m *model) limit(l api.Limit) int {
	p := m.bed(l.Bed)
	switch {
	case p == nil:
		return 8
	case l.Kind < 1, l.Kind > 4, l.From < 0, l.To > 999, l.From > l.To, l.Count < 1, l.Count > 100:
		return 1
	}
	p.limits[l.Kind] = &bounded{l: l}
	return 0
}

func (m *model) ack(bed, kind int) int {
	p := m.bed(bed)
	if p == nil || p.alarms[kind] == nil || p.alarms[kind].Acked {
		return 8
	}
	if p.alarms[kind].Acked = true; !p.alarms[kind].On {
		delete(p.alarms, kind)
	}
	return 0
}

func (m *model) forget() {
	var stay []api.Seen
	for _, x := range m.seen {
		if x.Last+m.c.Roam.Age >= m.now {
			stay = append(stay, x)
			continue
		}
		m.tell(4, x.Tx, 0, 0)
		if p := m.bedOf(x.Tx); p != nil {
			p.groups = nil
		}
	}
	m.seen = stay
}

// takeOut takes jobs out one behind the other, the one that is done ahead of all first.
func takeOut(l []due, goes func(due) bool, told func(due)) []due {
	var stay []due
	for len(l) > 0 {
		i := first(l)
		if goes(l[i]) {
			told(l[i])
		} else {
			stay = append(stay, l[i])
		}
		l = slices.Delete(l, i, i+1)
	}
	return stay
}

func (m *model) giveUp(budget int) {
	all := m.last < m.c.Capacity && budget >= m.c.Capacity
	m.numeric = takeOut(m.numeric, func(d due) bool { return all || d.By <= m.now }, func(d due) { m.tell(10, d.Bed, d.Sample.Kind, 0) })
	m.waves = takeOut(m.waves, func(d due) bool { return d.By <= m.now }, func(due) {})
}

func (m *model) frame(w wire) {
	f := w.f
	switch {
	case w.e != 0:
		m.tell(5, int(w.e), 0, 0)
		return
	case f.Kind == 1:
		m.tell(5, 6, 0, 0)
		return
	case !m.follows(f):
		m.tell(6, f.Tx, 0, 0)
		return
	}
	p := m.bedOf(f.Tx)
	if p == nil {
		m.tell(6, f.Tx, 0, 0)
		return
	}
	m.heard[f.Tx] = true
	m.take(p, f)
}

func (m *model) take(p *place, f api.Frame) {
	group := f.Seq / 16
	switch {
	case f.Kind == 3 && len(f.Data) != 1:
		m.tell(5, 6, 0, 0)
	case f.Kind == 3:
		if p.groups == nil || p.groups.session != f.Data[0] {
			p.groups = newGroups(f.Data[0], group)
		}
	case p.groups == nil:
	case f.Kind == 0:
		p.groups.shard(m.c.Link.Code, group, f.Seq%16, f.Data)
	case f.Kind == 2:
		p.groups.skip(group)
	}
}

// follows says whether a frame's transmitter is followed, or is now.
func (m *model) follows(f api.Frame) bool {
	for i := range m.seen {
		x := &m.seen[i]
		if x.Tx != f.Tx {
			continue
		}
		x.Last = m.now
		if f.Ant != x.Ant && f.Rssi < x.Rssi+m.c.Roam.Margin {
			return true
		}
		if f.Ant != x.Ant {
			m.tell(7, f.Tx, f.Ant, 0)
		}
		x.Ant, x.Rssi = f.Ant, f.Rssi
		return true
	}
	if len(m.seen) >= m.c.Roam.Room {
		return false
	}
	m.seen = append(m.seen, api.Seen{Tx: f.Tx, Ant: f.Ant, Rssi: f.Rssi, Last: m.now})
	return true
}

func (m *model) parts(p *place) {
	for p.groups != nil && p.groups.isReady(m.c.Link.Code, 0) {
		group := p.groups.base
		text := p.groups.next(m.c.Link.Code)
		if text == nil {
			m.tell(8, p.Id, group, 0)
			continue
		}
		l, ok := samplesOf(text)
		if !ok {
			m.tell(12, p.Id, 0, 0)
		}
		for _, x := range l {
			m.sample(p, x)
		}
	}
}

func (m *model) sample(p *place, x api.Sample) {
	switch {
	case x.Kind == 5:
		fine := map[int]int{0: 1, 1: 2, 2: 4}[p.level]
		if fine > 0 && p.points%fine == 0 && len(m.waves) < 40 {
			m.waves = append(m.waves, m.job(p, x, 8, 1))
		}
		p.points++
	case len(p.waits) == 24:
		m.tell(12, p.Id, 0, 0)
	default:
		p.waits = append(p.waits, x)
	}
}

func (m *model) job(p *place, x api.Sample, ticks, left int) due {
	m.came++
	return due{api.Job{Bed: p.Id, Sample: x, Since: m.now, By: m.now + ticks, Left: left}, m.came}
}

func (m *model) release() {
	for _, p := range m.beds {
		if len(p.waits) > 0 && p.next <= m.now {
			m.numeric = append(m.numeric, m.job(p, p.waits[0], p.Period, p.Cost))
			p.waits = slices.Clone(p.waits[1:])
			p.next = m.now + p.Period
		}
	}
}

// work does units one by one: those of numeric jobs, as long as there are some, then waves'.
func (m *model) work(budget int) {
	for ; budget > 0 && len(m.numeric) > 0; budget-- {
		i := first(m.numeric)
		if m.numeric[i].Left--; m.numeric[i].Left == 0 {
			d := m.numeric[i]
			m.numeric = slices.Delete(m.numeric, i, i+1)
			m.value(m.bed(d.Bed), d.Sample)
		}
	}
	for ; budget > 0 && len(m.waves) > 0; budget-- {
		i := first(m.waves)
		m.bed(m.waves[i].Bed).looked++
		m.waves = slices.Delete(m.waves, i, i+1)
	}
}

func (m *model) value(p *place, x api.Sample) {
	m.tell(9, p.Id, x.Kind, x.Value)
	p.heard = m.now
	if p.lost {
		p.lost = false
		m.clear(p, 0)
	}
	k := p.limits[x.Kind]
	if k == nil {
		return
	}
	was := k.beyond >= k.l.Count
	if k.beyond++; x.Value >= k.l.From && x.Value <= k.l.To {
		k.beyond = 0
	}
	if is := k.beyond >= k.l.Count; is && !was {
		m.raise(p, x.Kind)
	} else if was && !is {
		m.clear(p, x.Kind)
	}
}

// left are the units that are left, of numeric jobs and of waves'.
func (m *model) left() (int, int) {
	n := 0
	for _, d := range m.numeric {
		n += d.Left
	}
	return n, len(m.waves)
}

// order is that in which beds are shed: the least priority first, of one those that came last.
func (m *model) order() []*place {
	var l []*place
	for prio := range 10 {
		for i := len(m.beds) - 1; i >= 0; i-- {
			if m.beds[i].Prio == prio {
				l = append(l, m.beds[i])
			}
		}
	}
	return l
}

func (m *model) shed(budget int) {
	numeric, waves := m.left()
	over := numeric+waves > budget*m.c.Ahead
	m.overloads = append(m.overloads, over)
	if over {
		m.calm = 0
		for _, p := range m.order() {
			if p.level < 3 {
				p.level++
				m.tell(11, p.Id, p.level, 0)
				return
			}
		}
		return
	}
	if m.calm++; m.calm == m.c.Calm {
		m.calm = 0
		for _, p := range m.beds {
			p.level = 0
		}
	}
}

func (m *model) answer() {
	for _, p := range m.beds {
		if p.groups == nil || !m.heard[p.Tx] {
			continue
		}
		for _, x := range m.seen {
			if x.Tx == p.Tx {
				m.acks = append(m.acks, frame.Put(api.Frame{Tx: p.Tx, Ant: x.Ant, Kind: 1, Data: []byte{byte(p.groups.base), byte(p.groups.ready(m.c.Link.Code))}}))
			}
		}
	}
}

// alarms are those that are shown, in order.
func (m *model) alarms() []api.Alarm {
	var l []api.Alarm
	for _, p := range m.beds {
		for _, a := range p.alarms {
			l = append(l, *a)
		}
	}
	worth := func(a api.Alarm) int {
		n := (a.Kind*1000000+a.Since)*100 + a.Bed
		if a.Acked {
			n += 1000000000
		}
		return n
	}
	slices.SortFunc(l, func(a, b api.Alarm) int { return worth(a) - worth(b) })
	return l
}

func (m *model) sounds() bool {
	return m.now >= m.until && slices.ContainsFunc(m.alarms(), func(a api.Alarm) bool { return !a.Acked })
}

func (m *model) list() []api.Bed {
	var l []api.Bed
	for _, p := range m.beds {
		l = append(l, p.Bed)
	}
	return l
}

func sameBytes(a, b [][]byte) bool { return slices.EqualFunc(a, b, bytes.Equal) }
