package station

import (
	"slices"

	"gurney/api"
	"gurney/collect"
	"gurney/edf"
	"gurney/frame"
	"gurney/load"
	"gurney/record"
	"gurney/seq"
	"gurney/shed"
)

const (
	sessionBytes = 1 // of a Hello
	pointUnits   = 1 // of work
	pointTicks   = 8 // that a point's work may take
)

// tick is one that is under way.
type tick struct {
	in     api.Input
	budget int
	heard  []int // transmitters that have a bed
	events []api.Event
	acks   [][]byte
}

func (t *tick) tell(kind, a, b, c int) {
	t.events = append(t.events, api.Event{Kind: kind, A: a, B: b, C: c})
}

func (t *tick) bad(e api.Errno) { t.tell(api.Bad, int(e), 0, 0) }

// look is step 1: beds that fell silent.
func (s *Station) look(t *tick) {
	for _, bed := range s.watch.Look(s.now) {
		s.raise(t, bed, api.Lost)
	}
}

// forget is step 3: transmitters that weren't heard for too long.
func (s *Station) forget(t *tick) {
	for _, tx := range s.table.Forget(s.now) {
		t.tell(api.Gone, tx, 0, 0)
		if c := s.careOf(tx); c != nil {
			c.collector = nil
		}
	}
}

// giveUp is step 4: jobs that would delay others for ever, and those that are late.
func (s *Station) giveUp(t *tick) {
	var gone []api.Job
	if s.budget < s.conf.Capacity && t.budget >= s.conf.Capacity {
		gone = s.numeric.List()
		s.numeric = edf.New()
	}
	for _, j := range append(gone, s.numeric.Late(s.now)...) {
		t.tell(api.Missed, j.Bed, j.Sample.Kind, 0)
	}
	s.waves.Late(s.now)
}

// hear is step 5: frames.
func (s *Station) hear(t *tick) {
	for _, b := range t.in.Frames {
		f, e := frame.Parse(b)
		switch {
		case e != api.OK:
			t.bad(e)
		case f.Kind == api.Ack:
			t.bad(api.ErrForm)
		default:
			s.hearFrame(t, f)
		}
	}
}

func (s *Station) hearFrame(t *tick, f api.Frame) {
	came := s.table.Hear(f.Tx, f.Ant, f.Rssi, s.now)
	if came == api.Moved {
		t.tell(api.Home, f.Tx, f.Ant, 0)
	}
	c := s.careOf(f.Tx)
	if came == api.Refused || c == nil {
		t.tell(api.Strange, f.Tx, 0, 0)
		return
	}
	t.heard = append(t.heard, f.Tx)
	s.take(t, c, f)
}

// take takes a frame of a bed. A collector that isn't there takes nothing.
func (s *Station) take(t *tick, c *care, f api.Frame) {
	group, place, _ := seq.Split(f.Seq)
	switch f.Kind {
	case api.Shard:
		c.collector.Shard(group, place, f.Data)
	case api.Skip:
		c.collector.Skip(group)
	case api.Hello:
		if len(f.Data) != sessionBytes {
			t.bad(api.ErrForm)
			return
		}
		if session := f.Data[0]; c.collector == nil || c.session != session {
			c.collector, c.session = collect.New(s.conf.Link.Code, group), session
		}
	}
}

// collect is step 6: parts that are due.
func (s *Station) collect(t *tick) {
	for _, b := range s.beds {
		for _, p := range s.cares[b.Id].collector.Due() {
			if p.Gap {
				t.tell(api.Gap, b.Id, p.Group, 0)
				continue
			}
			s.sort(t, b.Id, p.Data)
		}
	}
}

// sort lets the samples of a text wait, or be points.
func (s *Station) sort(t *tick, bed int, text []byte) {
	l, e := record.Parse(text)
	if e != api.OK {
		t.tell(api.Spilled, bed, 0, 0)
		return
	}
	c := s.cares[bed]
	for _, x := range l {
		switch {
		case !record.Numeric(x):
			s.point(bed, x)
		case len(c.waits) >= api.MaxWait:
			t.tell(api.Spilled, bed, 0, 0)
		default:
			c.waits = append(c.waits, x)
		}
	}
}

// point is one more point of a bed's wave.
func (s *Station) point(bed int, x api.Sample) {
	c := s.cares[bed]
	if shed.Looked(s.control.Level(bed), c.points) {
		s.waves.Push(api.Job{Bed: bed, Sample: x, Since: s.now, By: s.now + pointTicks, Left: pointUnits})
	}
	c.points++
}

// release is step 7: samples that wait become jobs. There is room for each: of a bed at most one waits in the queue, as it is late when the next one is released.
func (s *Station) release(*tick) {
	for _, b := range s.beds {
		c := s.cares[b.Id]
		if len(c.waits) == 0 || s.now < c.next {
			continue
		}
		c.next = s.now + b.Period
		s.numeric.Push(api.Job{Bed: b.Id, Sample: c.waits[0], Since: s.now, By: c.next, Left: b.Cost})
		c.waits = c.waits[1:]
	}
}

// work is step 8: waves get what numeric jobs leave over.
func (s *Station) work(t *tick) {
	values, left := s.numeric.Work(t.budget)
	for _, j := range values {
		s.value(t, j.Bed, j.Sample)
	}
	points, _ := s.waves.Work(left)
	for _, j := range points {
		s.cares[j.Bed].looked++
	}
}

// value is a numeric sample that is looked at.
func (s *Station) value(t *tick, bed int, x api.Sample) {
	t.tell(api.Value, bed, x.Kind, x.Value)
	if s.watch.Heard(bed, s.now) {
		s.clear(t, bed, api.Lost)
	}
	switch was, is := s.limits.See(bed, x.Kind, x.Value); {
	case is && !was:
		s.raise(t, bed, x.Kind)
	case was && !is:
		s.clear(t, bed, x.Kind)
	}
}

func (s *Station) raise(t *tick, bed, kind int) {
	s.panel.Raise(bed, kind, s.now)
	t.tell(api.Raised, bed, kind, 0)
}

func (s *Station) clear(t *tick, bed, kind int) {
	s.panel.Clear(bed, kind)
	t.tell(api.Cleared, bed, kind, 0)
}

// shed is step 9: is there too much work?
func (s *Station) shed(t *tick) {
	left := s.numeric.Left() + s.waves.Left()
	if bed := s.control.Tick(left > t.budget*s.conf.Ahead); bed >= 0 {
		t.tell(api.Shed, bed, s.control.Level(bed), 0)
	}
}

// ack is step 10: what each bed that was heard has of its groups.
func (s *Station) ack(t *tick) {
	for _, b := range s.beds {
		x := s.cares[b.Id].collector
		if x == nil || !slices.Contains(t.heard, b.Tx) {
			continue
		}
		home, _ := s.table.Home(b.Tx)
		told := []byte{byte(x.Base()), byte(x.Ready())}
		t.acks = append(t.acks, frame.Put(api.Frame{Tx: b.Tx, Ant: home, Kind: api.Ack, Data: told}))
	}
}

// careOf is what there is of a transmitter's bed; nil, if it has none.
func (s *Station) careOf(tx int) *care {
	i := load.Owner(s.beds, tx)
	if i < 0 {
		return nil
	}
	return s.cares[s.beds[i].Id]
}
