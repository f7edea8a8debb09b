package station

import (
	"slices"

	"gurney/api"
	"gurney/load"
)

const mostSilence = 1000 // ticks

// command is step 2: commands.
func (s *Station) command(t *tick) {
	doers := map[int]func(api.Cmd) api.Errno{
		api.DoAdmit:     s.admit,
		api.DoDischarge: s.discharge,
		api.DoLimit:     s.limit,
		api.DoAck:       s.acknowledge,
		api.DoSilence:   s.silence,
	}
	for _, c := range t.in.Cmds {
		e := api.ErrArg
		if do, there := doers[c.Kind]; there {
			e = do(c)
		}
		t.tell(api.Did, c.Kind, int(e), 0)
	}
}

func (s *Station) admit(c api.Cmd) api.Errno {
	beds, e := load.Admit(s.beds, c.Bed, s.conf.Capacity)
	if e != api.OK {
		return e
	}
	if load.Sum(beds)+s.reservedLoad() > s.conf.Capacity*api.Whole {
		return api.ErrLoad
	}
	s.beds = beds
	s.cares[c.Bed.Id] = &care{}
	s.watch.Add(c.Bed.Id, c.Bed.Watch, s.now)
	s.control.Add(c.Bed.Id, c.Bed.Prio)
	return api.OK
}

// reservedLoad is how much load is reserved until later than now; what was reserved until now is kept no longer.
func (s *Station) reservedLoad() int {
	s.reserved = slices.DeleteFunc(s.reserved, func(r reserved) bool { return r.until <= s.now })
	sum := 0
	for _, r := range s.reserved {
		sum += r.load
	}
	return sum
}

// discharge reserves the bed's load: work that was done for it already may have delayed others' up to the time by which its job was to be done.
func (s *Station) discharge(c api.Cmd) api.Errno {
	beds, e := load.Discharge(s.beds, c.A)
	if e != api.OK {
		return e
	}
	bed := s.beds[load.Find(s.beds, c.A)]
	s.reserved = append(s.reserved, reserved{load.Of(bed), s.cares[bed.Id].next})
	s.beds = beds
	delete(s.cares, bed.Id)
	s.watch.Remove(bed.Id)
	s.control.Remove(bed.Id)
	s.limits.Drop(bed.Id)
	s.panel.Drop(bed.Id)
	s.numeric.Drop(bed.Id)
	s.waves.Drop(bed.Id)
	return api.OK
}

func (s *Station) limit(c api.Cmd) api.Errno {
	if load.Find(s.beds, c.Limit.Bed) < 0 {
		return api.ErrNone
	}
	return s.limits.Set(c.Limit)
}

func (s *Station) acknowledge(c api.Cmd) api.Errno {
	if !s.panel.Ack(c.A, c.B) {
		return api.ErrNone
	}
	return api.OK
}

func (s *Station) silence(c api.Cmd) api.Errno {
	if !within(c.A, 0, mostSilence) {
		return api.ErrArg
	}
	s.panel.Silence(s.now + c.A)
	return api.OK
}
