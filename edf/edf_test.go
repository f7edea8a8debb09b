package edf

import (
	"math"
	"math/rand"
	"slices"
	"testing"

	"gurney/api"
)

// What is asked for is reckoned by the tests themselves: by a row of jobs in the order in which they came, which is searched for the one that comes ahead of all again and again, unit by unit, with the document's numbers written out.

// row is a queue by its words.
type row struct{ jobs []api.Job }

// numbers are any, at the edges of what jobs have, and such that low bits of them alone would do.
var numbers = []int{
	math.MinInt, math.MinInt + 1, -1<<40 - 1, -1 << 40, math.MinInt32, -1 << 32, -1001, -1000, -40, -2, -1,
	0, 1, 2, 3, 5, 9, 39, 40, 41, 255, 256, 999, 1000, 1001, 1002, 1 << 16, math.MaxInt32, 1 << 32, 1<<32 + 1, 1<<32 + 1000,
	1<<40 - 1, 1 << 40, 1<<40 + 1, 1 << 41, 1<<41 + 1, 1 << 62, math.MaxInt - 1, math.MaxInt,
}

func mayBe(j api.Job) bool {
	return j.Left > 0 && j.Left < 1001 && j.Since >= 0 && j.Since < 1099511627777 && j.By >= 0 && j.By < 1099511627777
}

// first is the place of the one that comes ahead of all.
func (r *row) first() int {
	best := 0
	for i, j := range r.jobs {
		b := r.jobs[best]
		if j.By < b.By || j.By == b.By && j.Bed < b.Bed {
			best = i
		}
	}
	return best
}

func (r *row) take(i int) api.Job {
	j := r.jobs[i]
	r.jobs = append(r.jobs[:i], r.jobs[i+1:]...)
	return j
}

func (r *row) push(j api.Job) api.Errno {
	switch {
	case !mayBe(j):
		return 1
	case len(r.jobs) == 40:
		return 7
	}
	r.jobs = append(r.jobs, j)
	return 0
}

func (r *row) work(units int) ([]api.Job, int) {
	var done []api.Job
	for units > 0 && len(r.jobs) > 0 {
		i := r.first()
		r.jobs[i].Left--
		units--
		if r.jobs[i].Left == 0 {
			done = append(done, r.take(i))
		}
	}
	if units < 1 {
		return done, 0
	}
	return done, units
}

func (r *row) late(now int) []api.Job {
	var late []api.Job
	for _, j := range r.list() {
		if j.By <= now {
			late = append(late, j)
		}
	}
	r.jobs = slices.DeleteFunc(r.jobs, func(j api.Job) bool { return j.By <= now })
	return late
}

func (r *row) drop(bed int) int {
	var kept []api.Job
	for _, j := range r.jobs {
		if j.Bed != bed {
			kept = append(kept, j)
		}
	}
	gone := len(r.jobs) - len(kept)
	r.jobs = kept
	return gone
}

func (r *row) list() []api.Job {
	rest := row{slices.Clone(r.jobs)}
	var all []api.Job
	for len(rest.jobs) > 0 {
		all = append(all, rest.take(rest.first()))
	}
	return all
}

func (r *row) left() int {
	sum := 0
	for _, j := range r.jobs {
		sum += j.Left
	}
	return sum
}

// both is a queue and its row, to which the same is done; what they answer is held against each other.
type both struct {
	t *testing.T
	q *Queue
	r row
}

func begin(t *testing.T) *both { return &both{t: t, q: New()} }

func (b *both) check() {
	b.t.Helper()
	if l := b.q.List(); !slices.Equal(l, b.r.list()) {
		b.t.Fatalf("List() = %v, not %v", l, b.r.list())
	}
	if n := b.q.Left(); n != b.r.left() {
		b.t.Fatalf("Left() = %d, not %d", n, b.r.left())
	}
}

func (b *both) push(j api.Job) api.Errno {
	b.t.Helper()
	e, want := b.q.Push(j), b.r.push(j)
	if e != want {
		b.t.Fatalf("Push(%v) = %d, not %d, behind %v", j, e, want, b.r.jobs)
	}
	b.check()
	return e
}

func (b *both) pushAll(l []api.Job) {
	b.t.Helper()
	for _, j := range l {
		if e := b.push(j); e != 0 {
			b.t.Fatalf("Push(%v) = %d", j, e)
		}
	}
}

func (b *both) work(units int) ([]api.Job, int) {
	b.t.Helper()
	ahead := b.r.list()
	done, over := b.q.Work(units)
	want, wantOver := b.r.work(units)
	if !slices.Equal(done, want) || over != wantOver {
		b.t.Fatalf("Work(%d) = %v, %d, not %v, %d, of %v", units, done, over, want, wantOver, ahead)
	}
	b.check()
	return done, over
}

func (b *both) late(now int) []api.Job {
	b.t.Helper()
	ahead := b.r.list()
	late, want := b.q.Late(now), b.r.late(now)
	if !slices.Equal(late, want) {
		b.t.Fatalf("Late(%d) = %v, not %v, of %v", now, late, want, ahead)
	}
	b.check()
	return late
}

func (b *both) drop(bed int) int {
	b.t.Helper()
	ahead := b.r.list()
	gone, want := b.q.Drop(bed), b.r.drop(bed)
	if gone != want {
		b.t.Fatalf("Drop(%d) = %d, not %d, of %v", bed, gone, want, ahead)
	}
	b.check()
	return gone
}

// job has a mark in its sample, by which those alike are told from each other.
func job(bed, by, left, mark int) api.Job {
	return api.Job{Bed: bed, Sample: api.Sample{Kind: 1 + mark%5, At: mark % 256, Value: mark}, Since: mark % 7, By: by, Left: left}
}

// jobs are so many that may be, of no order.
func jobs(many int) []api.Job {
	var l []api.Job
	for i := range many {
		l = append(l, job(i*7%5, 20-i*11%13, 1+i*5%9, i))
	}
	return l
}

func drawnJob(r *rand.Rand, beds, times, most, mark int) api.Job {
	return job(r.Intn(beds), r.Intn(times), 1+r.Intn(most), mark)
}

func marks(l []api.Job) []int {
	var m []int
	for _, j := range l {
		m = append(m, j.Sample.Value)
	}
	return m
}

func wantMarks(t *testing.T, what string, l []api.Job, want ...int) {
	t.Helper()
	if !slices.Equal(marks(l), want) {
		t.Errorf("%s: %v, not %v", what, marks(l), want)
	}
}

// orders hands on each order of the numbers below many.
func orders(many int, use func([]int)) {
	order := make([]int, 0, many)
	var goOn func()
	goOn = func() {
		if len(order) == many {
			use(order)
			return
		}
		for i := range many {
			if !slices.Contains(order, i) {
				order = append(order, i)
				goOn()
				order = order[:len(order)-1]
			}
		}
	}
	goOn()
}

// wrongJobs are ones that may not be, each by one part.
func wrongJobs() []api.Job {
	var l []api.Job
	for _, n := range numbers {
		j := job(1, 2, 3, 4)
		if n < 1 || n > 1000 {
			j.Left = n
			l = append(l, j)
		}
		if n < 0 || n > 1<<40 {
			j = job(1, n, 3, 4)
			l = append(l, j)
			j = job(1, 2, 3, 4)
			j.Since = n
			l = append(l, j)
		}
	}
	return l
}

// P12.1

func TestANewQueueIsWithoutJobs(t *testing.T) {
	q := New()
	if q == nil {
		t.Fatal("nil")
	}
	if l := q.List(); len(l) != 0 || q.Left() != 0 {
		t.Errorf("%v, %d", l, q.Left())
	}
	for _, n := range numbers {
		b := begin(t)
		b.check()
		b.late(n)
		if b.drop(n) != 0 {
			t.Errorf("Drop(%d)", n)
		}
		if d, over := b.work(n); len(d) != 0 || over != max(n, 0) {
			t.Errorf("Work(%d) = %v, %d", n, d, over)
		}
	}
}

func TestNewQueuesShareNothing(t *testing.T) {
	a, b := New(), New()
	a.Push(job(1, 5, 2, 1))
	if len(b.List()) != 0 || b.Left() != 0 {
		t.Errorf("%v", b.List())
	}
	b.Push(job(1, 5, 3, 2))
	a.Work(1)
	if d := b.Drop(1); d != 1 || a.Left() != 1 {
		t.Errorf("%d, %d", d, a.Left())
	}
}

func TestMayAtTheEdges(t *testing.T) {
	for left, want := range map[int]bool{-1: false, 0: false, 1: true, 2: true, 500: true, 999: true, 1000: true, 1001: false, 1 << 32: false, 1<<32 + 1: false, math.MaxInt: false, math.MinInt: false} {
		if j := job(1, 2, left, 3); May(j) != want {
			t.Errorf("of Left %d: %v", left, !want)
		}
	}
	for time, want := range map[int]bool{-1: false, 0: true, 1: true, 1 << 39: true, 1<<40 - 1: true, 1 << 40: true, 1<<40 + 1: false, 1 << 41: false, math.MaxInt: false, math.MinInt: false} {
		if j := job(1, time, 2, 3); May(j) != want {
			t.Errorf("of By %d: %v", time, !want)
		}
		j := job(1, 2, 2, 3)
		j.Since = time
		if May(j) != want {
			t.Errorf("of Since %d: %v", time, !want)
		}
	}
	if May(api.Job{}) {
		t.Error("of a zero job")
	}
}

func TestMayOfAnyNumbers(t *testing.T) {
	for _, left := range numbers {
		for _, since := range numbers {
			for _, by := range numbers {
				j := api.Job{Left: left, Since: since, By: by}
				if May(j) != mayBe(j) {
					t.Fatalf("May(%v) = %v", j, May(j))
				}
			}
		}
	}
	for _, n := range numbers {
		for _, j := range []api.Job{{Bed: n, Left: 1}, {Sample: api.Sample{Kind: n}, Left: 1}, {Sample: api.Sample{At: n}, Left: 1}, {Sample: api.Sample{Value: n}, Left: 1}} {
			if !May(j) || begin(t).push(j) != 0 {
				t.Errorf("May(%v) = %v", j, May(j))
			}
		}
	}
}

// A job may have come behind the time by which it must be done.
func TestMayOfSinceAboveBy(t *testing.T) {
	j := api.Job{Since: 9, By: 5, Left: 1}
	if !May(j) || begin(t).push(j) != 0 {
		t.Error("may not be")
	}
}

func TestPushBehindEachCount(t *testing.T) {
	b := begin(t)
	for i, j := range jobs(40) {
		if e := b.push(j); e != 0 || len(b.q.List()) != i+1 {
			t.Fatalf("the one at %d: %d", i, e)
		}
	}
	for range 3 {
		if e := b.push(job(0, 0, 1, 99)); e != 7 {
			t.Fatalf("behind 40: %d", e)
		}
	}
}

func TestPushOfWrongJobs(t *testing.T) {
	for _, many := range []int{0, 1, 5, 39} {
		b := begin(t)
		b.pushAll(jobs(many))
		for _, j := range wrongJobs() {
			if e := b.push(j); e != 1 || len(b.q.List()) != many {
				t.Fatalf("Push(%v) = %d", j, e)
			}
		}
	}
}

func TestPushTellsTheFirstError(t *testing.T) {
	b := begin(t)
	b.pushAll(jobs(40))
	for _, j := range wrongJobs() {
		if e := b.push(j); e != 1 {
			t.Fatalf("Push(%v) = %d", j, e)
		}
	}
	if e := b.push(job(1, 1, 1, 1)); e != 7 {
		t.Errorf("%d", e)
	}
}

func TestThereIsRoomBehindWhatWent(t *testing.T) {
	for name, goes := range map[string]func(b *both){
		"Work": func(b *both) { b.work(1) },
		"Late": func(b *both) { b.late(0) },
		"Drop": func(b *both) { b.drop(0) },
	} {
		b := begin(t)
		b.pushAll([]api.Job{job(0, 0, 1, 0)})
		for i := range 39 {
			b.pushAll([]api.Job{job(1, 9, 1, i)})
		}
		for i := range 100 {
			if e := b.push(job(2, 2, 2, 2)); e != 7 {
				t.Fatalf("%s, turn %d: %d", name, i, e)
			}
			goes(b)
			if e := b.push(job(0, 0, 1, i)); e != 0 {
				t.Fatalf("%s, turn %d: %d", name, i, e)
			}
		}
	}
}

func TestPartOfAJobTakesARoom(t *testing.T) {
	b := begin(t)
	for i := range 40 {
		b.pushAll([]api.Job{job(1, 1, 2, i)})
	}
	b.work(1)
	if e := b.push(job(1, 1, 1, 40)); e != 7 {
		t.Errorf("%d", e)
	}
	b.work(1)
	if e := b.push(job(1, 1, 1, 40)); e != 0 {
		t.Errorf("%d", e)
	}
}

func TestListOfEachOrder(t *testing.T) {
	l := []api.Job{job(1, 5, 1, 0), job(2, 5, 1, 1), job(0, 6, 1, 2), job(9, 4, 1, 3), job(2, 6, 1, 4), job(1, 7, 1, 5)}
	orders(len(l), func(order []int) {
		q := New()
		for _, i := range order {
			q.Push(l[i])
		}
		wantMarks(t, "List", q.List(), 3, 0, 1, 2, 4, 5)
	})
}

func TestListOfThoseAlikeInTheOrderInWhichTheyCame(t *testing.T) {
	for many := range 41 {
		b := begin(t)
		var want []int
		for i := range many {
			j := job(3, 8, 5, i)
			j.Since = 1000 - i
			b.pushAll([]api.Job{j})
			want = append(want, i)
		}
		wantMarks(t, "List", b.q.List(), want...)
		done, _ := b.work(5 * many)
		wantMarks(t, "Work", done, want...)
	}
}

// Neither Since, nor Left, nor the sample says what comes ahead.
func TestListByNothingElse(t *testing.T) {
	first := api.Job{Bed: 1, By: 5, Since: 9, Left: 9, Sample: api.Sample{Kind: 5, At: 9, Value: 9}}
	second := api.Job{Bed: 1, By: 5, Since: 1, Left: 1, Sample: api.Sample{Kind: 1, At: 1, Value: 1}}
	for _, l := range [][]api.Job{{first, second}, {second, first}} {
		b := begin(t)
		b.pushAll(l)
		if !slices.Equal(b.q.List(), l) {
			t.Errorf("%v, not %v", b.q.List(), l)
		}
	}
}

func TestListByByThenByBed(t *testing.T) {
	b := begin(t)
	b.pushAll([]api.Job{job(9, 5, 1, 0), job(0, 6, 1, 1), job(8, 5, 1, 2), job(9, 5, 1, 3), job(8, 5, 1, 4), job(-1, 6, 1, 5)})
	wantMarks(t, "List", b.q.List(), 2, 4, 0, 3, 5, 1)
}

// Beds may be any numbers, also such whose difference wraps round; times are at most 2^40.
func TestListOfFarBedsAndTimes(t *testing.T) {
	beds := []int{math.MinInt, math.MinInt + 1, -1 << 32, -1, 0, 1, 1 << 32, math.MaxInt - 1, math.MaxInt}
	times := []int{0, 1, 1 << 31, 1 << 32, 1<<32 + 1, 1<<40 - 1, 1 << 40}
	r := rand.New(rand.NewSource(1))
	for range 300 {
		b := begin(t)
		for i := range 40 {
			b.pushAll([]api.Job{job(beds[r.Intn(len(beds))], times[r.Intn(len(times))], 1, i)})
		}
		for range 10 {
			b.work(1 + r.Intn(3))
			b.drop(beds[r.Intn(len(beds))])
		}
	}
	b := begin(t)
	for i := range beds {
		b.pushAll([]api.Job{job(beds[len(beds)-1-i], 5, 1, i)})
	}
	wantMarks(t, "List", b.q.List(), 8, 7, 6, 5, 4, 3, 2, 1, 0)
}

func TestListHasJobsAsTheyCame(t *testing.T) {
	j := api.Job{Bed: 77, Sample: api.Sample{Kind: -3, At: 1 << 50, Value: math.MinInt}, Since: 1 << 40, By: 1<<40 - 1, Left: 1000}
	b := begin(t)
	b.pushAll([]api.Job{j})
	if l := b.q.List(); len(l) != 1 || l[0] != j {
		t.Errorf("%v", l)
	}
	b.work(1)
	j.Left = 999
	if l := b.q.List(); len(l) != 1 || l[0] != j {
		t.Errorf("%v", l)
	}
}

func TestLeftOfMany(t *testing.T) {
	b := begin(t)
	for i := range 40 {
		b.pushAll([]api.Job{job(i, 40-i, 1000, i)})
		if b.q.Left() != 1000*(i+1) {
			t.Errorf("%d of %d", b.q.Left(), i+1)
		}
	}
	b.work(12345)
	if b.q.Left() != 40000-12345 {
		t.Errorf("%d", b.q.Left())
	}
	b.drop(0)
	if b.q.Left() != 40000-12345-1000 {
		t.Errorf("%d", b.q.Left())
	}
	b.late(1 << 40)
	if b.q.Left() != 0 {
		t.Errorf("%d", b.q.Left())
	}
}

// P12.2

func TestWorkOfEachCountOfUnits(t *testing.T) {
	for many := range 12 {
		sum := 0
		for _, j := range jobs(many) {
			sum += j.Left
		}
		for units := -2; units <= sum+3; units++ {
			b := begin(t)
			b.pushAll(jobs(many))
			if _, over := b.work(units); over != max(0, units-sum) {
				t.Fatalf("Work(%d) of %d: %d are left over", units, sum, over)
			}
		}
	}
}

func TestWorkOfAnyUnits(t *testing.T) {
	for _, many := range []int{0, 1, 2, 40} {
		for _, units := range numbers {
			b := begin(t)
			b.pushAll(jobs(many))
			b.work(units)
			b.work(units)
		}
	}
}

func TestWorkOfFewerThanOneUnit(t *testing.T) {
	for _, units := range []int{0, -1, -3, -1000, math.MinInt} {
		b := begin(t)
		b.pushAll(jobs(5))
		ahead := b.q.List()
		if d, over := b.q.Work(units); len(d) != 0 || over != 0 || !slices.Equal(b.q.List(), ahead) {
			t.Errorf("Work(%d) = %v, %d", units, d, over)
		}
	}
}

func TestWorkAroundAJob(t *testing.T) {
	for _, left := range []int{2, 3, 10, 999, 1000} {
		j := job(1, 5, left, 7)
		done := j
		done.Left = 0
		for _, units := range []int{left - 1, left, left + 1, left + 1000, math.MaxInt} {
			q := New()
			q.Push(j)
			d, over := q.Work(units)
			switch {
			case units < left:
				if len(d) != 0 || over != 0 || q.Left() != left-units {
					t.Errorf("%d of %d: %v, %d", units, left, d, over)
				}
			case len(d) != 1 || d[0] != done || over != units-left || q.Left() != 0 || len(q.List()) != 0:
				t.Errorf("%d of %d: %v, %d", units, left, d, over)
			}
		}
	}
}

// What is begun is done later, unless another one comes ahead of it meanwhile.
func TestWorkOfAJobBitByBit(t *testing.T) {
	b := begin(t)
	b.pushAll([]api.Job{job(1, 5, 10, 0), job(1, 5, 1, 1), job(2, 6, 1, 2)})
	for i := range 9 {
		if d, over := b.work(1); len(d) != 0 || over != 0 || b.q.List()[0].Left != 9-i {
			t.Fatalf("turn %d: %v, %d", i, d, over)
		}
	}
	b.pushAll([]api.Job{job(0, 5, 2, 3), job(1, 4, 1, 4), job(1, 5, 3, 5)})
	d, over := b.work(4)
	wantMarks(t, "Work", d, 4, 3, 0)
	if over != 0 || d[2].Left != 0 || d[2] != (api.Job{Bed: 1, Sample: job(1, 5, 10, 0).Sample, By: 5}) {
		t.Errorf("%v, %d", d, over)
	}
	d, over = b.work(6)
	wantMarks(t, "Work", d, 1, 5, 2)
	if over != 1 {
		t.Errorf("%d", over)
	}
}

func TestWorkOfVeryManyUnits(t *testing.T) {
	b := begin(t)
	for i := range 40 {
		b.pushAll([]api.Job{job(i%3, i%4, 1000, i)})
	}
	if d, over := b.work(39999); len(d) != 39 || over != 0 || b.q.Left() != 1 {
		t.Errorf("%d, %d", len(d), over)
	}
	if d, over := b.work(math.MaxInt); len(d) != 1 || over != math.MaxInt-1 {
		t.Errorf("%d, %d", len(d), over)
	}
}

func TestLateAroundBy(t *testing.T) {
	for _, by := range []int{0, 1, 5, 1 << 32, 1<<40 - 1, 1 << 40} {
		for now, want := range map[int]int{by - 1: 0, by: 1, by + 1: 1, math.MinInt: 0, math.MaxInt: 1, -1: 0, 1<<40 + 1: 1} {
			b := begin(t)
			b.pushAll([]api.Job{job(1, by, 3, 7)})
			l := b.late(now)
			if len(l) != want || len(b.q.List()) != 1-want || want == 1 && l[0] != job(1, by, 3, 7) {
				t.Errorf("Late(%d) of one by %d: %v", now, by, l)
			}
		}
	}
}

func TestLateOfEachTime(t *testing.T) {
	for many := range 41 {
		for now := -1; now <= 22; now++ {
			b := begin(t)
			b.pushAll(jobs(many))
			b.late(now)
			if len(b.late(now)) != 0 {
				t.Fatalf("Late(%d) twice", now)
			}
			b.work(3)
		}
	}
}

func TestLateOfAnyTime(t *testing.T) {
	for _, now := range numbers {
		b := begin(t)
		for i, n := range numbers {
			b.push(job(i%3, n, 1+i, i))
		}
		b.late(now)
	}
}

// What is late has what is left of it.
func TestLateOfAJobThatIsBegun(t *testing.T) {
	b := begin(t)
	b.pushAll([]api.Job{job(1, 5, 10, 0), job(1, 5, 4, 1), job(1, 6, 4, 2)})
	b.work(3)
	l := b.late(5)
	wantMarks(t, "Late", l, 0, 1)
	if l[0].Left != 7 || l[1].Left != 4 || b.q.Left() != 4 {
		t.Errorf("%v", l)
	}
}

func TestDropOfEachBed(t *testing.T) {
	for many := range 41 {
		for bed := -1; bed <= 5; bed++ {
			b := begin(t)
			b.pushAll(jobs(many))
			b.drop(bed)
			if b.drop(bed) != 0 {
				t.Fatalf("Drop(%d) twice", bed)
			}
			b.work(2)
			b.drop(bed + 1)
		}
	}
}

func TestDropOfAnyBed(t *testing.T) {
	b := begin(t)
	for i, n := range numbers {
		b.push(job(n, i%4, 1, i))
	}
	for i, n := range numbers {
		if b.drop(n) != 1 || b.drop(n) != 0 || len(b.q.List()) != len(numbers)-1-i {
			t.Errorf("Drop(%d)", n)
		}
	}
}

func TestDropOfAllAndOfNone(t *testing.T) {
	for many := range 41 {
		b := begin(t)
		for i := range many {
			b.pushAll([]api.Job{job(4, i%6, 2, i)})
		}
		if b.drop(5) != 0 || b.drop(4) != many || b.q.Left() != 0 {
			t.Errorf("of %d", many)
		}
	}
}

// Those that stay keep the order in which they came.
func TestDropKeepsThoseAlikeInOrder(t *testing.T) {
	b := begin(t)
	var want []int
	for i := range 40 {
		b.pushAll([]api.Job{job(i%4, 5, 1, i)})
		if i%4 == 2 {
			want = append(want, i)
		}
	}
	b.drop(1)
	b.drop(3)
	b.drop(0)
	wantMarks(t, "List", b.q.List(), want...)
}

func TestANilQueue(t *testing.T) {
	var q *Queue
	for _, n := range numbers {
		if d, over := q.Work(n); len(d) != 0 || over != max(n, 0) {
			t.Errorf("Work(%d) = %v, %d", n, d, over)
		}
		if len(q.Late(n)) != 0 || q.Drop(n) != 0 {
			t.Errorf("of %d", n)
		}
	}
	for _, j := range append(wrongJobs(), jobs(40)...) {
		if e := q.Push(j); e != 1 {
			t.Errorf("Push(%v) = %d", j, e)
		}
	}
	if len(q.List()) != 0 || q.Left() != 0 {
		t.Error("has jobs")
	}
}

// step does one drawn thing to a queue.
func (b *both) step(r *rand.Rand, beds, times, most, mark int) {
	b.t.Helper()
	switch r.Intn(12) {
	case 0:
		b.late(r.Intn(times+2) - 1 - times/2)
	case 1:
		b.drop(r.Intn(beds+1) - 1)
	case 2, 3:
		b.work(r.Intn(3 * most))
	case 4:
		b.push(api.Job{Bed: 1, By: 1, Left: 1001 * r.Intn(2)})
	default:
		b.push(drawnJob(r, beds, times, most, mark))
	}
}

func TestDrawnSteps(t *testing.T) {
	r := rand.New(rand.NewSource(2))
	full := 0
	for range 400 {
		b := begin(t)
		beds, times, most := 1+r.Intn(8), 1+r.Intn(12), 1+r.Intn(9)
		for mark := range 250 {
			b.step(r, beds, times, most, mark)
			if len(b.r.jobs) == 40 {
				full++
			}
		}
	}
	if full < 100 {
		t.Errorf("only %d times there were 40", full)
	}
}

// P12.3

// isAheadOf says whether one comes ahead of another one, by their marks where all else is the same.
func isAheadOf(a, b api.Job) bool {
	if a.By != b.By {
		return a.By < b.By
	}
	if a.Bed != b.Bed {
		return a.Bed < b.Bed
	}
	return a.Sample.Value < b.Sample.Value
}

func TestNothingIsDoneAheadOfWhatComesAhead(t *testing.T) {
	r := rand.New(rand.NewSource(3))
	begun := 0
	for range 5000 {
		q := New()
		mark := 0
		for range 4 {
			for range r.Intn(12) {
				q.Push(drawnJob(r, 4, 6, 5, mark))
				mark++
			}
			ahead, left := q.List(), q.Left()
			units := r.Intn(40)
			done, over := q.Work(units)
			rest := q.List()
			checkWork(t, ahead, done, rest)
			if over > 0 && len(rest) > 0 || len(rest) == 0 && over != units-left || len(rest) > 0 && over != 0 {
				t.Fatalf("%d of %d are left over, behind it %v waits", over, units, rest)
			}
			if left-q.Left() != units-over {
				t.Fatalf("of %d units %d are left over, and %d of %d is left", units, over, q.Left(), left)
			}
			if len(rest) > 0 && rest[0].Left < ahead[len(done)].Left {
				begun++
			}
		}
	}
	if begun < 1000 {
		t.Errorf("only %d were begun", begun)
	}
}

// checkWork asks that what is done came ahead of all that waits, in order; of what waits the first one alone is turned.
func checkWork(t *testing.T, ahead, done, rest []api.Job) {
	t.Helper()
	for i, d := range done {
		for _, o := range append(slices.Clone(done[i+1:]), rest...) {
			if !isAheadOf(d, o) {
				t.Fatalf("%v is done ahead of %v", d, o)
			}
		}
		if d.Left != 0 {
			t.Fatalf("%v is done", d)
		}
	}
	if len(done)+len(rest) != len(ahead) {
		t.Fatalf("%d are done, %d wait, of %d", len(done), len(rest), len(ahead))
	}
	for i, a := range ahead {
		var now api.Job
		if i < len(done) {
			now, a.Left = done[i], 0
		} else {
			now = rest[i-len(done)]
		}
		if i == len(done) {
			if now.Left < 1 || now.Left > a.Left {
				t.Fatalf("%v was %v", now, a)
			}
			a.Left = now.Left
		}
		if now != a {
			t.Fatalf("%v was %v", now, a)
		}
	}
}

// So many units at once do what they do one by one.
func TestWorkInPiecesIsWorkAtOnce(t *testing.T) {
	r := rand.New(rand.NewSource(4))
	for range 3000 {
		whole, pieces := New(), New()
		for mark := range r.Intn(41) {
			j := drawnJob(r, 4, 6, 9, mark)
			whole.Push(j)
			pieces.Push(j)
		}
		units := r.Intn(250)
		done, over := whole.Work(units)
		var done2 []api.Job
		over2 := 0
		for units > 0 {
			piece := min(units, 1+r.Intn(20))
			d, o := pieces.Work(piece)
			units -= piece
			done2, over2 = append(done2, d...), over2+o
		}
		if !slices.Equal(done, done2) || over != over2 || !slices.Equal(whole.List(), pieces.List()) {
			t.Fatalf("%v, %d, and %v, %d", done, over, done2, over2)
		}
	}
}

// The chapter's example.

func TestTheExample(t *testing.T) {
	b := begin(t)
	b.pushAll([]api.Job{job(1, 9, 2, 0), job(1, 5, 2, 1)})
	d, over := b.q.Work(3)
	done := job(1, 5, 2, 1)
	done.Left = 0
	if len(d) != 1 || d[0] != done || over != 0 {
		t.Errorf("%v, %d", d, over)
	}
	if l := b.q.List(); len(l) != 1 || l[0] != job(1, 9, 1, 0) || b.q.Left() != 1 {
		t.Errorf("%v", l)
	}
}

// Rules 1, 3, 4 and 6 of all calls.

func TestAnyNumbersInAnyOrder(t *testing.T) {
	r := rand.New(rand.NewSource(5))
	drawn := func() int { return numbers[r.Intn(len(numbers))] }
	waited := 0
	for range 600 {
		b := begin(t)
		for range 120 {
			switch r.Intn(20) {
			case 0:
				b.work(drawn())
			case 1:
				b.late(drawn())
			case 2:
				b.drop(drawn())
			default:
				b.push(api.Job{Bed: drawn(), Sample: api.Sample{Kind: drawn(), At: drawn(), Value: drawn()}, Since: drawn(), By: drawn(), Left: drawn()})
			}
			waited += len(b.r.jobs)
		}
	}
	if waited < 10000 {
		t.Errorf("only %d waited", waited)
	}
}

// spoil turns all of a list, its spare room too.
func spoil(l []api.Job) {
	l = l[:cap(l)]
	for i := range l {
		l[i] = api.Job{Bed: -5, Since: -5, By: -5, Left: -5, Sample: api.Sample{Kind: -5, At: -5, Value: -5}}
	}
}

func TestAnswersAreNewMemory(t *testing.T) {
	r := rand.New(rand.NewSource(6))
	for range 80 {
		b := begin(t)
		var kept, want [][]api.Job
		for mark := range 120 {
			b.push(drawnJob(r, 4, 9, 5, mark))
			var l []api.Job
			switch r.Intn(8) {
			case 0:
				l, _ = b.work(r.Intn(12))
			case 1:
				l = b.late(r.Intn(6) - 2)
			case 2:
				l = b.q.List()
			default:
				continue
			}
			if r.Intn(2) == 0 {
				spoil(l)
				b.check()
			} else {
				kept, want = append(kept, l), append(want, slices.Clone(l))
			}
			spoil(b.q.List())
			b.check()
		}
		for i, l := range kept {
			if !slices.Equal(l, want[i]) {
				t.Fatalf("an answer was %v, and is %v", want[i], l)
			}
		}
	}
}

// Asking turns nothing.
func TestListAndLeftTurnNothing(t *testing.T) {
	r := rand.New(rand.NewSource(7))
	for range 300 {
		asked, other := New(), New()
		for mark := range 100 {
			j := drawnJob(r, 3, 5, 4, mark)
			asked.List()
			asked.Left()
			May(j)
			if e, f := asked.Push(j), other.Push(j); e != f {
				t.Fatalf("%d, %d", e, f)
			}
			units := r.Intn(4)
			d, over := asked.Work(units)
			d2, over2 := other.Work(units)
			if !slices.Equal(d, d2) || over != over2 {
				t.Fatalf("%v, %d, and %v, %d", d, over, d2, over2)
			}
		}
		if !slices.Equal(asked.List(), other.List()) || asked.Left() != other.Left() {
			t.Fatalf("%v, and %v", asked.List(), other.List())
		}
	}
}

// A queue that others went through answers as a new one does, of which the same waits.
func TestAnswersHangOnWhatWaits(t *testing.T) {
	r := rand.New(rand.NewSource(8))
	for range 200 {
		old := begin(t)
		for mark := range 150 {
			old.step(r, 4, 7, 5, mark)
		}
		fresh := New()
		for _, j := range old.q.List() {
			fresh.Push(j)
		}
		for mark := range 30 {
			j := drawnJob(r, 4, 7, 5, mark)
			units := r.Intn(6)
			d, over := fresh.Work(units)
			d2, over2 := old.work(units)
			if !slices.Equal(d, d2) || over != over2 || fresh.Push(j) != old.push(j) || !slices.Equal(fresh.List(), old.q.List()) {
				t.Fatalf("%v, %d, and %v, %d", d, over, d2, over2)
			}
		}
	}
}
