package load

import (
	"math"
	"math/big"
	"math/rand"
	"slices"
	"testing"

	"gurney/api"
)

// What is asked for is reckoned by the tests themselves: by loads of a unit that are written out, by numbers of any size, by counts of each Id and Tx, with the document's numbers written out.

// unitLoads are the loads of Cost 1, by the periods that may be.
var unitLoads = map[int]int{1: 60, 2: 30, 3: 20, 4: 15, 5: 12, 6: 10, 10: 6, 12: 5, 15: 4, 20: 3, 30: 2, 60: 1}

var periods = []int{1, 2, 3, 4, 5, 6, 10, 12, 15, 20, 30, 60}

// numbers are any, at the edges of what beds have, and such that low bits of them alone would do.
var numbers = []int{
	math.MinInt, math.MinInt + 1, math.MinInt32, -1 << 32, -1001, -1000, -256, -255, -100, -60, -30, -10, -9, -4, -2, -1,
	0, 1, 2, 3, 4, 5, 7, 8, 9, 10, 11, 29, 30, 31, 59, 60, 61, 98, 99, 100, 101, 120, 254, 255, 256, 257, 999, 1000, 1001,
	1 << 16, math.MaxInt32, 1 << 32, 1<<32 + 1, 1<<32 + 60, 1 << 62, math.MaxInt - 1, math.MaxInt,
}

// capacities are any; some times 60 wrap round to small numbers, or to ones below 0.
var capacities = []int{
	math.MinInt, math.MinInt + 1, math.MinInt/60 - 1, math.MinInt / 60, math.MinInt32, -10000, -100, -2, -1,
	0, 1, 2, 3, 99, 100, 101, 799, 800, 801, 9999, 10000, 10001,
	math.MaxInt32, 1 << 32, math.MaxInt / 60, math.MaxInt/60 + 1, math.MaxInt / 30, math.MaxInt/30 + 1, 1 << 62, 1<<62 + 1, math.MaxInt - 59, math.MaxInt - 1, math.MaxInt,
}

func mayBe(b api.Bed) bool {
	_, divides := unitLoads[b.Period]
	return b.Id >= 0 && b.Id < 100 && b.Tx >= 0 && b.Tx < 256 && divides && b.Cost > 0 && b.Cost < 101 && b.Watch > 0 && b.Watch < 1001 && b.Prio >= 0 && b.Prio < 10
}

func loadOf(b api.Bed) int {
	if !mayBe(b) {
		return 0
	}
	return b.Cost * unitLoads[b.Period]
}

func sumOf(l []api.Bed) int {
	sum := 0
	for _, b := range l {
		sum += loadOf(b)
	}
	return sum
}

func isTaken(sum, capacity int) bool {
	most := new(big.Int).Mul(big.NewInt(int64(capacity)), big.NewInt(60))
	return big.NewInt(int64(sum)).Cmp(most) <= 0
}

func doFit(l []api.Bed, capacity int) bool {
	ids, txs := map[int]int{}, map[int]int{}
	for _, b := range l {
		ids[b.Id]++
		txs[b.Tx]++
		if !mayBe(b) || ids[b.Id] > 1 || txs[b.Tx] > 1 {
			return false
		}
	}
	return len(l) <= 8 && isTaken(sumOf(l), capacity)
}

func findOf(l []api.Bed, id int) int {
	for i, b := range l {
		if b.Id == id {
			return i
		}
	}
	return -1
}

func ownerOf(l []api.Bed, tx int) int {
	for i, b := range l {
		if b.Tx == tx {
			return i
		}
	}
	return -1
}

func admitError(l []api.Bed, b api.Bed, capacity int) api.Errno {
	if !mayBe(b) {
		return 1
	}
	if findOf(l, b.Id) >= 0 || ownerOf(l, b.Tx) >= 0 {
		return 9
	}
	if len(l) >= 8 {
		return 7
	}
	if !isTaken(sumOf(l)+loadOf(b), capacity) {
		return 10
	}
	return 0
}

// least and most have each number at its bound.
func least() api.Bed { return api.Bed{Id: 0, Tx: 0, Period: 1, Cost: 1, Watch: 1, Prio: 0} }

func most() api.Bed { return api.Bed{Id: 99, Tx: 255, Period: 60, Cost: 100, Watch: 1000, Prio: 9} }

// bed is one that may be, as light as one is.
func bed(id, tx int) api.Bed { return api.Bed{Id: id, Tx: tx, Period: 60, Cost: 1, Watch: 5} }

// bedsOf are so many that may be, with Ids from 0 and Txs from 100 on.
func bedsOf(many int) []api.Bed {
	var l []api.Bed
	for i := range many {
		l = append(l, bed(i, i+100))
	}
	return l
}

// bedsOfLoad are eight or fewer whose loads are that together, at most 6,000 each.
func bedsOfLoad(load int) []api.Bed {
	var l []api.Bed
	add := func(period, cost int) {
		b := bed(len(l), len(l)+100)
		b.Period, b.Cost = period, cost
		l = append(l, b)
	}
	for ; load >= 6000; load -= 6000 {
		add(1, 100)
	}
	if load >= 60 {
		add(1, load/60)
	}
	if load%60 > 0 {
		add(60, load%60)
	}
	return l
}

// fields are a bed's numbers, one after the other.
func fields(b *api.Bed) []*int {
	return []*int{&b.Id, &b.Tx, &b.Period, &b.Cost, &b.Watch, &b.Prio}
}

// wrongBeds have one number or more that may not be.
func wrongBeds() []api.Bed {
	l := []api.Bed{{}, {Id: -1, Tx: -1, Period: -1, Cost: -1, Watch: -1, Prio: -1}, {Id: 50, Tx: 50, Period: 7, Cost: 101, Watch: 5}}
	tooMuch := []int{100, 256, 61, 101, 1001, 10}
	tooLittle := []int{-1, -1, 0, 0, 0, -1}
	for i := range tooMuch {
		for _, n := range []int{tooMuch[i], tooLittle[i], math.MinInt, math.MaxInt, 1<<32 + 1, -60} {
			b := bed(50, 50)
			*fields(&b)[i] = n
			l = append(l, b)
		}
	}
	for _, n := range []int{7, 8, 9, 11, 59, 120} {
		b := bed(50, 50)
		b.Period = n
		l = append(l, b)
	}
	return l
}

// drawnBed is mostly one that may be, of few Ids and Txs.
func drawnBed(r *rand.Rand) api.Bed {
	b := api.Bed{Id: r.Intn(30), Tx: r.Intn(30), Period: periods[r.Intn(len(periods))], Cost: 1 + r.Intn(100), Watch: 1 + r.Intn(1000), Prio: r.Intn(10)}
	if r.Intn(12) == 0 {
		*fields(&b)[r.Intn(6)] = numbers[r.Intn(len(numbers))]
	}
	return b
}

func drawnBeds(r *rand.Rand, many int) []api.Bed {
	var l []api.Bed
	for range many {
		l = append(l, drawnBed(r))
	}
	return l
}

// fittingBeds are drawn so that they fit.
func fittingBeds(r *rand.Rand, many, capacity int) []api.Bed {
	var l []api.Bed
	for range many {
		if b := drawnBed(r); doFit(append(slices.Clone(l), b), capacity) {
			l = append(l, b)
		}
	}
	return l
}

func checkFits(t *testing.T, l []api.Bed, capacity int, want bool) {
	t.Helper()
	if got := Fits(l, capacity); got != want {
		t.Fatalf("Fits(%v, %d) = %v", l, capacity, got)
	}
}

// checkAdmit asks for the error, and for the beds that stand or don't beside it.
func checkAdmit(t *testing.T, l []api.Bed, b api.Bed, capacity int, want api.Errno) {
	t.Helper()
	got, e := Admit(l, b, capacity)
	var beds []api.Bed
	if want == 0 {
		beds = append(append(beds, l...), b)
	}
	if e != want || !slices.Equal(got, beds) {
		t.Fatalf("Admit(%v, %v, %d) = %v, %d, want %v, %d", l, b, capacity, got, e, beds, want)
	}
}

func checkDischarge(t *testing.T, l []api.Bed, id int, want []api.Bed, wantError api.Errno) {
	t.Helper()
	got, e := Discharge(l, id)
	if e != wantError || !slices.Equal(got, want) {
		t.Fatalf("Discharge(%v, %d) = %v, %d, want %v, %d", l, id, got, e, want, wantError)
	}
}

func checkPlaces(t *testing.T, l []api.Bed, n int) {
	t.Helper()
	if got, want := Find(l, n), findOf(l, n); got != want {
		t.Fatalf("Find(%v, %d) = %d, want %d", l, n, got, want)
	}
	if got, want := Owner(l, n), ownerOf(l, n); got != want {
		t.Fatalf("Owner(%v, %d) = %d, want %d", l, n, got, want)
	}
}

// P11.1: May

func TestMayAtEachBound(t *testing.T) {
	if !May(least()) || !May(most()) {
		t.Fatalf("beds with all numbers at their bounds: %v, %v", May(least()), May(most()))
	}
	bounds := [6][2]int{{0, 99}, {0, 255}, {1, 60}, {1, 100}, {1, 1000}, {0, 9}}
	for _, whole := range []api.Bed{least(), most(), bed(7, 200)} {
		for i, x := range bounds {
			for n, want := range map[int]bool{x[0] - 1: false, x[0]: true, x[1]: true, x[1] + 1: false} {
				b := whole
				*fields(&b)[i] = n
				if May(b) != want {
					t.Errorf("May(%v), its number %d %d: %v", b, i, n, May(b))
				}
			}
		}
	}
}

func TestMayOfEachNumberOfEachField(t *testing.T) {
	for _, whole := range []api.Bed{least(), most()} {
		for i := range 6 {
			for n := -1100; n <= 1100; n++ {
				b := whole
				*fields(&b)[i] = n
				if May(b) != mayBe(b) {
					t.Fatalf("May(%v) = %v", b, May(b))
				}
			}
		}
	}
}

func TestMayOfEachPeriod(t *testing.T) {
	for n := -3700; n <= 3700; n++ {
		b := bed(3, 4)
		b.Period = n
		if May(b) != slices.Contains(periods, n) {
			t.Errorf("May with the Period %d: %v", n, May(b))
		}
	}
}

func TestMayOfWrongBeds(t *testing.T) {
	for _, b := range wrongBeds() {
		if May(b) {
			t.Errorf("May(%v)", b)
		}
	}
}

// P11.1: Of and Sum

func TestOfEachPeriodAndCost(t *testing.T) {
	for _, period := range periods {
		for cost := 1; cost <= 100; cost++ {
			b := api.Bed{Id: cost % 100, Tx: 255 - cost, Period: period, Cost: cost, Watch: 10 * cost, Prio: cost % 10}
			if got := Of(b); got != cost*unitLoads[period] || got*period != cost*60 {
				t.Errorf("Of(%v) = %d", b, got)
			}
		}
	}
}

func TestOfTheOtherNumbersDoesNotMatter(t *testing.T) {
	for _, b := range []api.Bed{least(), most(), bed(9, 9)} {
		b.Period, b.Cost = 12, 7
		if Of(b) != 35 {
			t.Errorf("Of(%v) = %d", b, Of(b))
		}
	}
}

func TestOfWrongBedsIsNought(t *testing.T) {
	for _, b := range wrongBeds() {
		if Of(b) != 0 {
			t.Errorf("Of(%v) = %d", b, Of(b))
		}
	}
}

func TestSumOfNoneOneAndMany(t *testing.T) {
	if Sum(nil) != 0 || Sum([]api.Bed{}) != 0 {
		t.Errorf("of no bed %d, %d", Sum(nil), Sum([]api.Bed{}))
	}
	for _, b := range []api.Bed{least(), most(), bed(1, 2)} {
		if Sum([]api.Bed{b}) != loadOf(b) {
			t.Errorf("of %v alone %d", b, Sum([]api.Bed{b}))
		}
	}
	r := rand.New(rand.NewSource(1))
	for many := range 60 {
		l := drawnBeds(r, many)
		if Sum(l) != sumOf(l) {
			t.Errorf("of %v %d, not %d", l, Sum(l), sumOf(l))
		}
	}
}

func TestSumWithWrongBedsAtEachPlace(t *testing.T) {
	for _, wrong := range wrongBeds() {
		if Sum([]api.Bed{wrong}) != 0 {
			t.Errorf("of %v alone %d", wrong, Sum([]api.Bed{wrong}))
		}
		for i := range 6 {
			l := bedsOf(6)
			l[i] = wrong
			if Sum(l) != 5 {
				t.Errorf("with %v at %d: %d", wrong, i, Sum(l))
			}
		}
	}
}

func TestSumOfVeryMany(t *testing.T) {
	heavy := bed(1, 1)
	heavy.Period, heavy.Cost = 1, 100
	if got := Sum(slices.Repeat([]api.Bed{heavy}, 1<<20)); got != 6000<<20 {
		t.Errorf("%d", got)
	}
}

// P11.1: Fits

func TestFitsOfEachCount(t *testing.T) {
	for many := range 40 {
		for _, capacity := range []int{1, 2, 10000} {
			checkFits(t, bedsOf(many), capacity, many <= 8)
		}
	}
	checkFits(t, nil, 0, true)
	checkFits(t, []api.Bed{}, 0, true)
	checkFits(t, nil, 10000, true)
}

func TestFitsWithAWrongBedAtEachPlace(t *testing.T) {
	for many := 1; many <= 8; many++ {
		for i := range many {
			for _, wrong := range wrongBeds() {
				l := bedsOf(many)
				l[i] = wrong
				checkFits(t, l, 10000, false)
			}
		}
	}
}

func TestFitsWithAnIdOrATxTwice(t *testing.T) {
	for many := 2; many <= 8; many++ {
		for i := range many {
			for j := range i {
				l := bedsOf(many)
				l[i].Id = l[j].Id
				checkFits(t, l, 10000, false)
				l = bedsOf(many)
				l[i].Tx = l[j].Tx
				checkFits(t, l, 10000, false)
				l[i].Id = l[j].Id
				checkFits(t, l, 10000, false)
			}
		}
	}
}

func TestAnIdThatIsAnothersTxIsNotTwice(t *testing.T) {
	var l []api.Bed
	for i := range 8 {
		l = append(l, bed(i, (i+3)%8))
	}
	checkFits(t, l, 1, true)
	for i := range l {
		l[i].Tx = i
	}
	checkFits(t, l, 1, true)
}

func TestFitsJustAtEachCapacity(t *testing.T) {
	for capacity := range 700 {
		checkFits(t, bedsOfLoad(60*capacity), capacity, true)
		checkFits(t, bedsOfLoad(60*capacity+1), capacity, false)
		checkFits(t, bedsOfLoad(60*capacity+59), capacity, false)
		checkFits(t, bedsOfLoad(60*capacity+60), capacity, false)
		if capacity > 0 {
			checkFits(t, bedsOfLoad(60*capacity-1), capacity, true)
			checkFits(t, bedsOfLoad(60*capacity-59), capacity, true)
		}
	}
}

func TestFitsOfTheLeastAndTheGreatestCapacity(t *testing.T) {
	checkFits(t, bedsOf(1), 0, false)
	checkFits(t, bedsOf(8), 0, false)
	all := bedsOfLoad(8 * 6000)
	if len(all) != 8 {
		t.Fatalf("%d beds", len(all))
	}
	checkFits(t, all, 10000, true)
	checkFits(t, all, 800, true)
	checkFits(t, all, 799, false)
	checkFits(t, all, 0, false)
}

func TestFitsOfAnyCapacity(t *testing.T) {
	lists := [][]api.Bed{nil, bedsOf(1), bedsOf(8), bedsOf(9), bedsOfLoad(60), bedsOfLoad(61), bedsOfLoad(6000), bedsOfLoad(47999), bedsOfLoad(48000), wrongBeds()[:1]}
	for _, capacity := range capacities {
		for _, l := range lists {
			checkFits(t, l, capacity, doFit(l, capacity))
		}
	}
}

func TestFitsOfDrawnBeds(t *testing.T) {
	r := rand.New(rand.NewSource(2))
	fit := 0
	for range 100000 {
		l := drawnBeds(r, r.Intn(11))
		capacity := max(0, sumOf(l)/60+r.Intn(3)-1)
		want := doFit(l, capacity)
		checkFits(t, l, capacity, want)
		if want {
			fit++
		}
	}
	if fit < 5000 || fit > 95000 {
		t.Errorf("%d of 100000 fit", fit)
	}
}

// P11.1: Find and Owner

func TestFindAndOwnerOfEachPlace(t *testing.T) {
	l := bedsOf(8)
	for i := range l {
		if Find(l, i) != i || Owner(l, i+100) != i || Find(l[i:], i) != 0 || Owner(l[i:], i+100) != 0 {
			t.Errorf("of %d: %d, %d", i, Find(l, i), Owner(l, i+100))
		}
		if Find(l[:i], i) != -1 || Owner(l[:i], i+100) != -1 || Find(l, i+100) != -1 || Owner(l, i) != -1 {
			t.Errorf("without %d: %d, %d", i, Find(l[:i], i), Owner(l[:i], i+100))
		}
	}
}

func TestFindAndOwnerOfAnEmptyList(t *testing.T) {
	for _, n := range numbers {
		for _, l := range [][]api.Bed{nil, {}, bedsOf(8)[:0]} {
			if Find(l, n) != -1 || Owner(l, n) != -1 {
				t.Errorf("of %d: %d, %d", n, Find(l, n), Owner(l, n))
			}
		}
	}
}

func TestFindAndOwnerOfTheFirstOfSeveral(t *testing.T) {
	for i := range 8 {
		for j := i; j < 8; j++ {
			l := bedsOf(8)
			for k := i; k <= j; k++ {
				l[k].Id, l[k].Tx = 77, 88
			}
			if Find(l, 77) != i || Owner(l, 88) != i || Find(l, 88) != -1 || Owner(l, 77) != -1 {
				t.Errorf("from %d to %d: %d, %d", i, j, Find(l, 77), Owner(l, 88))
			}
		}
	}
}

func TestFindAndOwnerOfAnyNumbers(t *testing.T) {
	var l []api.Bed
	for _, n := range numbers {
		checkPlaces(t, l, n)
		l = append(l, api.Bed{Id: n, Tx: -n - 7})
		for _, m := range numbers {
			checkPlaces(t, l, m)
			checkPlaces(t, l, -m-7)
		}
	}
}

func TestFindAndOwnerOfDrawnBeds(t *testing.T) {
	r := rand.New(rand.NewSource(3))
	for range 2000 {
		l := drawnBeds(r, r.Intn(40))
		for n := -2; n < 32; n++ {
			checkPlaces(t, l, n)
		}
	}
}

// P11.2

func TestAdmitBehindEachCount(t *testing.T) {
	for many := range 8 {
		for _, b := range []api.Bed{bed(50, 50), bed(99, 255), bed(60, 0), {Id: 98, Tx: 1, Period: 4, Cost: 3, Watch: 1000, Prio: 9}} {
			checkAdmit(t, bedsOf(many), b, 10000, 0)
			checkAdmit(t, bedsOf(many), b, 1, 0)
		}
	}
	checkAdmit(t, nil, least(), 1, 0)
	checkAdmit(t, []api.Bed{}, most(), 10000, 0)
}

func TestAdmitOfWrongBeds(t *testing.T) {
	for _, b := range wrongBeds() {
		for _, many := range []int{0, 1, 7} {
			checkAdmit(t, bedsOf(many), b, 10000, 1)
		}
	}
}

func TestAdmitTwiceAtEachPlace(t *testing.T) {
	for many := 1; many <= 7; many++ {
		for i := range many {
			checkAdmit(t, bedsOf(many), bed(i, 50), 10000, 9)
			checkAdmit(t, bedsOf(many), bed(50, i+100), 10000, 9)
			checkAdmit(t, bedsOf(many), bed(i, i+100), 10000, 9)
			checkAdmit(t, bedsOf(many), bed((i+1)%many, i+100), 10000, 9)
			checkAdmit(t, bedsOf(many), bed(50, i), 10000, 0)
		}
	}
}

func TestAdmitToFullLists(t *testing.T) {
	checkAdmit(t, bedsOf(7), bed(50, 50), 10000, 0)
	for _, many := range []int{8, 9, 10, 16, 40} {
		checkAdmit(t, bedsOf(many), bed(50, 50), 10000, 7)
	}
}

func TestAdmitJustAtEachCapacity(t *testing.T) {
	for capacity := range 600 {
		b := bed(50, 50)
		if capacity > 0 {
			checkAdmit(t, bedsOfLoad(60*capacity-1), b, capacity, 0)
			checkAdmit(t, bedsOfLoad(60*capacity-2), b, capacity, 0)
		}
		checkAdmit(t, bedsOfLoad(60*capacity), b, capacity, 10)
		b.Cost = 59
		checkAdmit(t, bedsOfLoad(60*capacity+1), b, capacity+1, 0)
		checkAdmit(t, bedsOfLoad(60*capacity+2), b, capacity+1, 10)
	}
	for _, b := range []api.Bed{least(), most(), bed(1, 1)} {
		checkAdmit(t, nil, b, 0, 10)
	}
}

func TestAdmitOfEachLoadAlone(t *testing.T) {
	for _, period := range periods {
		for cost := 1; cost <= 100; cost++ {
			b := bed(1, 1)
			b.Period, b.Cost = period, cost
			need := (cost + period - 1) / period
			checkAdmit(t, nil, b, need, 0)
			checkAdmit(t, nil, b, need-1, 10)
		}
	}
}

// The errors 1, 9, 7 and 10, in this order: each two of them together, and all.
func TestAdmitTellsTheFirstError(t *testing.T) {
	for _, wrong := range wrongBeds() {
		same := append(bedsOf(1), wrong)
		checkAdmit(t, same, wrong, 10000, 1)
		checkAdmit(t, bedsOf(8), wrong, 10000, 1)
		checkAdmit(t, bedsOf(3), wrong, 0, 1)
		checkAdmit(t, append(bedsOf(8), wrong), wrong, 0, 1)
	}
	for i := range 8 {
		for _, b := range []api.Bed{bed(i, 50), bed(50, i+100)} {
			checkAdmit(t, bedsOf(8), b, 10000, 9)
			checkAdmit(t, bedsOf(i+1), b, 0, 9)
			checkAdmit(t, bedsOf(8), b, 0, 9)
			checkAdmit(t, bedsOf(12), b, 0, 9)
		}
	}
	checkAdmit(t, bedsOf(8), bed(50, 50), 0, 7)
	checkAdmit(t, bedsOfLoad(48000), bed(50, 50), 800, 7)
}

// Beds that may not be count for nothing, but their Ids and Txs are there, and they take room.
func TestAdmitToBedsThatDoNotFit(t *testing.T) {
	wrong := api.Bed{Id: 7, Tx: 8, Period: 1, Cost: 101, Watch: 1}
	checkAdmit(t, []api.Bed{wrong}, bed(1, 2), 1, 0)
	checkAdmit(t, []api.Bed{wrong}, bed(7, 2), 1, 9)
	checkAdmit(t, []api.Bed{wrong}, bed(1, 8), 1, 9)
	checkAdmit(t, slices.Repeat([]api.Bed{wrong}, 7), bed(1, 2), 1, 0)
	checkAdmit(t, slices.Repeat([]api.Bed{wrong}, 8), bed(1, 2), 1, 7)
	checkAdmit(t, bedsOfLoad(240), bed(50, 50), 1, 10)
	twice := []api.Bed{bed(3, 4), bed(3, 4)}
	checkAdmit(t, twice, bed(1, 2), 1, 0)
	checkAdmit(t, twice, bed(3, 5), 1, 9)
}

func TestAdmitOfAnyCapacity(t *testing.T) {
	for _, capacity := range capacities {
		for _, l := range [][]api.Bed{nil, bedsOf(1), bedsOf(7), bedsOf(8), bedsOfLoad(59), bedsOfLoad(60), bedsOfLoad(41999), bedsOfLoad(42000)} {
			for _, b := range []api.Bed{bed(50, 50), most(), bed(0, 50), {}} {
				checkAdmit(t, l, b, capacity, admitError(l, b, capacity))
			}
		}
	}
}

func TestAdmitOfDrawnBeds(t *testing.T) {
	r := rand.New(rand.NewSource(4))
	told := map[api.Errno]int{}
	for range 100000 {
		l, b := drawnBeds(r, r.Intn(10)), drawnBed(r)
		capacity := max(0, (sumOf(l)+loadOf(b))/60+r.Intn(3)-1)
		want := admitError(l, b, capacity)
		checkAdmit(t, l, b, capacity, want)
		told[want]++
	}
	for _, e := range []api.Errno{0, 1, 7, 9, 10} {
		if told[e] < 1000 {
			t.Errorf("the error %d was told %d times", e, told[e])
		}
	}
}

// P11.3

func TestDischargeAtEachPlace(t *testing.T) {
	for many := 1; many <= 12; many++ {
		for i := range many {
			var want []api.Bed
			for j, b := range bedsOf(many) {
				if j != i {
					want = append(want, b)
				}
			}
			checkDischarge(t, bedsOf(many), i, want, 0)
		}
	}
}

func TestDischargeWithoutTheBed(t *testing.T) {
	for many := range 12 {
		for _, id := range []int{-1, many, many + 1, 99, 100, 101, 107, math.MinInt, math.MaxInt, 1 << 32} {
			checkDischarge(t, bedsOf(many), id, nil, 8)
		}
	}
	for _, id := range numbers {
		checkDischarge(t, nil, id, nil, 8)
		checkDischarge(t, []api.Bed{}, id, nil, 8)
	}
}

func TestDischargeOfBedsThatMayNotBe(t *testing.T) {
	for _, n := range numbers {
		l := []api.Bed{{Id: n - 1, Tx: n}, {Id: n, Tx: n - 1}, {Id: n + 1, Tx: n}}
		checkDischarge(t, l, n, []api.Bed{l[0], l[2]}, 0)
	}
}

func TestDischargeOfOneOfSeveral(t *testing.T) {
	for i := range 5 {
		for j := range i {
			l := bedsOf(5)
			l[i].Id, l[j].Id = 70, 70
			checkDischarge(t, l, 70, append(slices.Clone(l[:j]), l[j+1:]...), 0)
		}
	}
}

func TestWhatIsAdmittedAndDischargedLeavesNothing(t *testing.T) {
	for many := range 8 {
		l, _ := Admit(bedsOf(many), bed(50, 50), 10000)
		checkDischarge(t, l, 50, bedsOf(many), 0)
	}
}

// P11.4

func TestBedsFitJustIfTheOneIsAdmitted(t *testing.T) {
	r := rand.New(rand.NewSource(5))
	admitted, full := 0, 0
	for range 40000 {
		capacity := r.Intn(400)
		l, b := fittingBeds(r, r.Intn(24), capacity), drawnBed(r)
		if !Fits(l, capacity) {
			t.Fatalf("%v don't fit %d", l, capacity)
		}
		m, e := Admit(l, b, capacity)
		if (e == 0) != Fits(append(slices.Clone(l), b), capacity) || e == 0 && !Fits(m, capacity) {
			t.Fatalf("Admit(%v, %v, %d) = %v, %d", l, b, capacity, m, e)
		}
		if e == 0 {
			admitted++
		}
		if e == 7 {
			full++
		}
	}
	if admitted < 2000 || full < 500 {
		t.Errorf("%d were admitted, %d found it full", admitted, full)
	}
}

func TestBedsThatFitLessOneFit(t *testing.T) {
	r := rand.New(rand.NewSource(6))
	for range 20000 {
		capacity := r.Intn(400)
		l := fittingBeds(r, r.Intn(16), capacity)
		for i, b := range l {
			m, e := Discharge(l, b.Id)
			if e != 0 || len(m) != len(l)-1 || Find(m, b.Id) != -1 || !Fits(m, capacity) {
				t.Fatalf("Discharge(%v, %d), at %d: %v, %d", l, b.Id, i, m, e)
			}
		}
	}
}

func TestBedsThatComeAndGoFit(t *testing.T) {
	r := rand.New(rand.NewSource(7))
	for _, capacity := range []int{0, 1, 2, 7, 60, 300, 10000} {
		var l, model []api.Bed
		for range 3000 {
			if b := drawnBed(r); r.Intn(3) > 0 {
				if m, e := Admit(l, b, capacity); e == 0 {
					l, model = m, append(model, b)
				}
			} else if m, e := Discharge(l, b.Id); e == 0 {
				l, model = m, slices.DeleteFunc(model, func(o api.Bed) bool { return o.Id == b.Id })
			}
			if !slices.Equal(l, model) {
				t.Fatalf("%v, not %v", l, model)
			}
			checkFits(t, l, capacity, true)
		}
	}
}

// The chapter's example.

func TestTheExample(t *testing.T) {
	b := api.Bed{Id: 1, Tx: 2, Period: 4, Cost: 3, Watch: 5}
	beside := api.Bed{Id: 3, Tx: 4, Period: 4, Cost: 1, Watch: 5}
	if Of(b) != 45 || Of(beside) != 15 {
		t.Fatalf("%d, %d", Of(b), Of(beside))
	}
	checkFits(t, []api.Bed{b}, 1, true)
	checkFits(t, []api.Bed{b, beside}, 1, true)
	checkAdmit(t, nil, b, 1, 0)
	checkAdmit(t, []api.Bed{b}, beside, 1, 0)
	beside.Period, beside.Cost = 60, 16
	checkFits(t, []api.Bed{b, beside}, 1, false)
	checkAdmit(t, []api.Bed{b}, beside, 1, 10)
}

// Rules 1, 3, 4 and 6 of all calls.

func TestAnyNumbersInBeds(t *testing.T) {
	r := rand.New(rand.NewSource(8))
	may := 0
	for range 300000 {
		b := bed(50, 50)
		for _, f := range fields(&b) {
			if r.Intn(2) == 0 {
				*f = numbers[r.Intn(len(numbers))]
			}
		}
		if May(b) != mayBe(b) || Of(b) != loadOf(b) || Sum([]api.Bed{b, b}) != 2*loadOf(b) {
			t.Fatalf("%v: %v, %d, %d", b, May(b), Of(b), Sum([]api.Bed{b, b}))
		}
		capacity := capacities[r.Intn(len(capacities))]
		checkFits(t, []api.Bed{b}, capacity, doFit([]api.Bed{b}, capacity))
		checkAdmit(t, nil, b, capacity, admitError(nil, b, capacity))
		checkDischarge(t, []api.Bed{b}, b.Id, nil, 0)
		if mayBe(b) {
			may++
		}
	}
	if may < 1000 {
		t.Errorf("only %d may be", may)
	}
}

func TestVeryLongLists(t *testing.T) {
	l := slices.Repeat([]api.Bed{bed(1, 2), {Id: 5, Tx: 6}}, 1<<17)
	if Sum(l) != 1<<17 || Find(l, 5) != 1 || Owner(l, 6) != 1 || Find(l, 9) != -1 || Owner(l, 9) != -1 {
		t.Errorf("%d, %d, %d", Sum(l), Find(l, 5), Owner(l, 6))
	}
	checkFits(t, l, 10000, false)
	checkAdmit(t, l, bed(3, 4), 10000, 7)
	checkDischarge(t, l, 5, append(slices.Clone(l[:1]), l[2:]...), 0)
	checkDischarge(t, l, 9, nil, 8)
}

func TestWhatIsHandedInIsNotChanged(t *testing.T) {
	for many := range 10 {
		whole := bedsOf(14)
		for _, n := range []int{0, many / 2, many - 1, many, 50, 100, 105} {
			l := whole[:many]
			Sum(l)
			Fits(l, 1)
			Find(l, n)
			Owner(l, n)
			Admit(l, bed(50, 50), 1)
			Admit(l, bed(n, 50), 1)
			Admit(l, bed(50, 51), 0)
			Discharge(l, n)
			if !slices.Equal(whole, bedsOf(14)) {
				t.Fatalf("what was handed in, %d of it, is %v", many, whole)
			}
		}
	}
}

// spoil turns all of a list, its spare room too.
func spoil(l []api.Bed) {
	l = l[:cap(l)]
	for i := range l {
		l[i] = api.Bed{Id: -5, Tx: -5, Period: -5, Cost: -5, Watch: -5, Prio: -5}
	}
}

// checkNew asks one thing twice: neither answer may share memory with the other, or with what was handed in, the room behind it too.
func checkNew(t *testing.T, many int, ask func(l []api.Bed) []api.Bed) {
	t.Helper()
	whole := bedsOf(12)
	l := whole[:many]
	first, second := ask(l), ask(l)
	want := slices.Clone(second)
	spoil(first)
	if !slices.Equal(second, want) || !slices.Equal(whole, bedsOf(12)) {
		t.Fatalf("an answer that is turned turns others: %v, %v", second, whole)
	}
	spoil(whole)
	if !slices.Equal(second, want) {
		t.Fatalf("what was handed in turns the answer: %v", second)
	}
	if third := ask(bedsOf(12)[:many]); !slices.Equal(third, want) {
		t.Fatalf("another answer of the same: %v, %v", third, want)
	}
}

func TestAnswersAreNewMemory(t *testing.T) {
	for many := range 10 {
		checkNew(t, many, func(l []api.Bed) []api.Bed {
			m, _ := Admit(l, bed(50, 50), 10000)
			return m
		})
		for i := range many + 1 {
			checkNew(t, many, func(l []api.Bed) []api.Bed {
				m, _ := Discharge(l, i)
				return m
			})
		}
	}
}

func TestAnswersHangOnArgumentsAlone(t *testing.T) {
	r := rand.New(rand.NewSource(9))
	for range 3000 {
		l, b, capacity := drawnBeds(r, r.Intn(9)), drawnBed(r), r.Intn(500)
		roomy := append(make([]api.Bed, 0, 40), l...)
		for _, same := range [][]api.Bed{l, roomy, slices.Clip(l), l} {
			checkFits(t, same, capacity, doFit(l, capacity))
			checkAdmit(t, same, b, capacity, admitError(l, b, capacity))
			checkPlaces(t, same, b.Id)
			if Sum(same) != sumOf(l) || Of(b) != loadOf(b) {
				t.Fatalf("%d, %d", Sum(same), Of(b))
			}
			Discharge(same, b.Id)
			Admit(same, bed(70, 70), 10000)
		}
	}
}
