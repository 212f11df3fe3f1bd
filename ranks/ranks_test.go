package ranks_test

import (
	"cmp"
	"math"
	"math/rand"
	"slices"
	"testing"
	"time"

	"heavykeys/api"
	"heavykeys/ranks"
)

// most is the greatest count.
const most uint64 = 1 << 63

// open returns an empty order for n elements.
func open(t *testing.T, n int) *ranks.Ranks {
	t.Helper()
	r, e := ranks.New(n)
	if r == nil || e != api.OK {
		t.Fatalf("New(%d) = %v, %d", n, r, e)
	}
	return r
}

// filled returns an order for n elements, of which 0, 1 and so on are there, with these counts.
func filled(t *testing.T, n int, counts ...uint64) *ranks.Ranks {
	t.Helper()
	r := open(t, n)
	for id, count := range counts {
		checkInsert(t, r, id, count, api.OK)
	}
	return r
}

func checkInsert(t *testing.T, r *ranks.Ranks, id int, count uint64, want api.Errno) {
	t.Helper()
	if e := r.Insert(id, count); e != want {
		t.Fatalf("Insert(%d, %d) = %d, want %d", id, count, e, want)
	}
}

func checkRaise(t *testing.T, r *ranks.Ranks, id int, by uint64, want api.Errno) {
	t.Helper()
	if e := r.Raise(id, by); e != want {
		t.Fatalf("Raise(%d, %d) = %d, want %d", id, by, e, want)
	}
}

func checkRemove(t *testing.T, r *ranks.Ranks, id int, want uint64, err api.Errno) {
	t.Helper()
	if count, e := r.Remove(id); count != want || e != err {
		t.Fatalf("Remove(%d) = %d, %d, want %d, %d", id, count, e, want, err)
	}
}

func checkCount(t *testing.T, r *ranks.Ranks, id int, want uint64, there bool) {
	t.Helper()
	if count, ok := r.Count(id); count != want || ok != there {
		t.Fatalf("Count(%d) = %d, %t, want %d, %t", id, count, ok, want, there)
	}
}

func checkLeast(t *testing.T, r *ranks.Ranks, want int, count uint64, there bool) {
	t.Helper()
	if id, c, ok := r.Least(); id != want || c != count || ok != there {
		t.Fatalf("Least() = %d, %d, %t, want %d, %d, %t", id, c, ok, want, count, there)
	}
}

// checkOrder compares the elements in their order, their number and the first one, whose count is what Count says.
func checkOrder(t *testing.T, r *ranks.Ranks, want ...int) {
	t.Helper()
	if got := r.Order(); !slices.Equal(got, want) {
		t.Fatalf("Order() has %d elements, %v ..., want %d, %v ...",
			len(got), got[:min(len(got), 20)], len(want), want[:min(len(want), 20)])
	}
	if got := r.Len(); got != len(want) {
		t.Fatalf("Len() = %d, want %d", got, len(want))
	}
	if len(want) == 0 {
		checkLeast(t, r, 0, 0, false)
		return
	}
	count, ok := r.Count(want[0])
	checkLeast(t, r, want[0], count, ok)
}

// checkAbsent says that an element is not there.
func checkAbsent(t *testing.T, r *ranks.Ranks, id int) {
	t.Helper()
	checkCount(t, r, id, 0, false)
	checkRemove(t, r, id, 0, api.ErrNone)
	for _, by := range []uint64{0, 1, most, most + 1, math.MaxUint64} {
		checkRaise(t, r, id, by, api.ErrNone)
	}
}

// outside is numbers that no element has.
var outside = []int{-1, -2, -64, math.MinInt, math.MinInt + 1, api.MaxNodes, api.MaxNodes + 1, math.MaxInt - 1, math.MaxInt}

// P12.1: the numbers of elements that an order may have, and those that it may not.
func TestNew(t *testing.T) {
	for _, n := range []int{0, -1, -2, -8192, math.MinInt, 8193, 8194, 65536, math.MaxInt} {
		if r, e := ranks.New(n); r != nil || e != api.ErrRange {
			t.Errorf("New(%d) = %v, %d", n, r, e)
		}
	}
	for _, n := range []int{1, 2, 63, 64, 65, 4096, 8191, 8192} {
		r := open(t, n)
		checkOrder(t, r)
		for _, id := range append(outside, 0, n-1, n) {
			checkAbsent(t, r, id)
		}
		for _, id := range append(outside, n, n+1) {
			checkInsert(t, r, id, 1, api.ErrRange)
		}
		checkInsert(t, r, n-1, 1, api.OK)
		checkOrder(t, r, n-1)
	}
}

// P12.2 and P12.3: the chapter's example.
func TestExample(t *testing.T) {
	r := open(t, 2)
	checkInsert(t, r, 0, 5, api.OK)
	checkInsert(t, r, 1, 3, api.OK)
	checkOrder(t, r, 1, 0)
	checkRaise(t, r, 1, 2, api.OK)
	checkOrder(t, r, 0, 1)
	checkLeast(t, r, 0, 5, true)
}

// P12.2: the errors of Insert, each alone and with those behind it, and R2: they change nothing.
func TestInsertErrors(t *testing.T) {
	r := filled(t, 3, 7, 4)
	for _, c := range []struct {
		id    int
		count uint64
		want  api.Errno
	}{
		{-1, 0, api.ErrRange},
		{3, 1, api.ErrRange},
		{4, most + 1, api.ErrRange},
		{math.MinInt, math.MaxUint64, api.ErrRange},
		{math.MaxInt, most, api.ErrRange},
		{0, 0, api.ErrDuplicate},
		{0, 7, api.ErrDuplicate},
		{1, most, api.ErrDuplicate},
		{1, most + 1, api.ErrDuplicate},
		{0, math.MaxUint64, api.ErrDuplicate},
		{2, most + 1, api.ErrOverflow},
		{2, most + 2, api.ErrOverflow},
		{2, math.MaxUint64, api.ErrOverflow},
	} {
		checkInsert(t, r, c.id, c.count, c.want)
		checkOrder(t, r, 1, 0)
		checkCount(t, r, 0, 7, true)
		checkCount(t, r, 1, 4, true)
		checkAbsent(t, r, 2)
	}
	checkInsert(t, r, 2, most, api.OK)
	checkOrder(t, r, 1, 0, 2)
	checkCount(t, r, 2, most, true)
}

// P12.2: the errors of Raise, each alone and with those behind it, and R2: they change nothing.
func TestRaiseErrors(t *testing.T) {
	r := filled(t, 5, 7, most-2, most, 0)
	for _, c := range []struct {
		id   int
		by   uint64
		want api.Errno
	}{
		{-1, 1, api.ErrNone},
		{4, 0, api.ErrNone},
		{4, 1, api.ErrNone},
		{5, math.MaxUint64, api.ErrNone},
		{math.MinInt, most + 1, api.ErrNone},
		{math.MaxInt, 0, api.ErrNone},
		{0, most - 6, api.ErrOverflow},
		{0, most, api.ErrOverflow},
		{0, math.MaxUint64 - 7, api.ErrOverflow},
		{0, math.MaxUint64 - 6, api.ErrOverflow},
		{0, math.MaxUint64 - 5, api.ErrOverflow},
		{0, math.MaxUint64, api.ErrOverflow},
		{1, 3, api.ErrOverflow},
		{1, most + 2, api.ErrOverflow},
		{1, most + 3, api.ErrOverflow},
		{2, 1, api.ErrOverflow},
		{2, most, api.ErrOverflow},
		{2, math.MaxUint64, api.ErrOverflow},
		{3, most + 1, api.ErrOverflow},
		{3, math.MaxUint64, api.ErrOverflow},
	} {
		checkRaise(t, r, c.id, c.by, c.want)
		checkOrder(t, r, 3, 0, 1, 2)
		for id, count := range []uint64{7, most - 2, most, 0} {
			checkCount(t, r, id, count, true)
		}
	}
	for _, c := range []struct {
		id int
		by uint64
	}{{0, most - 7}, {1, 2}, {2, 0}, {3, most}} {
		checkRaise(t, r, c.id, c.by, api.OK)
		checkCount(t, r, c.id, most, true)
	}
	checkOrder(t, r, 2, 0, 1, 3)
}

// P12.2: elements that were never there, that are there, and that were removed.
func TestRemove(t *testing.T) {
	r := filled(t, 4, 5, 5, 9)
	for _, id := range append(outside, 3, 4) {
		checkAbsent(t, r, id)
		checkOrder(t, r, 0, 1, 2)
	}
	checkRemove(t, r, 0, 5, api.OK)
	checkAbsent(t, r, 0)
	checkOrder(t, r, 1, 2)
	checkRemove(t, r, 2, 9, api.OK)
	checkAbsent(t, r, 2)
	checkOrder(t, r, 1)
	checkInsert(t, r, 0, 5, api.OK)
	checkOrder(t, r, 1, 0)
	checkRemove(t, r, 1, 5, api.OK)
	checkRemove(t, r, 0, 5, api.OK)
	for id := range 4 {
		checkAbsent(t, r, id)
	}
	checkOrder(t, r)
	checkInsert(t, r, 2, 1, api.OK)
	checkCount(t, r, 2, 1, true)
	checkOrder(t, r, 2)
}

// P12.2: the count 0 is a count like others.
func TestCountZero(t *testing.T) {
	r := open(t, 3)
	checkInsert(t, r, 2, 0, api.OK)
	checkCount(t, r, 2, 0, true)
	checkLeast(t, r, 2, 0, true)
	checkInsert(t, r, 2, 0, api.ErrDuplicate)
	checkInsert(t, r, 1, 0, api.OK)
	checkOrder(t, r, 2, 1)
	checkRaise(t, r, 2, 0, api.OK)
	checkOrder(t, r, 2, 1)
	checkRaise(t, r, 2, 1, api.OK)
	checkOrder(t, r, 1, 2)
	checkRemove(t, r, 1, 0, api.OK)
	checkAbsent(t, r, 1)
}

// P12.3: elements with the same count are in the order in which they got it, whatever their numbers are.
func TestOrderOfEqualCounts(t *testing.T) {
	for _, order := range [][]int{{0, 1, 2}, {0, 2, 1}, {1, 0, 2}, {1, 2, 0}, {2, 0, 1}, {2, 1, 0}} {
		inserted, raised, mixed := open(t, 3), filled(t, 3, 1, 2, 3), open(t, 3)
		for i, id := range order {
			checkInsert(t, inserted, id, 5, api.OK)
			checkRaise(t, raised, id, uint64(4-id), api.OK)
			checkInsert(t, mixed, id, uint64(4+i%2), api.OK)
			if i%2 == 0 {
				checkRaise(t, mixed, id, 1, api.OK)
			}
		}
		checkOrder(t, inserted, order...)
		checkOrder(t, raised, order...)
		checkOrder(t, mixed, order...)
		// One that is taken out and comes back has its count for the shortest time.
		checkRemove(t, inserted, order[0], 5, api.OK)
		checkInsert(t, inserted, order[0], 5, api.OK)
		checkOrder(t, inserted, order[1], order[2], order[0])
	}
}

// P12.3: where an element comes that is raised: to a count between others, to one of theirs, and behind them all.
func TestRaise(t *testing.T) {
	for _, c := range []struct {
		id   int
		by   uint64
		want []int
	}{
		{0, 0, []int{0, 1, 2, 3, 4}},
		{0, 1, []int{1, 0, 2, 3, 4}},
		{0, 9, []int{1, 0, 2, 3, 4}},
		{0, 10, []int{1, 2, 0, 3, 4}},
		{0, 11, []int{1, 2, 0, 3, 4}},
		{0, 20, []int{1, 2, 3, 4, 0}},
		{0, 21, []int{1, 2, 3, 4, 0}},
		{0, most - 10, []int{1, 2, 3, 4, 0}},
		{1, 0, []int{0, 1, 2, 3, 4}},
		{1, 1, []int{0, 1, 2, 3, 4}},
		{1, 10, []int{0, 2, 1, 3, 4}},
		{1, 15, []int{0, 2, 1, 3, 4}},
		{2, 0, []int{0, 1, 2, 3, 4}},
		{2, 5, []int{0, 1, 2, 3, 4}},
		{2, 10, []int{0, 1, 3, 4, 2}},
		{2, 15, []int{0, 1, 3, 4, 2}},
		{3, 0, []int{0, 1, 2, 3, 4}},
		{3, 1, []int{0, 1, 2, 4, 3}},
		{4, 0, []int{0, 1, 2, 3, 4}},
		{4, 1, []int{0, 1, 2, 3, 4}},
		{4, most - 30, []int{0, 1, 2, 3, 4}},
	} {
		counts := []uint64{10, 10, 20, 30, 30}
		r := filled(t, 5, counts...)
		checkRaise(t, r, c.id, c.by, api.OK)
		checkOrder(t, r, c.want...)
		counts[c.id] += c.by
		for id, count := range counts {
			checkCount(t, r, id, count, true)
		}
	}
}

// P12.3: an element alone, and one that is raised in many small steps.
func TestManyRaises(t *testing.T) {
	r := filled(t, 1, 0)
	for count := range uint64(1000) {
		checkLeast(t, r, 0, count, true)
		checkRaise(t, r, 0, 1, api.OK)
	}
	r = filled(t, 3, 0, 10, 20)
	for count := uint64(1); count <= 30; count++ {
		checkRaise(t, r, 0, 1, api.OK)
		want := []int{0, 1, 2}
		switch {
		case count >= 20:
			want = []int{1, 2, 0}
		case count >= 10:
			want = []int{1, 0, 2}
		}
		checkOrder(t, r, want...)
	}
}

// P12.2 and P12.3: the greatest order there is, with a count for each element, and with the same for all.
func TestGreatestOrder(t *testing.T) {
	const n = 8192
	r := open(t, n)
	order := rand.New(rand.NewSource(1)).Perm(n)
	up := make([]int, n)
	for _, id := range order {
		up[id] = id
		checkInsert(t, r, id, uint64(id), api.OK)
	}
	checkOrder(t, r, up...)
	checkRaise(t, r, 5, 2, api.OK)
	checkRaise(t, r, 6, 0, api.OK)
	checkRaise(t, r, 4, n, api.OK)
	checkRemove(t, r, 4, n+4, api.OK)
	checkInsert(t, r, 4, 4, api.OK)
	checkRaise(t, r, 5, 0, api.OK)
	up[5], up[6], up[7] = 6, 7, 5
	checkOrder(t, r, up...)
	for _, id := range order {
		count, _ := r.Count(id)
		checkRaise(t, r, id, n-count, api.OK)
	}
	checkOrder(t, r, order...)
	for i, id := range order {
		checkLeast(t, r, id, n, true)
		checkRemove(t, r, id, n, api.OK)
		if got := r.Len(); got != n-1-i {
			t.Fatalf("Len() = %d, want %d", got, n-1-i)
		}
	}
	checkOrder(t, r)
}

// P12.4: no order, with elements that others could have.
func TestNil(t *testing.T) {
	var r *ranks.Ranks
	for _, id := range append(outside, 0, 1, 63, 64) {
		checkInsert(t, r, id, 1, api.ErrNone)
		checkInsert(t, r, id, math.MaxUint64, api.ErrNone)
		checkAbsent(t, r, id)
		checkOrder(t, r)
	}
}

// R4: the elements returned are new memory.
func TestMemoryIsNotShared(t *testing.T) {
	r := filled(t, 4, 1, 2, 2)
	first, second := r.Order(), r.Order()
	first[0] = 9
	slices.Reverse(first)
	_ = append(first[:1], 8)
	checkOrder(t, r, 0, 1, 2)
	checkRaise(t, r, 0, 5, api.OK)
	checkInsert(t, r, 3, 0, api.OK)
	if want := []int{0, 1, 2}; !slices.Equal(second, want) {
		t.Fatalf("later calls changed the elements to %v", second)
	}
}

// R5: two orders do not know of one another.
func TestOrdersAreApart(t *testing.T) {
	r, s := filled(t, 1, 5), open(t, 3)
	checkAbsent(t, s, 0)
	checkInsert(t, s, 0, 9, api.OK)
	checkInsert(t, s, 1, 8, api.OK)
	checkRaise(t, r, 0, 1, api.OK)
	checkOrder(t, s, 1, 0)
	checkRemove(t, s, 0, 9, api.OK)
	checkCount(t, r, 0, 6, true)
	checkOrder(t, r, 0)
	checkInsert(t, r, 1, 0, api.ErrRange)
}

// quickest returns the shortest of some times that a function takes.
func quickest(f func()) time.Duration {
	best := time.Duration(math.MaxInt64)
	for range 7 {
		begin := time.Now()
		f()
		best = min(best, time.Since(begin))
	}
	return best
}

// P12.5: to pass a bucket of thousands of elements takes about as long as to pass one of a single element.
func TestBucketsArePassedWhole(t *testing.T) {
	raises := func(n int) time.Duration {
		r := open(t, n)
		checkInsert(t, r, 1, 4, api.OK)
		checkInsert(t, r, 2, 6, api.OK)
		for id := 3; id < n; id++ {
			checkInsert(t, r, id, 5, api.OK)
		}
		// There is a bucket for each of the three counts, so that no time is spent on making one.
		return quickest(func() {
			for range 500 {
				checkInsert(t, r, 0, 4, api.OK)
				checkRaise(t, r, 0, 1, api.OK)
				checkRaise(t, r, 0, 1, api.OK)
				checkRemove(t, r, 0, 6, api.OK)
				checkInsert(t, r, 0, 4, api.OK)
				checkRaise(t, r, 0, 2, api.OK)
				checkRemove(t, r, 0, 6, api.OK)
			}
		})
	}
	if few, many := raises(4), raises(8192); many > 10*few {
		t.Errorf("with 1 element to pass it takes %v, with 8189 it takes %v", few, many)
	}
}

// P12.5: an element passes the buckets between its counts, not those with counts that are less than both.
func TestLesserBucketsAreNotPassed(t *testing.T) {
	raises := func(n int) time.Duration {
		r := open(t, n)
		for id := n - 1; id >= 0; id-- {
			checkInsert(t, r, id, uint64(id/2), api.OK)
		}
		// The first one of two leaves the other in its bucket, and the second one leaves an empty bucket.
		return quickest(func() {
			for range 250 {
				checkRaise(t, r, n-1, 1, api.OK)
				checkRaise(t, r, n-2, 1, api.OK)
			}
		})
	}
	if few, many := raises(6), raises(8192); many > 10*few {
		t.Errorf("with 2 buckets before that of the element it takes %v, with 4095 it takes %v", few, many)
	}
}

// P12.5: the least of thousands of elements is found in about the same time as the least of two, whether they have
// all the same count or none has that of another.
func TestLeastIsAtHand(t *testing.T) {
	looks := func(n int, step uint64) time.Duration {
		r := open(t, n)
		for id := n - 1; id >= 0; id-- {
			checkInsert(t, r, id, uint64(id)*step, api.OK)
		}
		first := r.Order()[0]
		return quickest(func() {
			for range 2000 {
				checkLeast(t, r, first, 0, true)
			}
		})
	}
	few := looks(2, 1)
	for step := range uint64(2) {
		if many := looks(8192, step); many > 10*few {
			t.Errorf("with 2 elements it takes %v, with 8192 in steps of %d it takes %v", few, step, many)
		}
	}
}

// record is what the chapter's words say of an order: the elements that are there.
type record struct {
	most     int
	now      int
	elements []element
}

// element has had its count since a time.
type element struct {
	id    int
	count uint64
	since int
}

func (r *record) find(id int) int {
	return slices.IndexFunc(r.elements, func(x element) bool { return x.id == id })
}

func (r *record) insert(id int, count uint64) api.Errno {
	switch {
	case id < 0 || id >= r.most:
		return api.ErrRange
	case r.find(id) >= 0:
		return api.ErrDuplicate
	case count > most:
		return api.ErrOverflow
	}
	r.now++
	r.elements = append(r.elements, element{id, count, r.now})
	return api.OK
}

func (r *record) raise(id int, by uint64) api.Errno {
	i := r.find(id)
	switch {
	case i < 0:
		return api.ErrNone
	case by > most || r.elements[i].count > most-by:
		return api.ErrOverflow
	case by > 0:
		r.now++
		r.elements[i] = element{id, r.elements[i].count + by, r.now}
	}
	return api.OK
}

func (r *record) remove(id int) (uint64, api.Errno) {
	i := r.find(id)
	if i < 0 {
		return 0, api.ErrNone
	}
	count := r.elements[i].count
	r.elements = slices.Delete(r.elements, i, i+1)
	return count, api.OK
}

// order returns the elements in the order of P12.3.
func (r *record) order() []int {
	sorted := slices.SortedFunc(slices.Values(r.elements), func(x, y element) int {
		return cmp.Or(cmp.Compare(x.count, y.count), cmp.Compare(x.since, y.since))
	})
	var ids []int
	for _, x := range sorted {
		ids = append(ids, x.id)
	}
	return ids
}

// checkRecord compares all that an order says with its record.
func checkRecord(t *testing.T, r *ranks.Ranks, want *record) {
	t.Helper()
	checkOrder(t, r, want.order()...)
	for id := -1; id <= want.most; id++ {
		if i := want.find(id); i >= 0 {
			checkCount(t, r, id, want.elements[i].count, true)
		} else {
			checkCount(t, r, id, 0, false)
		}
	}
}

// weigh makes a small number or, of the last ones of a byte, one at the bounds.
func weigh(b byte) uint64 {
	bounds := []uint64{most - 3, most - 1, most, most + 1, math.MaxUint64 - 3, math.MaxUint64}
	if at := int(b) - 256 + len(bounds); at >= 0 {
		return bounds[at]
	}
	return uint64(b % 16)
}

// checkStep lets an order and its record do the same, and compares what they say. The numbers choose what they do.
func checkStep(t *testing.T, r *ranks.Ranks, want *record, kind byte, id int, weight byte) {
	t.Helper()
	count := weigh(weight)
	switch kind % 4 {
	case 0:
		checkInsert(t, r, id, count, want.insert(id, count))
	case 1, 2:
		checkRaise(t, r, id, count, want.raise(id, count))
	default:
		c, e := want.remove(id)
		checkRemove(t, r, id, c, e)
	}
	checkRecord(t, r, want)
}

// P12.2 and P12.3: long sequences of calls, against the record.
func TestByDefinition(t *testing.T) {
	random := rand.New(rand.NewSource(12))
	for _, n := range []int{1, 2, 3, 5, 20, 70} {
		r, want := open(t, n), &record{most: n}
		for i := range 3000 {
			// For a while, few elements are removed, and then many.
			kind := byte(random.Intn(4))
			if i/300%2 == 0 && random.Intn(3) > 0 {
				kind = byte(random.Intn(3))
			}
			checkStep(t, r, want, kind, random.Intn(n+2)-1, byte(random.Intn(256)))
		}
	}
}

// P12.2 and P12.3: sequences that the fuzzer finds.
func FuzzByDefinition(f *testing.F) {
	f.Add(byte(1), []byte{0, 1, 5, 0, 2, 3, 1, 2, 2})
	f.Add(byte(3), []byte{0, 1, 252, 0, 2, 250, 1, 2, 3, 1, 2, 255, 3, 1, 0})
	f.Fuzz(func(t *testing.T, n byte, calls []byte) {
		size := int(n)%70 + 1
		r, want := open(t, size), &record{most: size}
		for i := 0; i+2 < min(len(calls), 900); i += 3 {
			checkStep(t, r, want, calls[i], int(calls[i+1])%(size+2)-1, calls[i+2])
		}
	})
}
