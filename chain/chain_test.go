package chain_test

import (
	"math"
	"math/rand"
	"runtime"
	"slices"
	"strings"
	"testing"
	"weak"

	"heavykeys/api"
	"heavykeys/chain"
)

// open returns an empty list with room for n nodes.
func open[V any](t *testing.T, n int) *chain.List[V] {
	t.Helper()
	l, e := chain.New[V](n)
	if l == nil || e != api.OK {
		t.Fatalf("New(%d) = %v, %d", n, l, e)
	}
	return l
}

// filled returns a list with the values at the nodes 0, 1 and so on, and with room for n nodes.
func filled[V any](t *testing.T, n int, values ...V) *chain.List[V] {
	t.Helper()
	l := open[V](t, n)
	for i, v := range values {
		checkPushBack(t, l, v, i, api.OK)
	}
	return l
}

func checkPushFront[V any](t *testing.T, l *chain.List[V], v V, want int, err api.Errno) {
	t.Helper()
	if node, e := l.PushFront(v); node != want || e != err {
		t.Fatalf("PushFront(%v) = %d, %d, want %d, %d", v, node, e, want, err)
	}
}

func checkPushBack[V any](t *testing.T, l *chain.List[V], v V, want int, err api.Errno) {
	t.Helper()
	if node, e := l.PushBack(v); node != want || e != err {
		t.Fatalf("PushBack(%v) = %d, %d, want %d, %d", v, node, e, want, err)
	}
}

func checkInsert[V any](t *testing.T, l *chain.List[V], after int, v V, want int, err api.Errno) {
	t.Helper()
	if node, e := l.InsertAfter(after, v); node != want || e != err {
		t.Fatalf("InsertAfter(%d, %v) = %d, %d, want %d, %d", after, v, node, e, want, err)
	}
}

func checkRemove[V comparable](t *testing.T, l *chain.List[V], node int, want V, err api.Errno) {
	t.Helper()
	if v, e := l.Remove(node); v != want || e != err {
		t.Fatalf("Remove(%d) = %v, %d, want %v, %d", node, v, e, want, err)
	}
}

func checkValue[V comparable](t *testing.T, l *chain.List[V], node int, want V, err api.Errno) {
	t.Helper()
	if v, e := l.Value(node); v != want || e != err {
		t.Fatalf("Value(%d) = %v, %d, want %v, %d", node, v, e, want, err)
	}
}

// checkBeside compares the nodes before and behind a node.
func checkBeside[V any](t *testing.T, l *chain.List[V], node, prev, next int) {
	t.Helper()
	if p, n := l.Prev(node), l.Next(node); p != prev || n != next {
		t.Fatalf("Prev(%d) = %d, Next(%d) = %d, want %d, %d", node, p, node, n, prev, next)
	}
}

// checkAbsent says that the list has no node with this number. v is a value that is not added.
func checkAbsent[V comparable](t *testing.T, l *chain.List[V], node int, v V) {
	t.Helper()
	var zero V
	checkValue(t, l, node, zero, api.ErrNone)
	checkRemove(t, l, node, zero, api.ErrNone)
	checkInsert(t, l, node, v, 0, api.ErrNone)
	checkBeside(t, l, node, -1, -1)
}

// checkValues compares the values in their order, and their number.
func checkValues[V comparable](t *testing.T, l *chain.List[V], want ...V) {
	t.Helper()
	if got := l.Values(); !slices.Equal(got, want) {
		t.Fatalf("Values() = %v, want %v", got, want)
	}
	if got := l.Len(); got != len(want) {
		t.Fatalf("Len() = %d, want %d", got, len(want))
	}
}

// checkNodes compares the numbers of all nodes in their order, which are found in both directions.
func checkNodes[V any](t *testing.T, l *chain.List[V], want ...int) {
	t.Helper()
	if got := l.Len(); got != len(want) {
		t.Fatalf("Len() = %d, want %d", got, len(want))
	}
	ends := append(append([]int{-1}, want...), -1)
	if first, last := l.First(), l.Last(); first != ends[1] || last != ends[len(ends)-2] {
		t.Fatalf("First() = %d, Last() = %d, want %d, %d", first, last, ends[1], ends[len(ends)-2])
	}
	for i, node := range want {
		checkBeside(t, l, node, ends[i], ends[i+2])
	}
}

// outside is numbers that no node ever has.
var outside = []int{-1, -2, -63, -64, -65, math.MinInt, math.MinInt + 1, api.MaxNodes, api.MaxNodes + 1, math.MaxInt, math.MaxInt - 1}

// P11.1: the numbers of nodes that a list may have room for, and those that it may not.
func TestNew(t *testing.T) {
	for _, n := range []int{0, -1, -2, -8192, math.MinInt, 8193, 8194, 65536, math.MaxInt} {
		if l, e := chain.New[int](n); l != nil || e != api.ErrRange {
			t.Errorf("New(%d) = %v, %d", n, l, e)
		}
	}
	for _, n := range []int{1, 2, 63, 64, 65, 4096, 8191, 8192} {
		l := open[string](t, n)
		checkValues(t, l)
		checkNodes(t, l)
		for _, node := range append(outside, 0, 1, 62, 63, 64, 65, n-1, n) {
			checkAbsent(t, l, node, "x")
		}
	}
}

// P11.1 and P11.2: there are n nodes at most, however they are added, and as many again after a removal.
func TestRoom(t *testing.T) {
	for _, n := range []int{1, 2, 3, 10, 63, 64, 65, 128, 200} {
		l := open[int](t, n)
		for i := range n {
			checkPushFront(t, l, i, i, api.OK)
		}
		for i := range n {
			checkPushFront(t, l, -1, 0, api.ErrFull)
			checkPushBack(t, l, -1, 0, api.ErrFull)
			checkInsert(t, l, i, -1, 0, api.ErrFull)
		}
		for i := range n {
			checkRemove(t, l, i, i, api.OK)
			switch i % 3 {
			case 0:
				checkPushBack(t, l, i, i, api.OK)
			case 1:
				checkPushFront(t, l, i, i, api.OK)
			default:
				checkInsert(t, l, i-1, i, i, api.OK)
			}
			checkPushFront(t, l, -1, 0, api.ErrFull)
			checkPushBack(t, l, -1, 0, api.ErrFull)
			checkInsert(t, l, i, -1, 0, api.ErrFull)
		}
	}
}

// P11.1, P11.2 and P11.3: the longest list that there is, filled, emptied in any order and filled again.
func TestLongestList(t *testing.T) {
	random := rand.New(rand.NewSource(1))
	l := open[int](t, 8192)
	for range 3 {
		want := make([]int, 8192)
		for i := range want {
			checkPushBack(t, l, 7*i, i, api.OK)
			want[i] = i
		}
		checkPushBack(t, l, 0, 0, api.ErrFull)
		checkNodes(t, l, want...)
		for left, node := range random.Perm(8192) {
			checkRemove(t, l, node, 7*node, api.OK)
			if got := l.Len(); got != 8191-left {
				t.Fatalf("Len() = %d, want %d", got, 8191-left)
			}
		}
		checkValues(t, l)
		checkNodes(t, l)
	}
}

// P11.2 and P11.3: the chapter's example.
func TestExample(t *testing.T) {
	l := open[int](t, 4)
	checkPushBack(t, l, 7, 0, api.OK)
	checkPushBack(t, l, 8, 1, api.OK)
	checkInsert(t, l, 0, 9, 2, api.OK)
	checkValues(t, l, 7, 9, 8)
	checkNodes(t, l, 0, 2, 1)
	checkRemove(t, l, 1, 8, api.OK)
	checkPushFront(t, l, 5, 1, api.OK)
	checkValues(t, l, 5, 7, 9)
	checkNodes(t, l, 1, 0, 2)
}

// P11.2: where each of the three functions adds its node, with none, one and more nodes there.
func TestPlacesOfNewNodes(t *testing.T) {
	l := open[string](t, 9)
	checkPushFront(t, l, "a", 0, api.OK)
	checkValues(t, l, "a")
	checkPushFront(t, l, "b", 1, api.OK)
	checkValues(t, l, "b", "a")
	checkPushBack(t, l, "c", 2, api.OK)
	checkValues(t, l, "b", "a", "c")
	checkInsert(t, l, 1, "d", 3, api.OK)
	checkValues(t, l, "b", "d", "a", "c")
	checkInsert(t, l, 2, "e", 4, api.OK)
	checkValues(t, l, "b", "d", "a", "c", "e")
	checkInsert(t, l, 3, "f", 5, api.OK)
	checkValues(t, l, "b", "d", "f", "a", "c", "e")
	checkPushBack(t, l, "g", 6, api.OK)
	checkPushFront(t, l, "h", 7, api.OK)
	checkValues(t, l, "h", "b", "d", "f", "a", "c", "e", "g")
	checkNodes(t, l, 7, 1, 3, 5, 0, 2, 4, 6)

	l = open[string](t, 2)
	checkPushBack(t, l, "a", 0, api.OK)
	checkValues(t, l, "a")
	checkInsert(t, l, 0, "b", 1, api.OK)
	checkValues(t, l, "a", "b")
	checkNodes(t, l, 0, 1)
}

// P11.2: whichever nodes are removed from a list, the new ones have their numbers, the least first, and then those that follow.
func TestLeastNumbers(t *testing.T) {
	const n = 7
	for set := range 1 << n {
		for _, descending := range []bool{false, true} {
			l := filled(t, n+2, 0, 1, 2, 3, 4, 5, 6)
			var free []int
			for i := range n {
				if set>>i&1 != 0 {
					free = append(free, i)
				}
			}
			for i := range free {
				node := free[i]
				if descending {
					node = free[len(free)-1-i]
				}
				checkRemove(t, l, node, node, api.OK)
			}
			for _, node := range append(free, n, n+1) {
				checkPushFront(t, l, node, node, api.OK)
			}
			checkPushFront(t, l, 0, 0, api.ErrFull)
		}
	}
}

// P11.2: the same with two nodes removed from a long list.
func TestLeastNumbersOfLongLists(t *testing.T) {
	l := open[int](t, 8192)
	for i := range 8192 {
		checkPushBack(t, l, i, i, api.OK)
	}
	tested := []int{0, 1, 62, 63, 64, 65, 126, 127, 128, 129, 1000, 4095, 4096, 8127, 8128, 8190, 8191}
	for _, i := range tested {
		for _, j := range tested {
			if i == j {
				continue
			}
			checkRemove(t, l, i, i, api.OK)
			checkRemove(t, l, j, j, api.OK)
			checkPushFront(t, l, min(i, j), min(i, j), api.OK)
			checkInsert(t, l, min(i, j), max(i, j), max(i, j), api.OK)
			checkNodes(t, l, l.Values()...)
		}
	}
}

// P11.2: a node that the list does not have comes before a list that is full, and R2: neither changes anything.
func TestErrorsChangeNothing(t *testing.T) {
	for _, n := range []int{3, 4} {
		l := filled(t, n, "a", "b", "c")
		for _, node := range append(outside, 3, 4, 5, 63, 64) {
			checkAbsent(t, l, node, "x")
			checkValues(t, l, "a", "b", "c")
			checkNodes(t, l, 0, 1, 2)
		}
	}
	l := filled(t, 3, "a", "b", "c")
	for node := range 3 {
		checkInsert(t, l, node, "x", 0, api.ErrFull)
		checkPushFront(t, l, "x", 0, api.ErrFull)
		checkPushBack(t, l, "x", 0, api.ErrFull)
		checkValues(t, l, "a", "b", "c")
		checkNodes(t, l, 0, 1, 2)
	}
	checkRemove(t, l, 1, "b", api.OK)
	checkAbsent(t, l, 1, "x")
	checkPushBack(t, l, "d", 1, api.OK)
	checkValues(t, l, "a", "c", "d")
}

// P11.3: the first node, the last one and one between them is removed, and then the others.
func TestRemove(t *testing.T) {
	for _, order := range [][]int{{0, 1, 2}, {0, 2, 1}, {1, 0, 2}, {1, 2, 0}, {2, 0, 1}, {2, 1, 0}} {
		l := filled(t, 3, "a", "b", "c")
		left, values := []int{0, 1, 2}, []string{"a", "b", "c"}
		for _, node := range order {
			i := slices.Index(left, node)
			checkValue(t, l, node, values[i], api.OK)
			checkRemove(t, l, node, values[i], api.OK)
			checkAbsent(t, l, node, "x")
			left, values = slices.Delete(left, i, i+1), slices.Delete(values, i, i+1)
			checkNodes(t, l, left...)
			checkValues(t, l, values...)
		}
		checkPushBack(t, l, "d", 0, api.OK)
		checkNodes(t, l, 0)
		checkValues(t, l, "d")
	}
}

// P11.3: Value changes nothing, and a number that is given again has its new value only.
func TestValue(t *testing.T) {
	l := filled(t, 3, 5, 6, 7)
	for range 3 {
		for node := range 3 {
			checkValue(t, l, node, 5+node, api.OK)
		}
		checkNodes(t, l, 0, 1, 2)
	}
	checkRemove(t, l, 1, 6, api.OK)
	checkPushBack(t, l, 8, 1, api.OK)
	checkValue(t, l, 1, 8, api.OK)
	checkValues(t, l, 5, 7, 8)
}

// P11.3: the zero value and equal values are values, too.
func TestEqualValues(t *testing.T) {
	l := filled(t, 4, 0, 0, 1, 1)
	checkValues(t, l, 0, 0, 1, 1)
	checkRemove(t, l, 1, 0, api.OK)
	checkRemove(t, l, 3, 1, api.OK)
	checkValues(t, l, 0, 1)
	checkNodes(t, l, 0, 2)
	checkValue(t, l, 0, 0, api.OK)
	checkRemove(t, l, 0, 0, api.OK)
	checkRemove(t, l, 0, 0, api.ErrNone)
}

// P11.3: values of other types, also of those that cannot be compared.
func TestTypes(t *testing.T) {
	type pair struct {
		name  string
		count uint64
	}
	p := filled(t, 2, pair{"x", 1}, pair{"y", 2})
	checkRemove(t, p, 0, pair{"x", 1}, api.OK)
	checkAbsent(t, p, 0, pair{"z", 3})
	n := 5
	q := filled(t, 2, &n, nil)
	checkValue(t, q, 0, &n, api.OK)
	checkValue(t, q, 1, nil, api.OK)
	checkAbsent(t, q, 2, &n)
	array := filled(t, 2, [100]int{99: 1})
	checkValue(t, array, 0, [100]int{99: 1}, api.OK)
	f := filled(t, 2, func() int { return 7 }, func() int { return 8 })
	if v, e := f.Remove(0); e != api.OK || v() != 7 || f.Values()[0]() != 8 {
		t.Error("the functions are not the ones added")
	}
	x := filled[any](t, 3, f.Len, 9, nil)
	if v, e := x.Value(1); v != 9 || e != api.OK || x.Len() != 3 {
		t.Errorf("Value(1) = %v, %d", v, e)
	}
	type bucket struct {
		count uint64
		ids   *chain.List[int]
	}
	b := filled(t, 2, bucket{3, filled(t, 2, 4, 5)})
	if v, e := b.Value(0); e != api.OK || v.count != 3 || !slices.Equal(v.ids.Values(), []int{4, 5}) {
		t.Errorf("Value(0) = %v, %d", v, e)
	}
}

// P11.4: no list, with numbers that the nodes of others could have.
func TestNil(t *testing.T) {
	var l *chain.List[string]
	for _, node := range append(outside, 0, 1, 63, 64) {
		checkPushFront(t, l, "a", 0, api.ErrNone)
		checkPushBack(t, l, "a", 0, api.ErrNone)
		checkAbsent(t, l, node, "a")
		checkValues(t, l)
		checkNodes(t, l)
	}
	var p *chain.List[*int]
	checkAbsent(t, p, 0, new(int))
}

// R4: the values returned are new memory.
func TestMemoryIsNotShared(t *testing.T) {
	l := filled(t, 4, "a", "b", "c")
	first, second := l.Values(), l.Values()
	first[0] = "x"
	slices.Reverse(first[:2])
	_ = append(first, "y")
	checkValues(t, l, "a", "b", "c")
	checkValues(t, l, second...)
	checkRemove(t, l, 0, "a", api.OK)
	checkPushFront(t, l, "d", 0, api.OK)
	if want := []string{"a", "b", "c"}; !slices.Equal(second, want) {
		t.Fatalf("later calls changed the values to %v", second)
	}
}

// P11.3: a removed node is gone, and the list does not keep its value either.
func TestRemovedValuesAreNotKept(t *testing.T) {
	l := open[*[1000]int](t, 3)
	var kept []weak.Pointer[[1000]int]
	for i := range 3 {
		v := new([1000]int)
		kept = append(kept, weak.Make(v))
		checkPushBack(t, l, v, i, api.OK)
	}
	for _, node := range []int{1, 2} {
		if v, e := l.Remove(node); v == nil || e != api.OK {
			t.Fatalf("Remove(%d) = %v, %d", node, v, e)
		}
	}
	runtime.GC()
	if kept[0].Value() == nil || kept[1].Value() != nil || kept[2].Value() != nil {
		t.Error("the values that are kept are not those of the nodes")
	}
	checkNodes(t, l, 0)
}

// R5: two lists do not know of one another.
func TestListsAreApart(t *testing.T) {
	l, m := open[int](t, 1), open[int](t, 3)
	checkPushBack(t, l, 5, 0, api.OK)
	checkAbsent(t, m, 0, 9)
	checkPushBack(t, m, 6, 0, api.OK)
	checkPushFront(t, m, 7, 1, api.OK)
	checkPushFront(t, l, 8, 0, api.ErrFull)
	checkRemove(t, l, 0, 5, api.OK)
	checkValues(t, l)
	checkValues(t, m, 7, 6)
	checkNodes(t, m, 1, 0)
}

// record is what the chapter's words say of a list: its nodes from the first to the last one.
type record struct {
	most  int
	nodes []node
}

type node struct{ number, value int }

// find returns where in the order the node with this number is, or -1.
func (r *record) find(number int) int {
	return slices.IndexFunc(r.nodes, func(x node) bool { return x.number == number })
}

// add puts a new node where the one with the index i is, and returns its number.
func (r *record) add(i, v int) (int, api.Errno) {
	if len(r.nodes) == r.most {
		return 0, api.ErrFull
	}
	number := 0
	for r.find(number) >= 0 {
		number++
	}
	r.nodes = slices.Insert(r.nodes, i, node{number, v})
	return number, api.OK
}

func (r *record) insert(after, v int) (int, api.Errno) {
	i := r.find(after)
	if i < 0 {
		return 0, api.ErrNone
	}
	return r.add(i+1, v)
}

func (r *record) remove(number int) (int, api.Errno) {
	i := r.find(number)
	if i < 0 {
		return 0, api.ErrNone
	}
	v := r.nodes[i].value
	r.nodes = slices.Delete(r.nodes, i, i+1)
	return v, api.OK
}

// checkRecord compares all that a list says with its record.
func checkRecord(t *testing.T, l *chain.List[int], r *record) {
	t.Helper()
	var numbers, values []int
	for _, x := range r.nodes {
		checkValue(t, l, x.number, x.value, api.OK)
		numbers, values = append(numbers, x.number), append(values, x.value)
	}
	checkValues(t, l, values...)
	checkNodes(t, l, numbers...)
	for number := -2; number < r.most+2; number++ {
		if r.find(number) < 0 {
			checkBeside(t, l, number, -1, -1)
			checkValue(t, l, number, 0, api.ErrNone)
		}
	}
	checkWays(t, l)
}

// checkWays says that Next and Prev are opposite to each other, and lead through all nodes.
func checkWays(t *testing.T, l *chain.List[int]) {
	t.Helper()
	seen := map[int]bool{}
	for before, at := -1, l.First(); at != -1; before, at = at, l.Next(at) {
		if seen[at] || l.Prev(at) != before || l.Next(at) == -1 && l.Last() != at {
			t.Fatalf("Prev(%d) = %d, Next(%d) = %d, Last() = %d, after the node %d", at, l.Prev(at), at, l.Next(at), l.Last(), before)
		}
		seen[at] = true
	}
	if len(seen) != l.Len() {
		t.Fatalf("Next leads through %d of %d nodes", len(seen), l.Len())
	}
}

// checkStep lets a list and its record do the same, and compares what they say. The numbers choose what they do.
func checkStep(t *testing.T, l *chain.List[int], r *record, kind byte, number, v int) {
	t.Helper()
	switch kind % 6 {
	case 0:
		want, e := r.add(0, v)
		checkPushFront(t, l, v, want, e)
	case 1:
		want, e := r.add(len(r.nodes), v)
		checkPushBack(t, l, v, want, e)
	case 2, 3:
		want, e := r.insert(number, v)
		checkInsert(t, l, number, v, want, e)
	default:
		want, e := r.remove(number)
		checkRemove(t, l, number, want, e)
	}
	checkRecord(t, l, r)
}

// P11.2, P11.3 and P11.5: long sequences of calls, against the record.
func TestByDefinition(t *testing.T) {
	random := rand.New(rand.NewSource(11))
	for _, n := range []int{1, 2, 3, 5, 20, 64, 65, 130} {
		l, r := open[int](t, n), &record{most: n}
		for i := range 1500 {
			// For a while, there are more additions than removals, and then the other way round.
			kind := byte(random.Intn(6))
			if i/200%2 == 0 {
				kind = byte(random.Intn(5))
			}
			checkStep(t, l, r, kind, random.Intn(n+2)-1, random.Intn(1000))
		}
	}
}

// P11.2, P11.3 and P11.5: sequences that the fuzzer finds.
func FuzzByDefinition(f *testing.F) {
	f.Add(byte(4), []byte{1, 0, 1, 0, 2, 1, 4, 2, 0, 0})
	f.Add(byte(70), []byte(strings.Repeat("\x01\x00\x02\x40", 40)+"\x04\x41\x04\x40\x00\x00"))
	f.Fuzz(func(t *testing.T, n byte, calls []byte) {
		most := int(n)%130 + 1
		l, r := open[int](t, most), &record{most: most}
		for i := 0; i+1 < min(len(calls), 1000); i += 2 {
			checkStep(t, l, r, calls[i], int(calls[i+1])-1, i)
		}
	})
}
