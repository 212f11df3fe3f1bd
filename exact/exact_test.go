package exact_test

import (
	"fmt"
	"maps"
	"math"
	"math/rand"
	"runtime"
	"slices"
	"strconv"
	"strings"
	"testing"

	"heavykeys/api"
	"heavykeys/exact"
)

// most is the greatest weight of a key.
const most uint64 = 1 << 63

func entry(key string, own, slack uint64) api.Entry {
	return api.Entry{Key: key, Own: own, Slack: slack}
}

// open returns an empty store for n keys.
func open(t *testing.T, n int) *exact.Store {
	t.Helper()
	s, e := exact.New(n)
	if s == nil || e != api.OK {
		t.Fatalf("New(%d) = %v, %d", n, s, e)
	}
	return s
}

// filled returns a store for n keys with these entries.
func filled(t *testing.T, n int, l ...api.Entry) *exact.Store {
	t.Helper()
	s := open(t, n)
	for _, e := range l {
		checkPut(t, s, e, api.OK)
	}
	return s
}

// brief writes an entry, or some of them, of which the keys may be long.
func brief(v any) string {
	return fmt.Sprintf("%.200q", fmt.Sprint(v))
}

func checkPut(t *testing.T, s *exact.Store, e api.Entry, want api.Errno) {
	t.Helper()
	if err := s.Put(e); err != want {
		t.Fatalf("Put(%s) = %d, want %d", brief(e), err, want)
	}
}

func checkAdd(t *testing.T, s *exact.Store, key string, w uint64, want api.Errno) {
	t.Helper()
	if err := s.Add(key, w); err != want {
		t.Fatalf("Add(%.20q, %d) = %d, want %d", key, w, err, want)
	}
}

func checkGet(t *testing.T, s *exact.Store, key string, want api.Entry, there bool) {
	t.Helper()
	if e, ok := s.Get(key); e != want || ok != there {
		t.Fatalf("Get(%.20q) = %s, %t, want %s, %t", key, brief(e), ok, brief(want), there)
	}
}

func checkTake(t *testing.T, s *exact.Store, key string, want api.Entry, there bool) {
	t.Helper()
	if e, ok := s.Take(key); e != want || ok != there {
		t.Fatalf("Take(%.20q) = %s, %t, want %s, %t", key, brief(e), ok, brief(want), there)
	}
}

func checkLeast(t *testing.T, s *exact.Store, want api.Entry, there bool) {
	t.Helper()
	if e, ok := s.Least(); e != want || ok != there {
		t.Fatalf("Least() = %s, %t, want %s, %t", brief(e), ok, brief(want), there)
	}
}

// leastOf is what P17.3 says of Least, by looking at each entry with all others.
func leastOf(l []api.Entry) (api.Entry, bool) {
	for _, e := range l {
		if !slices.ContainsFunc(l, func(o api.Entry) bool {
			return o.Own+o.Slack < e.Own+e.Slack || o.Own+o.Slack == e.Own+e.Slack && o.Key > e.Key
		}) {
			return e, true
		}
	}
	return api.Entry{}, false
}

// checkStore compares all that a store says of itself with its entries in ascending order of the keys.
func checkStore(t *testing.T, s *exact.Store, want ...api.Entry) {
	t.Helper()
	if got := s.Entries(); !slices.Equal(got, want) || s.Len() != len(want) {
		t.Fatalf("Entries() has %d, %s, want %d, %s; Len() is %d", len(got), brief(got), len(want), brief(want), s.Len())
	}
	for _, e := range want {
		checkGet(t, s, e.Key, e, true)
	}
	least, ok := leastOf(want)
	checkLeast(t, s, least, ok)
}

// checkAbsent says that the store does not have a key.
func checkAbsent(t *testing.T, s *exact.Store, key string) {
	t.Helper()
	checkGet(t, s, key, api.Entry{}, false)
	checkTake(t, s, key, api.Entry{}, false)
	for _, w := range []uint64{0, 1, most, most + 1, math.MaxUint64} {
		checkAdd(t, s, key, w, api.ErrNone)
	}
}

// name returns the key with a number.
func name(i int) string {
	return "k" + strconv.Itoa(1000+i)
}

// P17.1: the numbers of keys that a store may have, and those that it may not. It has room for as many, and no more.
func TestNew(t *testing.T) {
	for _, n := range []int{-1, -2, -32, math.MinInt, 33, 34, 64, 1 << 32, 1<<32 + 1, math.MaxInt} {
		if s, e := exact.New(n); s != nil || e != api.ErrRange {
			t.Errorf("New(%d) = %v, %d", n, s, e)
		}
	}
	for n := 0; n <= 32; n++ {
		s := open(t, n)
		checkStore(t, s)
		checkAbsent(t, s, "")
		checkAbsent(t, s, name(0))
		var full []api.Entry
		for i := range n {
			e := entry(name(i), uint64(i*7%10), uint64(i*3%8))
			checkPut(t, s, e, api.OK)
			full = append(full, e)
			checkStore(t, s, full...)
		}
		for range 2 {
			checkPut(t, s, entry(name(n), 1, 0), api.ErrFull)
			checkAbsent(t, s, name(n))
			checkStore(t, s, full...)
		}
	}
}

// P17.2 and P17.3: the chapter's example.
func TestExample(t *testing.T) {
	s := filled(t, 2, entry("a", 5, 1), entry("b", 4, 2))
	checkLeast(t, s, entry("b", 4, 2), true)
	checkAdd(t, s, "b", 1, api.OK)
	checkLeast(t, s, entry("a", 5, 1), true)
	checkStore(t, s, entry("a", 5, 1), entry("b", 5, 2))
}

// P17.2: the errors of Put, each alone and with those behind it, for a store with room and for a full one.
// R2: they change nothing.
func TestPutErrors(t *testing.T) {
	numbers := [][2]uint64{{0, 0}, {5, 1}, {most, 0}, {most, 1}, {1, most}, {math.MaxUint64, 1}, {math.MaxUint64, math.MaxUint64}}
	for _, n := range []int{2, 3} {
		l := []api.Entry{entry("a", 5, 1), entry("b", 4, 2)}
		s := filled(t, n, l...)
		check := func(e api.Entry, want api.Errno) {
			t.Helper()
			checkPut(t, s, e, want)
			checkStore(t, s, l...)
		}
		for _, c := range numbers {
			check(entry("", c[0], c[1]), api.ErrForm)
			check(entry("a", c[0], c[1]), api.ErrDuplicate)
			check(entry("b", c[0], c[1]), api.ErrDuplicate)
			if n == 2 {
				check(entry("c", c[0], c[1]), api.ErrFull)
			}
		}
		checkAbsent(t, s, "")
		checkAbsent(t, s, "c")
	}
}

// P17.1 and P17.2: a store for no keys is always full, and errors that come before this one still do.
func TestNoRoom(t *testing.T) {
	s := open(t, 0)
	for _, w := range []uint64{0, 1, most, most + 1, math.MaxUint64} {
		checkPut(t, s, entry("", w, w), api.ErrForm)
		checkPut(t, s, entry("a", w, w), api.ErrFull)
		checkAbsent(t, s, "a")
		checkAbsent(t, s, "")
		checkStore(t, s)
	}
}

// P17.2: Own and Slack of an entry are together at most MaxTotal, also where their sum exceeds 64 bits.
func TestPutOverflow(t *testing.T) {
	for _, c := range []struct {
		own, slack uint64
		want       api.Errno
	}{
		{0, 0, api.OK},
		{1, 0, api.OK},
		{0, 1, api.OK},
		{most, 0, api.OK},
		{0, most, api.OK},
		{most - 1, 1, api.OK},
		{1, most - 1, api.OK},
		{most / 2, most / 2, api.OK},
		{most + 1, 0, api.ErrOverflow},
		{0, most + 1, api.ErrOverflow},
		{most, 1, api.ErrOverflow},
		{1, most, api.ErrOverflow},
		{most/2 + 1, most / 2, api.ErrOverflow},
		{most / 2, most/2 + 1, api.ErrOverflow},
		{most, most, api.ErrOverflow},
		{most + 1, most, api.ErrOverflow},
		{most, most + 1, api.ErrOverflow},
		{most + 1, most + 1, api.ErrOverflow},
		{math.MaxUint64, 0, api.ErrOverflow},
		{0, math.MaxUint64, api.ErrOverflow},
		{math.MaxUint64, 1, api.ErrOverflow},
		{1, math.MaxUint64, api.ErrOverflow},
		{2, math.MaxUint64, api.ErrOverflow},
		{math.MaxUint64, 2, api.ErrOverflow},
		{math.MaxUint64, math.MaxUint64, api.ErrOverflow},
	} {
		s := filled(t, 2, entry("b", 4, 2))
		e := entry("a", c.own, c.slack)
		checkPut(t, s, e, c.want)
		if c.want == api.OK {
			checkStore(t, s, e, entry("b", 4, 2))
			continue
		}
		checkStore(t, s, entry("b", 4, 2))
		checkAbsent(t, s, "a")
	}
}

// P17.2: Own, Slack and w are together at most MaxTotal, also where their sum exceeds 64 bits.
// R2: an error changes nothing. P17.5: the Slack stays.
func TestAdd(t *testing.T) {
	for _, c := range []struct {
		own, slack, w uint64
		want          api.Errno
	}{
		{0, 0, 0, api.OK},
		{0, 0, 1, api.OK},
		{5, 2, 0, api.OK},
		{5, 2, 1, api.OK},
		{5, 2, 300, api.OK},
		{0, 0, most, api.OK},
		{0, 2, most - 2, api.OK},
		{5, 0, most - 5, api.OK},
		{5, 2, most - 7, api.OK},
		{0, most - 1, 1, api.OK},
		{most - 1, 0, 1, api.OK},
		{most, 0, 0, api.OK},
		{0, most, 0, api.OK},
		{1, most - 1, 0, api.OK},
		{0, 0, most + 1, api.ErrOverflow},
		{0, 2, most - 1, api.ErrOverflow},
		{5, 0, most - 4, api.ErrOverflow},
		{5, 2, most - 6, api.ErrOverflow},
		{5, 2, most, api.ErrOverflow},
		{5, 2, most + 1, api.ErrOverflow},
		{most, 0, 1, api.ErrOverflow},
		{0, most, 1, api.ErrOverflow},
		{1, most - 1, 1, api.ErrOverflow},
		{most, 0, most, api.ErrOverflow},
		{0, most, most, api.ErrOverflow},
		{1, most - 1, most, api.ErrOverflow},
		{5, 2, math.MaxUint64, api.ErrOverflow},
		{5, 2, math.MaxUint64 - 6, api.ErrOverflow},
		{5, 2, math.MaxUint64 - 5, api.ErrOverflow},
		{5, 2, math.MaxUint64 - 4, api.ErrOverflow},
		{most, 0, math.MaxUint64, api.ErrOverflow},
		{0, most, math.MaxUint64, api.ErrOverflow},
		{most / 2, most / 2, math.MaxUint64, api.ErrOverflow},
	} {
		s := filled(t, 3, entry("c", 1, 1), entry("b", c.own, c.slack), entry("a", 9, 0))
		checkAdd(t, s, "b", c.w, c.want)
		e := entry("b", c.own, c.slack)
		if c.want == api.OK {
			e.Own += c.w
		}
		checkStore(t, s, entry("a", 9, 0), e, entry("c", 1, 1))
	}
}

// P17.2: each key has its own room for weight, which ends where it may have no more.
func TestAddUntilFull(t *testing.T) {
	s := filled(t, 2, entry("a", 0, most/2), entry("b", most-1, 0))
	checkAdd(t, s, "a", most/4, api.OK)
	checkAdd(t, s, "a", most/4-1, api.OK)
	checkAdd(t, s, "a", 2, api.ErrOverflow)
	checkAdd(t, s, "a", 1, api.OK)
	checkAdd(t, s, "a", 1, api.ErrOverflow)
	checkAdd(t, s, "a", 0, api.OK)
	checkAdd(t, s, "b", 1, api.OK)
	checkAdd(t, s, "b", 1, api.ErrOverflow)
	checkStore(t, s, entry("a", most/2, most/2), entry("b", most, 0))
	// A key that was taken and comes back has what its new entry says.
	checkTake(t, s, "a", entry("a", most/2, most/2), true)
	checkPut(t, s, entry("a", 3, 1), api.OK)
	checkAdd(t, s, "a", most-3, api.ErrOverflow)
	checkAdd(t, s, "a", most-4, api.OK)
	checkStore(t, s, entry("a", most-1, 1), entry("b", most, 0))
}

// P17.3: keys that are there, that were, and that never were; those that are near to others; and room for new ones.
func TestTake(t *testing.T) {
	s := filled(t, 3, entry("b", 4, 2), entry("d", 6, 0), entry("c", 1, 9))
	for _, key := range []string{"", "a", "e", "A", "b ", "bb", "b\x00", "\x00", "\xff", "bc", "d0"} {
		checkAbsent(t, s, key)
		checkStore(t, s, entry("b", 4, 2), entry("c", 1, 9), entry("d", 6, 0))
	}
	checkTake(t, s, "c", entry("c", 1, 9), true)
	checkAbsent(t, s, "c")
	checkStore(t, s, entry("b", 4, 2), entry("d", 6, 0))
	checkPut(t, s, entry("a", 2, 2), api.OK)
	checkPut(t, s, entry("e", 2, 2), api.ErrFull)
	checkPut(t, s, entry("c", 2, 2), api.ErrFull)
	checkTake(t, s, "d", entry("d", 6, 0), true)
	checkTake(t, s, "a", entry("a", 2, 2), true)
	checkStore(t, s, entry("b", 4, 2))
	checkTake(t, s, "b", entry("b", 4, 2), true)
	for _, key := range []string{"", "a", "b", "c", "d"} {
		checkAbsent(t, s, key)
		checkStore(t, s)
	}
	for i, key := range []string{"c", "b", "a"} {
		checkPut(t, s, entry(key, uint64(i), 1), api.OK)
	}
	checkPut(t, s, entry("d", 1, 1), api.ErrFull)
	checkStore(t, s, entry("a", 2, 1), entry("b", 1, 1), entry("c", 0, 1))
}

// P17.3: Own and Slack count alike, the greatest key decides among several, and nothing is there in an empty store.
func TestLeast(t *testing.T) {
	for _, c := range []struct {
		l    []api.Entry
		want int
	}{
		{[]api.Entry{entry("a", 0, 0)}, 0},
		{[]api.Entry{entry("a", most, 0)}, 0},
		{[]api.Entry{entry("a", 5, 0), entry("b", 4, 0)}, 1},
		{[]api.Entry{entry("a", 4, 0), entry("b", 5, 0)}, 0},
		{[]api.Entry{entry("a", 0, 4), entry("b", 0, 5)}, 0},
		{[]api.Entry{entry("a", 1, 5), entry("b", 4, 1)}, 1},
		{[]api.Entry{entry("a", 4, 1), entry("b", 1, 5)}, 0},
		{[]api.Entry{entry("a", 5, 1), entry("b", 4, 2)}, 1},
		{[]api.Entry{entry("a", 4, 2), entry("b", 5, 1)}, 1},
		{[]api.Entry{entry("b", 4, 2), entry("a", 5, 1)}, 0},
		{[]api.Entry{entry("b", 3, 3), entry("c", 6, 0), entry("a", 0, 6)}, 1},
		{[]api.Entry{entry("c", 3, 4), entry("a", 6, 0), entry("b", 0, 6)}, 2},
		{[]api.Entry{entry("a", 3, 3), entry("b", 6, 0), entry("c", 9, 0), entry("d", 2, 5)}, 1},
		{[]api.Entry{entry("a", 7, 0), entry("b", 1, 4), entry("c", 5, 0), entry("d", 5, 1)}, 2},
		{[]api.Entry{entry("b", 1, 0), entry("a\xff", 1, 0), entry("\xff", 1, 0), entry("é", 1, 0)}, 2},
		{[]api.Entry{entry("aa", 1, 0), entry("b", 1, 0), entry("ab", 1, 0)}, 1},
		{[]api.Entry{entry("a", 1, 0), entry("A", 1, 0), entry("a\x00", 1, 0)}, 2},
		{[]api.Entry{entry("a", most, 0), entry("b", 0, most), entry("c", most/2, most/2)}, 2},
		{[]api.Entry{entry("a", most-1, 0), entry("b", 0, most), entry("c", most, 0)}, 0},
	} {
		s := filled(t, 4, c.l...)
		checkLeast(t, s, c.l[c.want], true)
		if s.Len() != len(c.l) {
			t.Errorf("Len() = %d, want %d", s.Len(), len(c.l))
		}
		for _, e := range c.l {
			checkTake(t, s, e.Key, e, true)
		}
		checkLeast(t, s, api.Entry{}, false)
	}
}

// P17.3: the entries ascend bytewise by their keys, in whichever order they were put into the store.
func TestOrder(t *testing.T) {
	random := rand.New(rand.NewSource(17))
	for n := 1; n <= 32; n++ {
		var want []api.Entry
		for i := range n {
			want = append(want, entry(name(i), uint64(random.Intn(5)), uint64(random.Intn(5))))
		}
		for range 5 {
			s := open(t, n)
			for _, i := range random.Perm(n) {
				checkPut(t, s, want[i], api.OK)
			}
			checkStore(t, s, want...)
			rest := slices.Clone(want)
			for _, i := range random.Perm(n) {
				checkTake(t, s, name(i), want[i], true)
				rest = slices.DeleteFunc(rest, func(e api.Entry) bool { return e.Key == name(i) })
				checkStore(t, s, rest...)
			}
		}
	}
}

// P17.2 and P17.3: keys may have any bytes and any length, and are compared bytewise.
func TestKeys(t *testing.T) {
	l := []string{"a", "A", "aa", "a\x00", "\x00a", "\x00", "\x00\x00", " ", "a ", "é", "e\u0301", "\xc3", "\xa9",
		"\xff", "\xfe", "\ufffd", "ab", "ba", "\x03app\x02x1\x04host\x01a"}
	for _, n := range []int{255, 256, 4096, 1 << 20} {
		l = append(l, strings.Repeat("k", n), strings.Repeat("k", n-1)+"l", "l"+strings.Repeat("k", n-1))
	}
	s := open(t, len(l))
	var want []api.Entry
	for i, key := range l {
		checkAbsent(t, s, key)
		e := entry(key, uint64(i), 3)
		checkPut(t, s, e, api.OK)
		checkPut(t, s, e, api.ErrDuplicate)
		checkAdd(t, s, key, 2, api.OK)
		e.Own += 2
		want = append(want, e)
	}
	checkPut(t, s, entry(strings.Repeat("m", 1<<20), 1, 0), api.ErrFull)
	slices.SortFunc(want, func(a, b api.Entry) int { return strings.Compare(a.Key, b.Key) })
	checkStore(t, s, want...)
	for _, e := range want {
		checkTake(t, s, e.Key, e, true)
		checkAbsent(t, s, e.Key)
	}
	checkStore(t, s)
}

// P17.4: no store.
func TestNil(t *testing.T) {
	var s *exact.Store
	for _, key := range []string{"", "a", strings.Repeat("a", 256)} {
		for _, w := range []uint64{0, 1, most, most + 1, math.MaxUint64} {
			checkPut(t, s, entry(key, w, 0), api.ErrNone)
			checkPut(t, s, entry(key, w, w), api.ErrNone)
		}
		checkAbsent(t, s, key)
	}
	checkStore(t, s)
	if l := s.Entries(); l != nil {
		t.Errorf("Entries() = %v", l)
	}
}

// P17.5: an entry comes out with the Slack that it was put in with, whatever happens to it and to others.
func TestSlackStays(t *testing.T) {
	for _, slack := range []uint64{0, 1, 7, 1 << 40, most - 500, most} {
		s := filled(t, 3, entry("a", 0, 3), entry("b", 0, slack), entry("c", 0, 5))
		var own uint64
		check := func() {
			t.Helper()
			checkGet(t, s, "b", entry("b", own, slack), true)
		}
		for w := range uint64(20) {
			if s.Add("b", w) == api.OK {
				own += w
			}
			checkAdd(t, s, "b", most+1, api.ErrOverflow)
			check()
			checkPut(t, s, entry("b", 1, w), api.ErrDuplicate)
			checkPut(t, s, entry("d", 1, w), api.ErrFull)
			check()
			checkAdd(t, s, "a", w, api.OK)
			checkAdd(t, s, "d", w, api.ErrNone)
			checkTake(t, s, "c", entry("c", 0, w+5), true)
			checkPut(t, s, entry("c", 0, w+6), api.OK)
			check()
		}
		checkTake(t, s, "b", entry("b", own, slack), true)
	}
}

// R4: the entries returned are new, and later calls do not change them.
func TestMemoryIsNotShared(t *testing.T) {
	l := []api.Entry{entry("a", 5, 1), entry("b", 4, 2), entry("c", 6, 0)}
	s := filled(t, 4, l...)
	first, second := s.Entries(), s.Entries()
	slices.Reverse(first)
	first[0] = entry("x", 9, 9)
	first = append(first[:1], entry("y", 8, 8), entry("z", 7, 7), entry("zz", 6, 6))
	checkStore(t, s, l...)
	got, _ := s.Get("a")
	checkAdd(t, s, "a", 1, api.OK)
	checkTake(t, s, "b", entry("b", 4, 2), true)
	checkPut(t, s, entry("A", 3, 3), api.OK)
	checkPut(t, s, entry("d", 3, 3), api.OK)
	if !slices.Equal(second, l) || got != l[0] {
		t.Errorf("later calls changed the entries to %v, and %v", second, got)
	}
	if want := []api.Entry{entry("x", 9, 9), entry("y", 8, 8), entry("z", 7, 7), entry("zz", 6, 6)}; !slices.Equal(first, want) {
		t.Errorf("later calls changed other entries to %v", first)
	}
}

// inUse returns how many bytes of memory are reachable.
func inUse() uint64 {
	runtime.GC()
	var m runtime.MemStats
	runtime.ReadMemStats(&m)
	return m.HeapAlloc
}

// R4: neither the store nor the entries that it returns keep the text that a short key is a part of.
func TestArgumentsAreNotKept(t *testing.T) {
	const long, n = 1 << 20, 32
	s := open(t, n)
	part := func(i int) string {
		return (strings.Repeat("x", long) + name(i))[long:]
	}
	var got []api.Entry
	before := inUse()
	for i := range n {
		checkPut(t, s, entry(part(i), 5, 1), api.OK)
		checkAdd(t, s, part(i), 2, api.OK)
		e, _ := s.Get(part(i))
		got = append(got, e)
	}
	for i := range n / 2 {
		e, _ := s.Take(part(i))
		got = append(got, e)
	}
	if after := inUse(); after > before+n*long/4 {
		t.Errorf("%d short keys keep %d bytes", n, after-before)
	}
	if e := entry(name(0), 7, 1); got[0] != e || got[n] != e {
		t.Errorf("the entries of %v are %v and %v", e, got[0], got[n])
	}
	checkGet(t, s, name(n-1), entry(name(n-1), 7, 1), true)
}

// The document's purpose: the store has a fixed size, and keeps no key that was taken, whether the first or the last one.
func TestMemoryIsBounded(t *testing.T) {
	const long, n = 1 << 16, 32
	key := func(i int) string {
		return strings.Repeat("x", long) + name(i)
	}
	s := open(t, n)
	before := inUse()
	for round := range 6 {
		for i := range n {
			checkPut(t, s, entry(key(i), 1, 0), api.OK)
		}
		for i := range n {
			if round%2 == 0 {
				i = n - 1 - i
			}
			checkTake(t, s, key(i), entry(key(i), 1, 0), true)
		}
		if after := inUse(); after > before+n*long/4 {
			t.Errorf("the empty store keeps %d bytes", after-before)
		}
	}
	runtime.KeepAlive(s)
}

// R5: two stores do not know of one another.
func TestStoresAreApart(t *testing.T) {
	x, y := filled(t, 2, entry("a", 5, 1)), filled(t, 2, entry("b", 4, 2))
	checkAbsent(t, x, "b")
	checkAbsent(t, y, "a")
	checkPut(t, y, entry("a", 1, 1), api.OK)
	checkAdd(t, x, "a", 2, api.OK)
	checkStore(t, x, entry("a", 7, 1))
	checkStore(t, y, entry("a", 1, 1), entry("b", 4, 2))
	checkTake(t, x, "a", entry("a", 7, 1), true)
	checkStore(t, y, entry("a", 1, 1), entry("b", 4, 2))
}

// record is what the chapter's words say of a store.
type record struct {
	n       int
	entries map[string]api.Entry
}

func (r *record) put(e api.Entry) api.Errno {
	if e.Key == "" {
		return api.ErrForm
	}
	if _, ok := r.entries[e.Key]; ok {
		return api.ErrDuplicate
	}
	if len(r.entries) == r.n {
		return api.ErrFull
	}
	if e.Own > most || e.Slack > most-e.Own {
		return api.ErrOverflow
	}
	r.entries[e.Key] = e
	return api.OK
}

func (r *record) add(key string, w uint64) api.Errno {
	e, ok := r.entries[key]
	if !ok {
		return api.ErrNone
	}
	if w > most-e.Own-e.Slack {
		return api.ErrOverflow
	}
	e.Own += w
	r.entries[key] = e
	return api.OK
}

func (r *record) take(key string) (api.Entry, bool) {
	e, ok := r.entries[key]
	delete(r.entries, key)
	return e, ok
}

// sorted returns the entries in ascending order of their keys.
func (r *record) sorted() []api.Entry {
	var l []api.Entry
	for _, key := range slices.Sorted(maps.Keys(r.entries)) {
		l = append(l, r.entries[key])
	}
	return l
}

// keyOf returns one of a few keys, several of each length; the first one is empty.
func keyOf(n byte) string {
	return strings.Repeat(string([]byte{n + 60}), int(n)%4)
}

// weigh makes a small number or, of the last ones of a byte, a greater one.
func weigh(b byte) uint64 {
	greater := []uint64{most - 900, most / 2, most - 7, most, most + 1, math.MaxUint64 - 3, math.MaxUint64}
	if at := int(b) - 256 + len(greater); at >= 0 {
		return greater[at]
	}
	return uint64(b % 8)
}

// step is the numbers that choose a call.
type step struct {
	kind, key, own, slack byte
}

// checkStep lets a store and its record do the same, and compares all that they say then.
func checkStep(t *testing.T, s *exact.Store, r *record, c step) {
	t.Helper()
	key := keyOf(c.key)
	switch c.kind % 8 {
	case 0, 1, 2:
		e := entry(key, weigh(c.own), weigh(c.slack))
		checkPut(t, s, e, r.put(e))
	case 3, 4, 5:
		checkAdd(t, s, key, weigh(c.own), r.add(key, weigh(c.own)))
	case 6:
		want, ok := r.take(key)
		checkTake(t, s, key, want, ok)
	default:
		// The entry that has to go first, as in a tier.
		if e, ok := s.Least(); ok {
			want, _ := r.take(e.Key)
			checkTake(t, s, e.Key, want, true)
		}
	}
	for _, near := range []byte{c.key, c.key + 1, c.own} {
		want, ok := r.entries[keyOf(near)]
		checkGet(t, s, keyOf(near), want, ok)
	}
	checkStore(t, s, r.sorted()...)
}

// P17.2, P17.3 and P17.5: long sequences of calls, against the record.
func TestByDefinition(t *testing.T) {
	random := rand.New(rand.NewSource(17))
	for _, n := range []int{0, 1, 2, 3, 5, 16, 32} {
		for range 4 {
			s, r := open(t, n), &record{n, map[string]api.Entry{}}
			for range 1000 {
				c := step{byte(random.Intn(8)), byte(random.Intn(2*n + 4)), byte(random.Intn(240)), byte(random.Intn(240))}
				if random.Intn(10) == 0 {
					c.own = byte(248 + random.Intn(8))
				}
				if random.Intn(10) == 0 {
					c.slack = byte(248 + random.Intn(8))
				}
				checkStep(t, s, r, c)
			}
		}
	}
}

// P17.2, P17.3 and P17.5: sequences that the fuzzer finds.
func FuzzByDefinition(f *testing.F) {
	f.Add(byte(2), []byte{0, 1, 5, 1, 0, 2, 4, 2, 3, 2, 1, 0, 7, 0, 0, 0, 6, 1, 0, 0})
	f.Add(byte(1), []byte{0, 1, 252, 0, 3, 1, 1, 0, 3, 1, 255, 0, 0, 2, 253, 253, 0, 0, 0, 0, 7, 0, 0, 0, 0, 2, 253, 1, 0, 2, 250, 250})
	f.Fuzz(func(t *testing.T, n byte, calls []byte) {
		s, r := open(t, int(n)%33), &record{int(n) % 33, map[string]api.Entry{}}
		for i := 0; i+3 < min(len(calls), 1500); i += 4 {
			checkStep(t, s, r, step{calls[i], calls[i+1], calls[i+2], calls[i+3]})
		}
	})
}
