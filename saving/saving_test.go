package saving_test

import (
	"cmp"
	"fmt"
	"math"
	"math/bits"
	"math/rand"
	"runtime"
	"slices"
	"strconv"
	"strings"
	"testing"

	"heavykeys/api"
	"heavykeys/saving"
)

// most is the greatest weight of a table.
const most uint64 = 1 << 63

func entry(key string, own, slack uint64) api.Entry {
	return api.Entry{Key: key, Own: own, Slack: slack}
}

// open returns an empty table for m keys.
func open(t *testing.T, m int) *saving.Table {
	t.Helper()
	x, e := saving.New(m)
	if x == nil || e != api.OK {
		t.Fatalf("New(%d) = %v, %d", m, x, e)
	}
	return x
}

// weight is what is added to a key.
type weight struct {
	key string
	w   uint64
}

// filled returns a table for m keys to which these weights were added.
func filled(t *testing.T, m int, l ...weight) *saving.Table {
	t.Helper()
	x := open(t, m)
	for _, c := range l {
		checkAdd(t, x, c.key, c.w, api.OK)
	}
	return x
}

// brief writes an entry, or some of them, of which the keys may be long.
func brief(v any) string {
	return fmt.Sprintf("%.200q", fmt.Sprint(v))
}

func checkAdd(t *testing.T, x *saving.Table, key string, w uint64, want api.Errno) {
	t.Helper()
	if e := x.Add(key, w); e != want {
		t.Fatalf("Add(%.20q, %d) = %d, want %d", key, w, e, want)
	}
}

func checkGet(t *testing.T, x *saving.Table, key string, want api.Entry, tracked bool) {
	t.Helper()
	if e, ok := x.Get(key); e != want || ok != tracked {
		t.Fatalf("Get(%.20q) = %s, %t, want %s, %t", key, brief(e), ok, brief(want), tracked)
	}
}

func checkTake(t *testing.T, x *saving.Table, key string, want api.Entry, tracked bool) {
	t.Helper()
	if e, ok := x.Take(key); e != want || ok != tracked {
		t.Fatalf("Take(%.20q) = %s, %t, want %s, %t", key, brief(e), ok, brief(want), tracked)
	}
}

func checkSwap(t *testing.T, x *saving.Table, key string, e, want api.Entry, err api.Errno) {
	t.Helper()
	if old, got := x.Swap(key, e); old != want || got != err {
		t.Fatalf("Swap(%.20q, %s) = %s, %d, want %s, %d", key, brief(e), brief(old), got, brief(want), err)
	}
}

// checkTable compares all that a table says of itself. The entries are those that it must have, in ascending order.
func checkTable(t *testing.T, x *saving.Table, base, total uint64, want ...api.Entry) {
	t.Helper()
	if got := x.Entries(); !slices.Equal(got, want) {
		t.Fatalf("Entries() has %d, %s, want %d, %s", len(got), brief(got), len(want), brief(want))
	}
	if got := x.Untracked(); got != base {
		t.Fatalf("Untracked() = %d, want %d", got, base)
	}
	if got := x.Total(); got != total {
		t.Fatalf("Total() = %d, want %d", got, total)
	}
	if got := x.Len(); got != len(want) {
		t.Fatalf("Len() = %d, want %d", got, len(want))
	}
	for _, e := range want {
		checkGet(t, x, e.Key, e, true)
	}
}

// checkAbsent says that a key is not tracked.
func checkAbsent(t *testing.T, x *saving.Table, key string) {
	t.Helper()
	checkGet(t, x, key, api.Entry{}, false)
	checkTake(t, x, key, api.Entry{}, false)
	for _, e := range []api.Entry{{}, entry("new", 0, 0), entry("new", 1, 0), entry(key, 1, 0), entry("new", math.MaxUint64, 1)} {
		checkSwap(t, x, key, e, api.Entry{}, api.ErrNone)
	}
}

// name returns the key with a number.
func name(i int) string {
	return "k" + strconv.Itoa(1000+i)
}

// P13.1: the numbers of keys that a table may have, and those that it may not. It has room for as many, and no more.
func TestNew(t *testing.T) {
	for _, m := range []int{0, -1, -2, -64, math.MinInt, 65, 66, 128, 8192, math.MaxInt} {
		if x, e := saving.New(m); x != nil || e != api.ErrRange {
			t.Errorf("New(%d) = %v, %d", m, x, e)
		}
	}
	for m := 1; m <= 64; m++ {
		x := open(t, m)
		checkTable(t, x, 0, 0)
		checkAbsent(t, x, "")
		checkAbsent(t, x, name(0))
		var want []api.Entry
		for i := range m {
			checkAdd(t, x, name(i), 2, api.OK)
			want = append(want, api.Entry{Key: name(i), Own: 2})
			checkTable(t, x, 0, uint64(2*i+2), want...)
		}
		checkAdd(t, x, name(m), 1, api.OK)
		want = append(want[1:], api.Entry{Key: name(m), Own: 1, Slack: 2})
		checkTable(t, x, 2, uint64(2*m+1), want...)
		checkAbsent(t, x, name(0))
	}
}

// P13.2 to P13.5: the chapter's example.
func TestExample(t *testing.T) {
	x := filled(t, 2, weight{"a", 5}, weight{"b", 3})
	checkTable(t, x, 0, 8, entry("a", 5, 0), entry("b", 3, 0))
	checkAdd(t, x, "c", 1, api.OK)
	checkTable(t, x, 3, 9, entry("a", 5, 0), entry("c", 1, 3))
	checkAbsent(t, x, "b")
	checkTake(t, x, "c", entry("c", 1, 3), true)
	checkTable(t, x, 3, 9, entry("a", 5, 0))
	checkAdd(t, x, "d", 2, api.OK)
	checkTable(t, x, 3, 11, entry("a", 5, 0), entry("d", 2, 3))
}

// P13.2: the errors of Add, each alone and with those behind it, for tracked keys, others, and a full table.
func TestAddErrors(t *testing.T) {
	for _, m := range []int{2, 3} {
		x := filled(t, m, weight{"a", 5}, weight{"b", 3})
		for _, c := range []struct {
			key  string
			w    uint64
			want api.Errno
		}{
			{"", 0, api.ErrForm},
			{"", 1, api.ErrForm},
			{"", most, api.ErrForm},
			{"", math.MaxUint64, api.ErrForm},
			{"a", 0, api.ErrRange},
			{"c", 0, api.ErrRange},
			{"a", most - 7, api.ErrOverflow},
			{"c", most - 7, api.ErrOverflow},
			{"b", most, api.ErrOverflow},
			{"c", most + 1, api.ErrOverflow},
			{"a", math.MaxUint64 - 8, api.ErrOverflow},
			{"c", math.MaxUint64 - 7, api.ErrOverflow},
			{"a", math.MaxUint64 - 4, api.ErrOverflow},
			{"b", math.MaxUint64, api.ErrOverflow},
			{"c", math.MaxUint64, api.ErrOverflow},
		} {
			checkAdd(t, x, c.key, c.w, c.want)
			checkTable(t, x, 0, 8, entry("a", 5, 0), entry("b", 3, 0))
			checkAbsent(t, x, "c")
		}
	}
}

// P13.2: when Total is MaxTotal nothing can be added, and an error of weight 0 still comes first.
func TestGreatestTotal(t *testing.T) {
	full := func(x *saving.Table) {
		for _, key := range []string{"a", "b", "c"} {
			checkAdd(t, x, key, 0, api.ErrRange)
			for _, w := range []uint64{1, most, most + 1, math.MaxUint64} {
				checkAdd(t, x, key, w, api.ErrOverflow)
			}
		}
		checkAdd(t, x, "", 0, api.ErrForm)
		checkAdd(t, x, "", 1, api.ErrForm)
	}
	x := filled(t, 1, weight{"a", most})
	full(x)
	checkTable(t, x, 0, most, entry("a", most, 0))
	x = filled(t, 1, weight{"a", 1}, weight{"a", most - 1})
	full(x)
	checkTable(t, x, 0, most, entry("a", most, 0))
	x = filled(t, 1, weight{"a", most - 1}, weight{"b", 1})
	full(x)
	checkTable(t, x, most-1, most, entry("b", 1, most-1))
	checkTake(t, x, "b", entry("b", 1, most-1), true)
	full(x)
	checkTable(t, x, most-1, most)
	x = filled(t, 2, weight{"a", most / 2}, weight{"b", most / 2})
	full(x)
	checkTable(t, x, 0, most, entry("a", most/2, 0), entry("b", most/2, 0))
	checkSwap(t, x, "a", entry("c", 0, most/2), entry("a", most/2, 0), api.OK)
	full(x)
	checkTable(t, x, 0, most, entry("b", most/2, 0), entry("c", 0, most/2))
}

// P13.2: a tracked key keeps its Slack, and Base does not change.
func TestAddToTracked(t *testing.T) {
	x := filled(t, 2, weight{"a", 5}, weight{"b", 3}, weight{"c", 1})
	checkAdd(t, x, "c", 10, api.OK)
	checkTable(t, x, 3, 19, entry("a", 5, 0), entry("c", 11, 3))
	checkAdd(t, x, "a", 1, api.OK)
	checkTable(t, x, 3, 20, entry("a", 6, 0), entry("c", 11, 3))
	checkAdd(t, x, "c", 1, api.OK)
	checkTable(t, x, 3, 21, entry("a", 6, 0), entry("c", 12, 3))
}

// P13.2: it is the count that is compared, not Own or Slack alone, and Base becomes the removed one.
func TestLeastCountIsRemoved(t *testing.T) {
	// a has the least Slack and b the least Own, and both counts are greater than that of c.
	x := filled(t, 3, weight{"a", 9}, weight{"x", 6}, weight{"y", 1}, weight{"c", 3}, weight{"b", 1})
	checkTable(t, x, 4, 20, entry("a", 9, 0), entry("b", 1, 4), entry("x", 6, 0))
	checkAdd(t, x, "b", 1, api.OK)
	checkAdd(t, x, "d", 7, api.OK)
	checkTable(t, x, 6, 28, entry("a", 9, 0), entry("b", 2, 4), entry("d", 7, 6))
	checkAdd(t, x, "b", 4, api.OK)
	checkAdd(t, x, "e", 1, api.OK)
	checkTable(t, x, 9, 33, entry("b", 6, 4), entry("d", 7, 6), entry("e", 1, 9))
	// A key that comes back begins anew.
	checkAdd(t, x, "a", 2, api.OK)
	checkTable(t, x, 10, 35, entry("a", 2, 10), entry("d", 7, 6), entry("e", 1, 9))
}

// checkRemoved adds other keys to a full table whose counts are all the same, and says which keys go away, in their order.
func checkRemoved(t *testing.T, x *saving.Table, want ...string) {
	t.Helper()
	for i, key := range want {
		checkAdd(t, x, name(i), 1, api.OK)
		checkAbsent(t, x, key)
		for _, later := range want[i+1:] {
			if _, ok := x.Get(later); !ok {
				t.Fatalf("%q is gone, want %q to go away first", later, key)
			}
		}
	}
}

// P13.2: among entries with the same count, the one goes that was made, or increased, before the others.
func TestLongestOfLeastIsRemoved(t *testing.T) {
	keys := []string{"a", "b", "c"}
	for _, p := range [][]int{{0, 1, 2}, {0, 2, 1}, {1, 0, 2}, {1, 2, 0}, {2, 0, 1}, {2, 1, 0}} {
		var made, raised []weight
		var want []string
		for i, key := range keys {
			raised = append(raised, weight{key, uint64(i + 1)})
		}
		for _, i := range p {
			made = append(made, weight{keys[i], 4})
			raised = append(raised, weight{keys[i], uint64(3 - i)})
			want = append(want, keys[i])
		}
		checkRemoved(t, filled(t, 3, made...), want...)
		checkRemoved(t, filled(t, 3, raised...), want...)
		// One that is taken and comes back has its count for the shortest time.
		x := filled(t, 3, made...)
		checkTake(t, x, want[0], entry(want[0], 4, 0), true)
		checkAdd(t, x, want[0], 4, api.OK)
		checkRemoved(t, x, want[1], want[2], want[0])
	}
}

// P13.2: what changes no Own changes no order either.
func TestOrderIsKept(t *testing.T) {
	x := filled(t, 3, weight{"b", 4}, weight{"c", 4}, weight{"a", 4})
	for _, key := range []string{"b", "c", "b"} {
		checkAdd(t, x, key, 0, api.ErrRange)
		checkAdd(t, x, key, most, api.ErrOverflow)
		checkGet(t, x, key, entry(key, 4, 0), true)
		checkSwap(t, x, key, entry(key, 4, 0), api.Entry{}, api.ErrDuplicate)
		checkSwap(t, x, key, entry("d", 5, 0), api.Entry{}, api.ErrRange)
	}
	x.Entries()
	checkRemoved(t, x, "b", "c", "a")
}

// P13.4 with P13.2: an entry that Swap adds is made then, so others with its count have had it longer.
func TestOrderAfterSwap(t *testing.T) {
	x := filled(t, 3, weight{"a", 4}, weight{"b", 4}, weight{"c", 4})
	checkSwap(t, x, "a", entry("d", 3, 1), entry("a", 4, 0), api.OK)
	checkRemoved(t, x, "b", "c", "d")
	x = filled(t, 3, weight{"a", 4}, weight{"b", 9}, weight{"c", 4})
	checkSwap(t, x, "b", entry("d", 4, 0), entry("b", 9, 0), api.OK)
	checkRemoved(t, x, "a", "c", "d")
	x = filled(t, 3, weight{"a", 4}, weight{"b", 9}, weight{"c", 4})
	checkSwap(t, x, "b", entry("d", 1, 2), entry("b", 9, 0), api.OK)
	checkAdd(t, x, "e", 1, api.OK)
	checkTable(t, x, 3, 18, entry("a", 4, 0), entry("c", 4, 0), entry("e", 1, 3))
}

// P13.3: keys that are tracked, that were, and that never were; Base and Total stay.
func TestTake(t *testing.T) {
	x := filled(t, 3, weight{"a", 5}, weight{"b", 3}, weight{"c", 6}, weight{"d", 1})
	for _, key := range []string{"", "b", "e", "A", "a ", "aa", "a\x00", "\x00"} {
		checkAbsent(t, x, key)
		checkTable(t, x, 3, 15, entry("a", 5, 0), entry("c", 6, 0), entry("d", 1, 3))
	}
	checkTake(t, x, "c", entry("c", 6, 0), true)
	checkAbsent(t, x, "c")
	checkTable(t, x, 3, 15, entry("a", 5, 0), entry("d", 1, 3))
	checkTake(t, x, "d", entry("d", 1, 3), true)
	checkTake(t, x, "a", entry("a", 5, 0), true)
	for _, key := range []string{"", "a", "b", "c", "d"} {
		checkAbsent(t, x, key)
		checkTable(t, x, 3, 15)
	}
	// There is room for three keys again, and each of them may have had up to Base.
	checkAdd(t, x, "a", 1, api.OK)
	checkAdd(t, x, "e", 2, api.OK)
	checkAdd(t, x, "b", 1, api.OK)
	checkTable(t, x, 3, 19, entry("a", 1, 3), entry("b", 1, 3), entry("e", 2, 3))
	checkAdd(t, x, "f", 1, api.OK)
	checkTable(t, x, 4, 20, entry("b", 1, 3), entry("e", 2, 3), entry("f", 1, 4))
}

// P13.4: the errors of Swap, each alone and with those behind it, and R2: they change nothing.
func TestSwapErrors(t *testing.T) {
	x := filled(t, 3, weight{"a", 5}, weight{"b", 3}, weight{"c", 6}, weight{"d", 1})
	for _, c := range []struct {
		key  string
		e    api.Entry
		want api.Errno
	}{
		{"b", entry("x", 1, 0), api.ErrNone},
		{"b", entry("", 1, 0), api.ErrNone},
		{"b", entry("a", 1, 0), api.ErrNone},
		{"b", entry("b", 1, 0), api.ErrNone},
		{"b", entry("x", 100, 0), api.ErrNone},
		{"", entry("", math.MaxUint64, math.MaxUint64), api.ErrNone},
		{"", entry("x", 0, 0), api.ErrNone},
		{"x", entry("x", 0, 0), api.ErrNone},
		{"a", api.Entry{}, api.ErrForm},
		{"a", entry("", 1, 0), api.ErrForm},
		{"a", entry("", 6, 0), api.ErrForm},
		{"d", entry("", math.MaxUint64, 1), api.ErrForm},
		{"a", entry("a", 5, 0), api.ErrDuplicate},
		{"a", entry("c", 5, 0), api.ErrDuplicate},
		{"a", entry("c", 6, 0), api.ErrDuplicate},
		{"a", entry("a", 0, 6), api.ErrDuplicate},
		{"d", entry("a", math.MaxUint64, 1), api.ErrDuplicate},
		{"a", entry("x", 6, 0), api.ErrRange},
		{"a", entry("x", 0, 6), api.ErrRange},
		{"a", entry("b", 5, 1), api.ErrRange},
		{"a", entry("x", 3, 3), api.ErrRange},
		{"d", entry("x", 5, 0), api.ErrRange},
		{"d", entry("x", 1, 4), api.ErrRange},
		{"c", entry("x", most, most), api.ErrRange},
		{"c", entry("x", most, most+1), api.ErrRange},
		{"c", entry("x", math.MaxUint64, 0), api.ErrRange},
		{"c", entry("x", 0, math.MaxUint64), api.ErrRange},
		{"c", entry("x", math.MaxUint64, 1), api.ErrRange},
		{"c", entry("x", 2, math.MaxUint64), api.ErrRange},
		{"c", entry("x", math.MaxUint64, 7), api.ErrRange},
		{"c", entry("x", math.MaxUint64, math.MaxUint64), api.ErrRange},
	} {
		checkSwap(t, x, c.key, c.e, api.Entry{}, c.want)
		checkTable(t, x, 3, 15, entry("a", 5, 0), entry("c", 6, 0), entry("d", 1, 3))
		checkAbsent(t, x, "x")
		checkAbsent(t, x, "b")
	}
}

// P13.4: the Own of e, and its Slack, or Base less Own if that is greater, up to the count of the removed entry.
func TestSwap(t *testing.T) {
	for _, c := range []struct {
		own, slack, want uint64
	}{
		{0, 0, 4}, {0, 3, 4}, {0, 4, 4}, {0, 5, 5}, {0, 9, 9},
		{1, 0, 3}, {1, 2, 3}, {1, 3, 3}, {1, 4, 4}, {1, 8, 8},
		{3, 0, 1}, {3, 1, 1}, {3, 2, 2}, {3, 6, 6},
		{4, 0, 0}, {4, 1, 1}, {4, 5, 5},
		{5, 0, 0}, {5, 1, 1}, {5, 4, 4},
		{8, 0, 0}, {8, 1, 1}, {9, 0, 0},
	} {
		x := filled(t, 2, weight{"a", 7}, weight{"b", 4}, weight{"c", 5})
		checkSwap(t, x, "c", entry("x", c.own, c.slack), entry("c", 5, 4), api.OK)
		checkTable(t, x, 4, 16, entry("a", 7, 0), entry("x", c.own, c.want))
		checkAbsent(t, x, "c")
		// The new entry is one like others: it is increased, exchanged again, and removed.
		checkAdd(t, x, "x", 20, api.OK)
		checkTable(t, x, 4, 36, entry("a", 7, 0), entry("x", c.own+20, c.want))
		checkSwap(t, x, "x", entry("c", 5, 4), entry("x", c.own+20, c.want), api.OK)
		checkTable(t, x, 4, 36, entry("a", 7, 0), entry("c", 5, 4))
	}
}

// P13.4: the table need not be full, and a key that was exchanged may come back.
func TestSwapWithRoom(t *testing.T) {
	x := filled(t, 3, weight{"b", 5})
	checkSwap(t, x, "b", entry("a", 2, 0), entry("b", 5, 0), api.OK)
	checkTable(t, x, 0, 5, entry("a", 2, 0))
	checkAdd(t, x, "b", 1, api.OK)
	checkTable(t, x, 0, 6, entry("a", 2, 0), entry("b", 1, 0))
	checkSwap(t, x, "a", entry("c", 0, 0), entry("a", 2, 0), api.OK)
	checkTable(t, x, 0, 6, entry("b", 1, 0), entry("c", 0, 0))
	checkSwap(t, x, "c", entry("d", 1, 0), api.Entry{}, api.ErrRange)
	checkSwap(t, x, "c", entry("a", 0, 0), entry("c", 0, 0), api.OK)
	checkAdd(t, x, "d", 3, api.OK)
	checkAdd(t, x, "e", 4, api.OK)
	checkTable(t, x, 0, 13, entry("b", 1, 0), entry("d", 3, 0), entry("e", 4, 0))
	checkAbsent(t, x, "a")
}

// P13.2 to P13.5: keys may have any bytes and any length, and are compared bytewise.
func TestKeys(t *testing.T) {
	l := []string{"a", "A", "aa", "a\x00", "\x00a", "\x00", "\x00\x00", " ", "a ", "é", "e\u0301", "\xc3", "\xa9",
		"\xff", "\xfe", "\ufffd", "ab", "ba", "\x03app\x02x1\x04host\x01a"}
	for _, n := range []int{255, 256, 4096, 1 << 20} {
		l = append(l, strings.Repeat("k", n), strings.Repeat("k", n-1)+"l", "l"+strings.Repeat("k", n-1))
	}
	x := open(t, 64)
	var want []api.Entry
	var total uint64
	for i, key := range l {
		checkAbsent(t, x, key)
		checkAdd(t, x, key, uint64(i+1), api.OK)
		want = append(want, api.Entry{Key: key, Own: uint64(i + 1)})
		total += uint64(i + 1)
	}
	slices.SortFunc(want, func(a, b api.Entry) int { return strings.Compare(a.Key, b.Key) })
	checkTable(t, x, 0, total, want...)
	for _, e := range want {
		checkTake(t, x, e.Key, e, true)
		checkAbsent(t, x, e.Key)
	}
	checkTable(t, x, 0, total)
}

// P13.6: no table.
func TestNil(t *testing.T) {
	var x *saving.Table
	for _, key := range []string{"", "a", strings.Repeat("a", 256)} {
		for _, w := range []uint64{0, 1, most, most + 1, math.MaxUint64} {
			checkAdd(t, x, key, w, api.ErrNone)
			checkSwap(t, x, key, entry("b", w, w), api.Entry{}, api.ErrNone)
			checkSwap(t, x, key, entry(key, w, 0), api.Entry{}, api.ErrNone)
			checkSwap(t, x, key, entry("", 0, w), api.Entry{}, api.ErrNone)
		}
		checkAbsent(t, x, key)
	}
	checkTable(t, x, 0, 0)
	if l := x.Entries(); l != nil {
		t.Errorf("Entries() = %v", l)
	}
}

// R4: the entries returned are new, and later calls do not change them.
func TestMemoryIsNotShared(t *testing.T) {
	x := filled(t, 3, weight{"a", 5}, weight{"b", 3}, weight{"c", 6})
	first, second := x.Entries(), x.Entries()
	slices.Reverse(first)
	first[0] = entry("x", 9, 9)
	want := []api.Entry{entry("a", 5, 0), entry("b", 3, 0), entry("c", 6, 0)}
	checkTable(t, x, 0, 14, want...)
	checkAdd(t, x, "d", 1, api.OK)
	checkTake(t, x, "a", entry("a", 5, 0), true)
	checkSwap(t, x, "c", entry("e", 1, 1), entry("c", 6, 0), api.OK)
	if !slices.Equal(second, want) {
		t.Errorf("later calls changed the entries to %v", second)
	}
}

// inUse returns how many bytes of memory are reachable.
func inUse() uint64 {
	runtime.GC()
	var m runtime.MemStats
	runtime.ReadMemStats(&m)
	return m.HeapAlloc
}

// R4: the table does not keep the text that a short key is a part of, neither of Add nor of Swap.
func TestArgumentsAreNotKept(t *testing.T) {
	const long, n = 1 << 20, 64
	x := open(t, n)
	before := inUse()
	for i := range n {
		text := strings.Repeat("x", long) + name(i)
		checkAdd(t, x, text[long:], 5, api.OK)
	}
	for i := range n / 2 {
		text := strings.Repeat("x", long) + name(i+n)
		checkSwap(t, x, name(i), entry(text[long:], 5, 0), entry(name(i), 5, 0), api.OK)
	}
	if after := inUse(); after > before+n*long/4 {
		t.Errorf("%d short keys keep %d bytes", n, after-before)
	}
	checkGet(t, x, name(n), entry(name(n), 5, 0), true)
}

// The chapter's purpose: the table has a fixed size, and keeps no key that it does not track.
func TestMemoryIsBounded(t *testing.T) {
	const long, n = 1 << 16, 64
	x := open(t, n)
	before := inUse()
	for i := range 20 * n {
		checkAdd(t, x, strings.Repeat("x", long)+name(i), 1, api.OK)
	}
	for _, e := range x.Entries() {
		checkTake(t, x, e.Key, e, true)
	}
	if after := inUse(); after > before+n*long/4 {
		t.Errorf("the empty table keeps %d bytes", after-before)
	}
	checkTable(t, x, 19, 20*n)
}

// R5: two tables do not know of one another.
func TestTablesAreApart(t *testing.T) {
	x, y := filled(t, 2, weight{"a", 5}), filled(t, 2, weight{"b", 2})
	checkAbsent(t, x, "b")
	checkAbsent(t, y, "a")
	checkAdd(t, y, "a", 1, api.OK)
	checkAdd(t, y, "c", 1, api.OK)
	checkTable(t, x, 0, 5, entry("a", 5, 0))
	checkTable(t, y, 1, 4, entry("b", 2, 0), entry("c", 1, 1))
	checkTake(t, x, "a", entry("a", 5, 0), true)
	checkTable(t, y, 1, 4, entry("b", 2, 0), entry("c", 1, 1))
}

// record is what the chapter's words say of a table.
type record struct {
	most        int
	now         int
	base, total uint64
	entries     []kept
}

// kept is an entry that has had its count since a time.
type kept struct {
	api.Entry
	since int
}

func (k kept) count() uint64 {
	return k.Own + k.Slack
}

func (r *record) find(key string) int {
	return slices.IndexFunc(r.entries, func(k kept) bool { return k.Key == key })
}

func (r *record) add(key string, w uint64) api.Errno {
	switch {
	case key == "":
		return api.ErrForm
	case w == 0:
		return api.ErrRange
	case w > most || r.total > most-w:
		return api.ErrOverflow
	}
	r.total += w
	r.now++
	if i := r.find(key); i >= 0 {
		r.entries[i].Own += w
		r.entries[i].since = r.now
		return api.OK
	}
	if len(r.entries) == r.most {
		least := slices.MinFunc(r.entries, func(a, b kept) int {
			return cmp.Or(cmp.Compare(a.count(), b.count()), cmp.Compare(a.since, b.since))
		})
		r.base = least.count()
		r.take(least.Key)
	}
	r.entries = append(r.entries, kept{api.Entry{Key: key, Own: w, Slack: r.base}, r.now})
	return api.OK
}

func (r *record) get(key string) (api.Entry, bool) {
	if i := r.find(key); i >= 0 {
		return r.entries[i].Entry, true
	}
	return api.Entry{}, false
}

func (r *record) take(key string) (api.Entry, bool) {
	e, ok := r.get(key)
	if ok {
		i := r.find(key)
		r.entries = slices.Delete(r.entries, i, i+1)
	}
	return e, ok
}

func (r *record) swap(key string, e api.Entry) (api.Entry, api.Errno) {
	old, ok := r.get(key)
	if !ok {
		return api.Entry{}, api.ErrNone
	}
	if e.Key == "" {
		return api.Entry{}, api.ErrForm
	}
	if r.find(e.Key) >= 0 {
		return api.Entry{}, api.ErrDuplicate
	}
	if sum, carry := bits.Add64(e.Own, e.Slack, 0); carry > 0 || sum > old.Own+old.Slack {
		return api.Entry{}, api.ErrRange
	}
	if r.base > e.Own && r.base-e.Own > e.Slack {
		e.Slack = r.base - e.Own
	}
	r.take(key)
	r.now++
	r.entries = append(r.entries, kept{e, r.now})
	return old, api.OK
}

// sorted returns the entries in ascending order of their keys.
func (r *record) sorted() []api.Entry {
	var l []api.Entry
	for _, k := range r.entries {
		l = append(l, k.Entry)
	}
	slices.SortFunc(l, func(a, b api.Entry) int { return strings.Compare(a.Key, b.Key) })
	return l
}

// checkBase says what P13.7 does of every table for m keys.
func checkBase(t *testing.T, x *saving.Table, m int) {
	t.Helper()
	for _, e := range x.Entries() {
		if count, carry := bits.Add64(e.Own, e.Slack, 0); carry > 0 || count < x.Untracked() {
			t.Fatalf("the count of %v is less than %d", e, x.Untracked())
		}
	}
	if high, low := bits.Mul64(x.Untracked(), uint64(m)); high > 0 || low > x.Total() {
		t.Fatalf("%d times %d is more than %d", m, x.Untracked(), x.Total())
	}
}

// keyOf returns one of a few keys, several of each length; the first one is empty.
func keyOf(n byte) string {
	return strings.Repeat(string([]byte{n + 60}), int(n)%4)
}

// weigh makes a small number or, of the last ones of a byte, a greater one.
func weigh(b byte) uint64 {
	greater := []uint64{most - 900, most - 7, most, most + 1, math.MaxUint64 - 3, math.MaxUint64}
	if at := int(b) - 256 + len(greater); at >= 0 {
		return greater[at]
	}
	return uint64(b % 8)
}

// step is the numbers that choose a call.
type step struct {
	kind, key, other, own, slack byte
}

// checkStep lets a table and its record do the same, and compares all that they say then.
func checkStep(t *testing.T, x *saving.Table, r *record, s step) {
	t.Helper()
	key := keyOf(s.key)
	switch s.kind % 8 {
	case 0, 1, 2, 3, 4:
		checkAdd(t, x, key, weigh(s.own), r.add(key, weigh(s.own)))
	case 5:
		want, ok := r.take(key)
		checkTake(t, x, key, want, ok)
	default:
		e := api.Entry{Key: keyOf(s.other), Own: weigh(s.own), Slack: weigh(s.slack)}
		if old, _ := r.get(key); s.kind%8 == 7 {
			// The count of e is that of the removed entry, or nearly so.
			e.Own = min(e.Own, old.Own+old.Slack)
			e.Slack = old.Own + old.Slack - e.Own + uint64(s.slack%4) - 2
		}
		want, err := r.swap(key, e)
		checkSwap(t, x, key, e, want, err)
	}
	for _, near := range []byte{s.key, s.key + 1, s.other} {
		want, ok := r.get(keyOf(near))
		checkGet(t, x, keyOf(near), want, ok)
	}
	checkTable(t, x, r.base, r.total, r.sorted()...)
	checkBase(t, x, r.most)
}

// P13.2 to P13.5 and P13.7: long sequences of calls, against the record.
func TestByDefinition(t *testing.T) {
	random := rand.New(rand.NewSource(13))
	for _, m := range []int{1, 2, 3, 5, 16, 64} {
		for round := range 6 {
			x, r := open(t, m), &record{most: m}
			if round == 0 {
				// Total comes near to MaxTotal, and reaches it.
				checkStep(t, x, r, step{key: 1, own: 250})
			}
			for range 800 {
				s := step{byte(random.Intn(8)), byte(random.Intn(2*m + 4)), byte(random.Intn(2*m + 4)),
					byte(random.Intn(240)), byte(random.Intn(240))}
				if random.Intn(40) == 0 {
					s.own = byte(253 + random.Intn(3))
				}
				if random.Intn(40) == 0 {
					s.slack = byte(250 + random.Intn(6))
				}
				// In some rounds, few keys leave the table other than for new ones.
				if round%2 == 0 && random.Intn(4) > 0 {
					s.kind = 0
				}
				checkStep(t, x, r, s)
			}
		}
	}
}

// P13.2 to P13.5 and P13.7: sequences that the fuzzer finds.
func FuzzByDefinition(f *testing.F) {
	f.Add(byte(1), []byte{0, 1, 0, 5, 0, 0, 2, 0, 3, 0, 0, 3, 0, 1, 0, 5, 3, 0, 0, 0, 0, 5, 0, 2, 0})
	f.Add(byte(0), []byte{0, 1, 0, 250, 0, 0, 2, 0, 7, 0, 6, 2, 3, 255, 1, 7, 2, 3, 252, 2})
	f.Fuzz(func(t *testing.T, m byte, calls []byte) {
		n := int(m)%64 + 1
		x, r := open(t, n), &record{most: n}
		for i := 0; i+4 < min(len(calls), 1500); i += 5 {
			checkStep(t, x, r, step{calls[i], calls[i+1], calls[i+2], calls[i+3], calls[i+4]})
		}
	})
}

// checkWeights says what P13.7 does of a table if only Add was called.
func checkWeights(t *testing.T, x *saving.Table, weights map[string]uint64) {
	t.Helper()
	var counts uint64
	for _, e := range x.Entries() {
		counts += e.Own + e.Slack
	}
	if counts != x.Total() {
		t.Fatalf("the counts add up to %d, want %d", counts, x.Total())
	}
	for key, w := range weights {
		e, ok := x.Get(key)
		if !ok && w > x.Untracked() {
			t.Fatalf("%q weighs %d, and is not tracked; Base is %d", key, w, x.Untracked())
		}
		if ok && (w < e.Own || w > e.Own+e.Slack) {
			t.Fatalf("%q weighs %d, and has %v", key, w, e)
		}
	}
}

// P13.7: if only Add was called, the weights are within their bounds, and the counts add up to Total.
func TestWeights(t *testing.T) {
	random := rand.New(rand.NewSource(7))
	for _, m := range []int{1, 2, 3, 10, 64} {
		for round := range 4 {
			x, weights := open(t, m), map[string]uint64{}
			for i := range 1500 {
				key, w := name(random.Intn(2*m+1)), uint64(random.Intn(5)+1)
				switch round {
				case 1: // each key in its turn, which is as bad as it gets
					key, w = name(i%(m+1)), 1
				case 2: // a few heavy keys among many light ones
					if random.Intn(3) > 0 {
						key = name(random.Intn(m) / 2)
					} else {
						key = name(i)
					}
				case 3: // great weights
					w = random.Uint64() >> (1 + random.Intn(40))
				}
				if x.Add(key, w) == api.OK {
					weights[key] += w
				}
				checkWeights(t, x, weights)
				checkBase(t, x, m)
			}
		}
	}
}
