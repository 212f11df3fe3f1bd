package frequent_test

import (
	"fmt"
	"maps"
	"math"
	"math/bits"
	"math/rand"
	"runtime"
	"slices"
	"strconv"
	"strings"
	"testing"

	"heavykeys/api"
	"heavykeys/frequent"
)

// most is the greatest weight of a table.
const most uint64 = 1 << 63

func entry(key string, own, slack uint64) api.Entry {
	return api.Entry{Key: key, Own: own, Slack: slack}
}

// open returns an empty table for m keys.
func open(t *testing.T, m int) *frequent.Table {
	t.Helper()
	x, e := frequent.New(m)
	if x == nil || e != api.OK {
		t.Fatalf("New(%d) = %v, %d", m, x, e)
	}
	return x
}

// own is what a key has, or what is added to it.
type own struct {
	key string
	w   uint64
}

// filled returns a table for m keys to which these weights were added.
func filled(t *testing.T, m int, l ...own) *frequent.Table {
	t.Helper()
	x := open(t, m)
	for _, c := range l {
		checkAdd(t, x, c.key, c.w, api.OK)
	}
	return x
}

// brief writes an entry, or some of them, of which the keys may be long.
func brief(v any) string {
	return fmt.Sprintf("%.200q", fmt.Sprint(v))
}

func checkAdd(t *testing.T, x *frequent.Table, key string, w uint64, want api.Errno) {
	t.Helper()
	if e := x.Add(key, w); e != want {
		t.Fatalf("Add(%.20q, %d) = %d, want %d", key, w, e, want)
	}
}

func checkGet(t *testing.T, x *frequent.Table, key string, want api.Entry, tracked bool) {
	t.Helper()
	if e, ok := x.Get(key); e != want || ok != tracked {
		t.Fatalf("Get(%.20q) = %s, %t, want %s, %t", key, brief(e), ok, brief(want), tracked)
	}
}

func checkTake(t *testing.T, x *frequent.Table, key string, want api.Entry, tracked bool) {
	t.Helper()
	if e, ok := x.Take(key); e != want || ok != tracked {
		t.Fatalf("Take(%.20q) = %s, %t, want %s, %t", key, brief(e), ok, brief(want), tracked)
	}
}

func checkSwap(t *testing.T, x *frequent.Table, key string, e, want api.Entry, err api.Errno) {
	t.Helper()
	if old, got := x.Swap(key, e); old != want || got != err {
		t.Fatalf("Swap(%.20q, %s) = %s, %d, want %s, %d", key, brief(e), brief(old), got, brief(want), err)
	}
}

// checkTable compares all that a table says of itself with Deducted, Total, and the Own of each key in ascending order.
func checkTable(t *testing.T, x *frequent.Table, deducted, total uint64, owns ...own) {
	t.Helper()
	var want []api.Entry
	for _, c := range owns {
		want = append(want, entry(c.key, c.w, deducted))
		checkGet(t, x, c.key, entry(c.key, c.w, deducted), true)
	}
	if got := x.Entries(); !slices.Equal(got, want) {
		t.Fatalf("Entries() has %d, %s, want %d, %s", len(got), brief(got), len(want), brief(want))
	}
	got := []uint64{x.Untracked(), x.Total(), uint64(x.Len())}
	if want := []uint64{deducted, total, uint64(len(owns))}; !slices.Equal(got, want) {
		t.Fatalf("Untracked(), Total() and Len() are %d, want %d", got, want)
	}
}

// checkAbsent says that a key is not tracked.
func checkAbsent(t *testing.T, x *frequent.Table, key string) {
	t.Helper()
	checkGet(t, x, key, api.Entry{}, false)
	checkTake(t, x, key, api.Entry{}, false)
	for _, e := range []api.Entry{{}, entry("new", 1, 0), entry("new", 0, 1), entry(key, 1, 0), entry("new", 1, math.MaxUint64)} {
		checkSwap(t, x, key, e, api.Entry{}, api.ErrNone)
	}
}

// name returns the key with a number.
func name(i int) string {
	return "k" + strconv.Itoa(1000+i)
}

// P14.1: the numbers of keys that a table may have, and those that it may not. It has room for as many, and no more.
func TestNew(t *testing.T) {
	for _, m := range []int{0, -1, -2, -64, math.MinInt, 65, 66, 128, 8192, math.MaxInt} {
		if x, e := frequent.New(m); x != nil || e != api.ErrRange {
			t.Errorf("New(%d) = %v, %d", m, x, e)
		}
	}
	for m := 1; m <= 64; m++ {
		x := open(t, m)
		checkTable(t, x, 0, 0)
		checkAbsent(t, x, "")
		checkAbsent(t, x, name(0))
		var full, less []own
		for i := range m {
			checkAdd(t, x, name(i), 2, api.OK)
			full = append(full, own{name(i), 2})
			less = append(less, own{name(i), 1})
			checkTable(t, x, 0, uint64(2*i+2), full...)
		}
		total := uint64(2*m + 1)
		checkAdd(t, x, name(m), 1, api.OK)
		checkTable(t, x, 1, total, less...)
		checkAbsent(t, x, name(m))
		checkAdd(t, x, name(m), 1, api.OK)
		checkTable(t, x, 2, total+1)
	}
}

// P14.2 to P14.5: the chapter's example.
func TestExample(t *testing.T) {
	x := filled(t, 2, own{"a", 5}, own{"b", 3}, own{"c", 1})
	checkTable(t, x, 1, 9, own{"a", 4}, own{"b", 2})
	checkAbsent(t, x, "c")
	checkAdd(t, x, "c", 6, api.OK)
	checkTable(t, x, 3, 15, own{"a", 2}, own{"c", 4})
	checkAbsent(t, x, "b")
}

// P14.2: the errors of Add, each alone and with those behind it, for tracked keys, others, and a full table. R2: they change nothing.
func TestAddErrors(t *testing.T) {
	for _, m := range []int{2, 3} {
		x := filled(t, m, own{"a", 5}, own{"b", 3})
		for _, c := range []struct {
			key  string
			w    uint64
			want api.Errno
		}{
			{"", 0, api.ErrForm},
			{"", 1, api.ErrForm},
			{"", most, api.ErrForm},
			{"", math.MaxUint64, api.ErrForm},
			{"a", 0, api.ErrRange},
			{"c", 0, api.ErrRange},
			{"a", most - 7, api.ErrOverflow},
			{"c", most - 7, api.ErrOverflow},
			{"b", most, api.ErrOverflow},
			{"c", most + 1, api.ErrOverflow},
			{"a", math.MaxUint64 - 8, api.ErrOverflow},
			{"c", math.MaxUint64 - 7, api.ErrOverflow},
			{"a", math.MaxUint64 - 4, api.ErrOverflow},
			{"b", math.MaxUint64, api.ErrOverflow},
			{"c", math.MaxUint64, api.ErrOverflow},
		} {
			checkAdd(t, x, c.key, c.w, c.want)
			checkTable(t, x, 0, 8, own{"a", 5}, own{"b", 3})
			checkAbsent(t, x, "c")
		}
	}
}

// checkNoRoom says that nothing can be added any more, and that the errors that come first still do.
func checkNoRoom(t *testing.T, x *frequent.Table) {
	t.Helper()
	for _, key := range []string{"a", "b", "c"} {
		checkAdd(t, x, key, 0, api.ErrRange)
		for _, w := range []uint64{1, most, most + 1, math.MaxUint64} {
			checkAdd(t, x, key, w, api.ErrOverflow)
		}
	}
	checkAdd(t, x, "", 0, api.ErrForm)
	checkAdd(t, x, "", 1, api.ErrForm)
}

// P14.2: Total may be MaxTotal, and it stays so when weight is deducted, and when keys are taken or exchanged.
func TestGreatestTotal(t *testing.T) {
	for _, c := range []struct {
		m        int
		adds     []own
		deducted uint64
		owns     []own
	}{
		{1, []own{{"a", most}}, 0, []own{{"a", most}}},
		{1, []own{{"a", 1}, {"a", most - 1}}, 0, []own{{"a", most}}},
		{1, []own{{"a", most - 1}, {"b", 1}}, 1, []own{{"a", most - 2}}},
		{1, []own{{"b", 1}, {"a", most - 1}}, 1, []own{{"a", most - 2}}},
		{1, []own{{"a", most / 2}, {"b", most / 2}}, most / 2, nil},
		{1, []own{{"a", most/2 - 1}, {"b", most/2 + 1}}, most/2 - 1, []own{{"b", 2}}},
		{2, []own{{"a", most / 2}, {"b", most / 2}}, 0, []own{{"a", most / 2}, {"b", most / 2}}},
		{2, []own{{"a", most / 2}, {"b", most / 4}, {"c", most / 4}}, most / 4, []own{{"a", most / 4}}},
	} {
		x := filled(t, c.m, c.adds...)
		checkNoRoom(t, x)
		checkTable(t, x, c.deducted, most, c.owns...)
		for i, o := range c.owns {
			if i == 0 {
				checkSwap(t, x, o.key, entry("x", o.w, c.deducted), entry(o.key, o.w, c.deducted), api.OK)
				o.key = "x"
			}
			checkNoRoom(t, x)
			checkTake(t, x, o.key, entry(o.key, o.w, c.deducted), true)
			checkNoRoom(t, x)
		}
		checkTable(t, x, c.deducted, most)
	}
}

// P14.2: the Own of a tracked key alone is increased, whether the table is full or not.
func TestAddToTracked(t *testing.T) {
	x := filled(t, 2, own{"a", 5}, own{"a", 1})
	checkTable(t, x, 0, 6, own{"a", 6})
	checkAdd(t, x, "b", 3, api.OK)
	checkAdd(t, x, "b", 4, api.OK)
	checkTable(t, x, 0, 13, own{"a", 6}, own{"b", 7})
	checkAdd(t, x, "c", 2, api.OK)
	checkAdd(t, x, "a", 10, api.OK)
	checkTable(t, x, 2, 25, own{"a", 14}, own{"b", 5})
	checkAdd(t, x, "b", 1, api.OK)
	checkTable(t, x, 2, 26, own{"a", 14}, own{"b", 6})
}

// P14.2: what is deducted is the weight or the least Own, whichever is less; what has nothing left goes away,
// and what is left of the weight is the Own of the new key.
func TestDeduct(t *testing.T) {
	for _, c := range []struct {
		before   []own
		w        uint64
		deducted uint64
		after    []own
	}{
		{[]own{{"a", 4}, {"b", 6}, {"c", 9}}, 1, 1, []own{{"a", 3}, {"b", 5}, {"c", 8}}},
		{[]own{{"a", 4}, {"b", 6}, {"c", 9}}, 3, 3, []own{{"a", 1}, {"b", 3}, {"c", 6}}},
		{[]own{{"a", 4}, {"b", 6}, {"c", 9}}, 4, 4, []own{{"b", 2}, {"c", 5}}},
		{[]own{{"a", 4}, {"b", 6}, {"c", 9}}, 5, 4, []own{{"b", 2}, {"c", 5}, {"x", 1}}},
		{[]own{{"a", 4}, {"b", 6}, {"c", 9}}, 6, 4, []own{{"b", 2}, {"c", 5}, {"x", 2}}},
		{[]own{{"a", 4}, {"b", 6}, {"c", 9}}, 100, 4, []own{{"b", 2}, {"c", 5}, {"x", 96}}},
		{[]own{{"a", 9}, {"b", 6}, {"c", 4}}, 5, 4, []own{{"a", 5}, {"b", 2}, {"x", 1}}},
		{[]own{{"a", 6}, {"b", 4}, {"c", 9}}, 5, 4, []own{{"a", 2}, {"c", 5}, {"x", 1}}},
		{[]own{{"a", 4}, {"b", 4}, {"c", 9}}, 3, 3, []own{{"a", 1}, {"b", 1}, {"c", 6}}},
		{[]own{{"a", 4}, {"b", 4}, {"c", 9}}, 4, 4, []own{{"c", 5}}},
		{[]own{{"a", 4}, {"b", 9}, {"c", 4}}, 7, 4, []own{{"b", 5}, {"x", 3}}},
		{[]own{{"a", 4}, {"b", 4}, {"c", 4}}, 3, 3, []own{{"a", 1}, {"b", 1}, {"c", 1}}},
		{[]own{{"a", 4}, {"b", 4}, {"c", 4}}, 4, 4, nil},
		{[]own{{"a", 4}, {"b", 4}, {"c", 4}}, 5, 4, []own{{"x", 1}}},
		{[]own{{"a", 1}, {"b", 1}, {"c", 1}}, 1, 1, nil},
		{[]own{{"a", 1}, {"b", 1}, {"c", 1}}, most - 3, 1, []own{{"x", most - 4}}},
		{[]own{{"a", most - 19}, {"b", 8}, {"c", 1}}, 10, 1, []own{{"a", most - 20}, {"b", 7}, {"x", 9}}},
	} {
		x := filled(t, 3, c.before...)
		checkAdd(t, x, "x", c.w, api.OK)
		total := c.w
		for _, o := range c.before {
			total += o.w
		}
		checkTable(t, x, c.deducted, total, c.after...)
		for _, key := range []string{"a", "b", "c", "x"} {
			if !slices.ContainsFunc(c.after, func(o own) bool { return o.key == key }) {
				checkAbsent(t, x, key)
			}
		}
	}
}

// P14.2: Deducted is never less than before, and a key that comes back has only its new weight as Own.
func TestKeysComeBack(t *testing.T) {
	x := filled(t, 2, own{"a", 5}, own{"b", 3}, own{"c", 4})
	checkTable(t, x, 3, 12, own{"a", 2}, own{"c", 1})
	checkAdd(t, x, "b", 7, api.OK)
	checkTable(t, x, 4, 19, own{"a", 1}, own{"b", 6})
	checkAdd(t, x, "c", 1, api.OK)
	checkTable(t, x, 5, 20, own{"b", 5})
	// There is room, so that nothing is deducted.
	checkAdd(t, x, "a", 2, api.OK)
	checkTable(t, x, 5, 22, own{"a", 2}, own{"b", 5})
	checkAdd(t, x, "c", 1, api.OK)
	checkTable(t, x, 6, 23, own{"a", 1}, own{"b", 4})
}

// P14.3: keys that are tracked, that were, and that never were; Deducted and Total stay.
func TestTake(t *testing.T) {
	x := filled(t, 3, own{"a", 5}, own{"b", 1}, own{"c", 6}, own{"d", 3})
	for _, key := range []string{"", "b", "e", "A", "a ", "aa", "a\x00", "\x00"} {
		checkAbsent(t, x, key)
		checkTable(t, x, 1, 15, own{"a", 4}, own{"c", 5}, own{"d", 2})
	}
	checkTake(t, x, "c", entry("c", 5, 1), true)
	checkAbsent(t, x, "c")
	checkTable(t, x, 1, 15, own{"a", 4}, own{"d", 2})
	checkTake(t, x, "d", entry("d", 2, 1), true)
	checkTake(t, x, "a", entry("a", 4, 1), true)
	for _, key := range []string{"", "a", "b", "c", "d"} {
		checkAbsent(t, x, key)
		checkTable(t, x, 1, 15)
	}
	// There is room for three keys again, and nothing is deducted before they are there.
	checkAdd(t, x, "a", 1, api.OK)
	checkAdd(t, x, "e", 3, api.OK)
	checkAdd(t, x, "c", 2, api.OK)
	checkTable(t, x, 1, 21, own{"a", 1}, own{"c", 2}, own{"e", 3})
	checkAdd(t, x, "f", 1, api.OK)
	checkTable(t, x, 2, 22, own{"c", 1}, own{"e", 2})
}

// P14.4: the errors of Swap, each alone and with those behind it, and R2: they change nothing.
func TestSwapErrors(t *testing.T) {
	x := filled(t, 3, own{"a", 6}, own{"b", 2}, own{"c", 9}, own{"d", 3})
	for _, c := range []struct {
		key  string
		e    api.Entry
		want api.Errno
	}{
		{"b", entry("x", 1, 0), api.ErrNone},
		{"b", entry("", 1, 0), api.ErrNone},
		{"b", entry("a", 1, 0), api.ErrNone},
		{"b", entry("b", 1, 0), api.ErrNone},
		{"b", entry("x", 0, 0), api.ErrNone},
		{"b", entry("x", 100, 3), api.ErrNone},
		{"", entry("", 0, math.MaxUint64), api.ErrNone},
		{"", entry("x", 1, 0), api.ErrNone},
		{"x", entry("x", 1, 0), api.ErrNone},
		{"a", api.Entry{}, api.ErrForm},
		{"a", entry("", 1, 0), api.ErrForm},
		{"a", entry("", 5, 0), api.ErrForm},
		{"a", entry("", 1, 3), api.ErrForm},
		{"d", entry("", math.MaxUint64, math.MaxUint64), api.ErrForm},
		{"a", entry("a", 4, 2), api.ErrDuplicate},
		{"a", entry("c", 4, 0), api.ErrDuplicate},
		{"a", entry("c", 0, 0), api.ErrDuplicate},
		{"a", entry("a", 5, 0), api.ErrDuplicate},
		{"a", entry("d", 1, 3), api.ErrDuplicate},
		{"d", entry("d", math.MaxUint64, math.MaxUint64), api.ErrDuplicate},
		{"a", entry("x", 0, 0), api.ErrRange},
		{"a", entry("x", 0, 2), api.ErrRange},
		{"a", entry("x", 0, 3), api.ErrRange},
		{"a", entry("x", 5, 0), api.ErrRange},
		{"a", entry("b", 5, 2), api.ErrRange},
		{"a", entry("x", 6, 0), api.ErrRange},
		{"d", entry("x", 2, 0), api.ErrRange},
		{"d", entry("x", 7, 0), api.ErrRange},
		{"a", entry("x", 4, 3), api.ErrRange},
		{"a", entry("x", 1, 3), api.ErrRange},
		{"c", entry("x", 1, 4), api.ErrRange},
		{"c", entry("x", 5, 3), api.ErrRange},
		{"c", entry("x", most, 0), api.ErrRange},
		{"c", entry("x", 1, most), api.ErrRange},
		{"c", entry("x", math.MaxUint64, 0), api.ErrRange},
		{"c", entry("x", 1, math.MaxUint64), api.ErrRange},
		{"c", entry("x", math.MaxUint64, 2), api.ErrRange},
		{"c", entry("x", math.MaxUint64, math.MaxUint64), api.ErrRange},
	} {
		checkSwap(t, x, c.key, c.e, api.Entry{}, c.want)
		checkTable(t, x, 2, 20, own{"a", 4}, own{"c", 7}, own{"d", 1})
		checkAbsent(t, x, "x")
		checkAbsent(t, x, "b")
	}
}

// P14.4: the new key has the Own of e, from 1 to that of the removed one, and Deducted as its Slack, whatever that of e is.
func TestSwap(t *testing.T) {
	for w := uint64(1); w <= 6; w++ {
		for slack := range uint64(4) {
			x := filled(t, 2, own{"a", 8}, own{"c", 9}, own{"b", 3})
			checkSwap(t, x, "c", entry("x", w, slack), entry("c", 6, 3), api.OK)
			checkTable(t, x, 3, 20, own{"a", 5}, own{"x", w})
			checkAbsent(t, x, "c")
			// The new key is one like others: it is increased, deducted from, and exchanged again.
			checkAdd(t, x, "x", 5, api.OK)
			checkAdd(t, x, "c", 1, api.OK)
			checkTable(t, x, 4, 26, own{"a", 4}, own{"x", w + 4})
			checkSwap(t, x, "x", entry("c", w+4, 4), entry("x", w+4, 4), api.OK)
			checkTable(t, x, 4, 26, own{"a", 4}, own{"c", w + 4})
		}
	}
}

// P14.4: a key of less Own than all others is the one that goes first.
func TestLeastAfterSwap(t *testing.T) {
	x := filled(t, 2, own{"a", 5}, own{"b", 3})
	checkSwap(t, x, "a", entry("x", 1, 0), entry("a", 5, 0), api.OK)
	checkTable(t, x, 0, 8, own{"b", 3}, own{"x", 1})
	checkAdd(t, x, "c", 9, api.OK)
	checkTable(t, x, 1, 17, own{"b", 2}, own{"c", 8})
	checkAbsent(t, x, "x")
}

// P14.4: the table need not be full, and a key that was exchanged may come back.
func TestSwapWithRoom(t *testing.T) {
	x := filled(t, 3, own{"b", 5})
	checkSwap(t, x, "b", entry("a", 2, 0), entry("b", 5, 0), api.OK)
	checkTable(t, x, 0, 5, own{"a", 2})
	checkSwap(t, x, "a", entry("c", 2, 1), api.Entry{}, api.ErrRange)
	checkAdd(t, x, "b", 1, api.OK)
	checkTable(t, x, 0, 6, own{"a", 2}, own{"b", 1})
	checkSwap(t, x, "a", entry("c", 1, 0), entry("a", 2, 0), api.OK)
	checkSwap(t, x, "b", entry("a", 1, 0), entry("b", 1, 0), api.OK)
	checkTable(t, x, 0, 6, own{"a", 1}, own{"c", 1})
	checkAdd(t, x, "d", 3, api.OK)
	checkTable(t, x, 0, 9, own{"a", 1}, own{"c", 1}, own{"d", 3})
	checkAdd(t, x, "b", 4, api.OK)
	checkTable(t, x, 1, 13, own{"b", 3}, own{"d", 2})
}

// P14.2 to P14.5: keys may have any bytes and any length, and are compared bytewise.
func TestKeys(t *testing.T) {
	l := []string{"a", "A", "aa", "a\x00", "\x00a", "\x00", "\x00\x00", " ", "a ", "é", "e\u0301", "\xc3", "\xa9",
		"\xff", "\xfe", "\ufffd", "ab", "ba", "\x03app\x02x1\x04host\x01a"}
	for _, n := range []int{255, 256, 4096, 1 << 20} {
		l = append(l, strings.Repeat("k", n), strings.Repeat("k", n-1)+"l", "l"+strings.Repeat("k", n-1))
	}
	x := open(t, len(l))
	var total uint64
	for i, key := range l {
		checkAbsent(t, x, key)
		checkAdd(t, x, key, uint64(i+2), api.OK)
		total += uint64(i + 2)
	}
	checkAdd(t, x, strings.Repeat("m", 1<<20), 1, api.OK)
	var want []own
	for i, key := range l {
		want = append(want, own{key, uint64(i + 1)})
	}
	slices.SortFunc(want, func(a, b own) int { return strings.Compare(a.key, b.key) })
	checkTable(t, x, 1, total+1, want...)
	for _, c := range want {
		checkTake(t, x, c.key, entry(c.key, c.w, 1), true)
		checkAbsent(t, x, c.key)
	}
	checkTable(t, x, 1, total+1)
}

// P14.6: no table.
func TestNil(t *testing.T) {
	var x *frequent.Table
	for _, key := range []string{"", "a", strings.Repeat("a", 256)} {
		for _, w := range []uint64{0, 1, most, most + 1, math.MaxUint64} {
			checkAdd(t, x, key, w, api.ErrNone)
			checkSwap(t, x, key, entry("b", w, w), api.Entry{}, api.ErrNone)
			checkSwap(t, x, key, entry(key, w, 0), api.Entry{}, api.ErrNone)
			checkSwap(t, x, key, entry("", 0, w), api.Entry{}, api.ErrNone)
		}
		checkAbsent(t, x, key)
	}
	checkTable(t, x, 0, 0)
	if l := x.Entries(); l != nil {
		t.Errorf("Entries() = %v", l)
	}
}

// R4: the entries returned are new, and later calls do not change them.
func TestMemoryIsNotShared(t *testing.T) {
	x := filled(t, 3, own{"a", 5}, own{"b", 3}, own{"c", 6})
	first, second := x.Entries(), x.Entries()
	slices.Reverse(first)
	first[0] = entry("x", 9, 9)
	checkTable(t, x, 0, 14, own{"a", 5}, own{"b", 3}, own{"c", 6})
	checkAdd(t, x, "d", 1, api.OK)
	checkTake(t, x, "a", entry("a", 4, 1), true)
	checkSwap(t, x, "c", entry("e", 1, 1), entry("c", 5, 1), api.OK)
	if want := []api.Entry{entry("a", 5, 0), entry("b", 3, 0), entry("c", 6, 0)}; !slices.Equal(second, want) {
		t.Errorf("later calls changed the entries to %v", second)
	}
}

// inUse returns how many bytes of memory are reachable.
func inUse() uint64 {
	runtime.GC()
	var m runtime.MemStats
	runtime.ReadMemStats(&m)
	return m.HeapAlloc
}

// R4: neither the table nor the entries that it returns keep the text that a short key is a part of.
func TestArgumentsAreNotKept(t *testing.T) {
	const long, n = 1 << 20, 64
	x := open(t, n)
	part := func(i int) string {
		return (strings.Repeat("x", long) + name(i))[long:]
	}
	var got []api.Entry
	before := inUse()
	for i := range n {
		checkAdd(t, x, part(i), 5, api.OK)
		e, _ := x.Get(part(i))
		got = append(got, e)
	}
	for i := range n / 2 {
		old, _ := x.Swap(part(i), entry(part(i+n), 5, 0))
		e, _ := x.Take(part(i + n/2))
		got = append(got, old, e)
	}
	if after := inUse(); after > before+n*long/4 {
		t.Errorf("%d short keys keep %d bytes", n, after-before)
	}
	if e := entry(name(0), 5, 0); got[0] != e || got[n] != e {
		t.Errorf("the entries of %v are %v and %v", e, got[0], got[n])
	}
	checkGet(t, x, name(n), entry(name(n), 5, 0), true)
}

// The chapter's purpose: the table has a fixed size, and keeps no key that it does not track.
func TestMemoryIsBounded(t *testing.T) {
	const long, n = 1 << 16, 64
	x := open(t, n)
	before := inUse()
	for i := range 20 * (n + 1) {
		checkAdd(t, x, strings.Repeat("x", long)+name(i), 1, api.OK)
	}
	if after := inUse(); after > before+n*long/4 {
		t.Errorf("the empty table keeps %d bytes", after-before)
	}
	checkTable(t, x, 20, 20*(n+1))
}

// R5: two tables do not know of one another.
func TestTablesAreApart(t *testing.T) {
	x, y := filled(t, 2, own{"a", 5}), filled(t, 2, own{"b", 2})
	checkAbsent(t, x, "b")
	checkAbsent(t, y, "a")
	checkAdd(t, y, "a", 3, api.OK)
	checkAdd(t, y, "c", 1, api.OK)
	checkTable(t, x, 0, 5, own{"a", 5})
	checkTable(t, y, 1, 6, own{"a", 2}, own{"b", 1})
	checkTake(t, x, "a", entry("a", 5, 0), true)
	checkTable(t, y, 1, 6, own{"a", 2}, own{"b", 1})
}

// record is what the chapter's words say of a table.
type record struct {
	most            int
	deducted, total uint64
	owns            map[string]uint64
}

// blank returns the record of an empty table for m keys.
func blank(m int) *record {
	return &record{most: m, owns: map[string]uint64{}}
}

func (r *record) add(key string, w uint64) api.Errno {
	switch {
	case key == "":
		return api.ErrForm
	case w == 0:
		return api.ErrRange
	case w > most || r.total > most-w:
		return api.ErrOverflow
	}
	r.total += w
	if _, ok := r.owns[key]; ok || len(r.owns) < r.most {
		r.owns[key] += w
		return api.OK
	}
	d := min(w, slices.Min(slices.Collect(maps.Values(r.owns))))
	r.deducted += d
	for other := range r.owns {
		r.owns[other] -= d
	}
	maps.DeleteFunc(r.owns, func(_ string, w uint64) bool { return w == 0 })
	if w > d {
		r.owns[key] = w - d
	}
	return api.OK
}

func (r *record) get(key string) (api.Entry, bool) {
	w, ok := r.owns[key]
	if !ok {
		return api.Entry{}, false
	}
	return entry(key, w, r.deducted), true
}

func (r *record) take(key string) (api.Entry, bool) {
	e, ok := r.get(key)
	delete(r.owns, key)
	return e, ok
}

func (r *record) swap(key string, e api.Entry) (api.Entry, api.Errno) {
	old, ok := r.get(key)
	if !ok {
		return api.Entry{}, api.ErrNone
	}
	if e.Key == "" {
		return api.Entry{}, api.ErrForm
	}
	if _, ok := r.owns[e.Key]; ok {
		return api.Entry{}, api.ErrDuplicate
	}
	if e.Own == 0 || e.Own > old.Own || e.Slack > r.deducted {
		return api.Entry{}, api.ErrRange
	}
	delete(r.owns, key)
	r.owns[e.Key] = e.Own
	return old, api.OK
}

// sorted returns the Own of each key, in ascending order of the keys.
func (r *record) sorted() []own {
	var l []own
	for _, key := range slices.Sorted(maps.Keys(r.owns)) {
		l = append(l, own{key, r.owns[key]})
	}
	return l
}

// spent returns the Own of all keys and m + 1 times Deducted together.
func spent(t *testing.T, x *frequent.Table, m int) uint64 {
	t.Helper()
	carry, sum := bits.Mul64(x.Untracked(), uint64(m+1))
	for _, e := range x.Entries() {
		var c uint64
		sum, c = bits.Add64(sum, e.Own, 0)
		carry += c
	}
	if carry > 0 {
		t.Fatalf("the Own of %s and %d times %d exceed 64 bits", brief(x.Entries()), m+1, x.Untracked())
	}
	return sum
}

// checkSpent says what P14.7 does of every table for m keys.
func checkSpent(t *testing.T, x *frequent.Table, m int) {
	t.Helper()
	if sum := spent(t, x, m); sum > x.Total() {
		t.Fatalf("the Own of all keys and %d times %d are %d, want at most %d", m+1, x.Untracked(), sum, x.Total())
	}
	for _, e := range x.Entries() {
		if e.Own == 0 {
			t.Fatalf("%q has Own 0", e.Key)
		}
	}
}

// keyOf returns one of a few keys, several of each length; the first one is empty.
func keyOf(n byte) string {
	return strings.Repeat(string([]byte{n + 60}), int(n)%4)
}

// weigh makes a small number or, of the last ones of a byte, a greater one.
func weigh(b byte) uint64 {
	greater := []uint64{most - 900, most - 7, most, most + 1, math.MaxUint64 - 3, math.MaxUint64}
	if at := int(b) - 256 + len(greater); at >= 0 {
		return greater[at]
	}
	return uint64(b % 8)
}

// step is the numbers that choose a call.
type step struct {
	kind, key, other, own, slack byte
}

// checkStep lets a table and its record do the same, and compares all that they say then.
func checkStep(t *testing.T, x *frequent.Table, r *record, s step) {
	t.Helper()
	key := keyOf(s.key)
	switch s.kind % 8 {
	case 0, 1, 2, 3, 4:
		checkAdd(t, x, key, weigh(s.own), r.add(key, weigh(s.own)))
	case 5:
		want, ok := r.take(key)
		checkTake(t, x, key, want, ok)
	default:
		e := entry(keyOf(s.other), weigh(s.own), weigh(s.slack))
		if old, _ := r.get(key); s.kind%8 == 7 {
			// The numbers of e are those of the removed entry, or nearly so.
			e.Own = old.Own + uint64(s.own%4) - 2
			e.Slack = old.Slack + uint64(s.slack%4) - 2
		}
		want, err := r.swap(key, e)
		checkSwap(t, x, key, e, want, err)
	}
	for _, near := range []byte{s.key, s.key + 1, s.other} {
		want, ok := r.get(keyOf(near))
		checkGet(t, x, keyOf(near), want, ok)
	}
	checkTable(t, x, r.deducted, r.total, r.sorted()...)
	checkSpent(t, x, r.most)
}

// P14.2 to P14.5 and P14.7: long sequences of calls, against the record.
func TestByDefinition(t *testing.T) {
	random := rand.New(rand.NewSource(14))
	for _, m := range []int{1, 2, 3, 5, 16, 64} {
		for round := range 6 {
			x, r := open(t, m), blank(m)
			if round == 0 {
				// Total comes near to MaxTotal, and reaches it.
				checkStep(t, x, r, step{key: 1, own: 250})
			}
			for range 800 {
				s := step{byte(random.Intn(8)), byte(random.Intn(2*m + 4)), byte(random.Intn(2*m + 4)),
					byte(random.Intn(240)), byte(random.Intn(240))}
				if random.Intn(40) == 0 {
					s.own = byte(253 + random.Intn(3))
				}
				if random.Intn(40) == 0 {
					s.slack = byte(250 + random.Intn(6))
				}
				// In some rounds, few keys leave the table other than for new ones.
				if round%2 == 0 && random.Intn(4) > 0 {
					s.kind = 0
				}
				checkStep(t, x, r, s)
			}
		}
	}
}

// P14.2 to P14.5 and P14.7: sequences that the fuzzer finds.
func FuzzByDefinition(f *testing.F) {
	f.Add(byte(1), []byte{0, 1, 0, 5, 0, 0, 2, 0, 3, 0, 0, 3, 0, 1, 0, 0, 3, 0, 6, 0, 5, 3, 0, 0, 0, 0, 5, 0, 2, 0})
	f.Add(byte(0), []byte{0, 1, 0, 250, 0, 0, 2, 0, 7, 0, 6, 1, 3, 255, 1, 7, 1, 3, 2, 2})
	f.Fuzz(func(t *testing.T, m byte, calls []byte) {
		n := int(m)%64 + 1
		x, r := open(t, n), blank(n)
		for i := 0; i+4 < min(len(calls), 1500); i += 5 {
			checkStep(t, x, r, step{calls[i], calls[i+1], calls[i+2], calls[i+3], calls[i+4]})
		}
	})
}

// checkWeights says what P14.7 does of a table for m keys if only Add was called.
func checkWeights(t *testing.T, x *frequent.Table, m int, weights map[string]uint64) {
	t.Helper()
	if sum := spent(t, x, m); sum != x.Total() {
		t.Fatalf("the Own of all keys and %d times %d are %d, want %d", m+1, x.Untracked(), sum, x.Total())
	}
	for key, w := range weights {
		e, ok := x.Get(key)
		if !ok && w > x.Untracked() {
			t.Fatalf("%q weighs %d, and is not tracked; Deducted is %d", key, w, x.Untracked())
		}
		if ok && (w < e.Own || w > e.Own+e.Slack) {
			t.Fatalf("%q weighs %d, and has %v", key, w, e)
		}
	}
}

// P14.7: if only Add was called, the weights are within their bounds, and all of Total is in the Own of a key or deducted.
func TestWeights(t *testing.T) {
	random := rand.New(rand.NewSource(7))
	for _, m := range []int{1, 2, 3, 10, 64} {
		for round := range 4 {
			x, weights := open(t, m), map[string]uint64{}
			for i := range 1500 {
				key, w := name(random.Intn(2*m+1)), uint64(random.Intn(5)+1)
				switch round {
				case 1: // each key in its turn, which is as bad as it gets
					key, w = name(i%(m+1)), 1
				case 2: // a few heavy keys among many light ones
					if random.Intn(3) > 0 {
						key = name(random.Intn(m) / 2)
					} else {
						key = name(i)
					}
				case 3: // great weights
					w = random.Uint64() >> (1 + random.Intn(40))
				}
				if x.Add(key, w) == api.OK {
					weights[key] += w
				}
				checkWeights(t, x, m, weights)
			}
		}
	}
}
