package table_test

import (
	"fmt"
	"math"
	"math/rand"
	"slices"
	"strconv"
	"strings"
	"testing"

	"heavykeys/api"
	"heavykeys/frequent"
	"heavykeys/saving"
	"heavykeys/table"
)

// most is the greatest weight of a table.
const most uint64 = 1 << 63

// modes returns the two modes.
func modes() []int {
	return []int{api.Saving, api.Frequent}
}

// others returns numbers that are no mode.
func others() []int {
	return []int{0, 3, 4, -1, -2, 257, math.MinInt, math.MaxInt, 1 << 32, 1<<32 + 1}
}

// method is what the tables of chapters 13 and 14 do.
type method interface {
	Add(key string, w uint64) api.Errno
	Get(key string) (api.Entry, bool)
	Take(key string) (api.Entry, bool)
	Swap(key string, e api.Entry) (api.Entry, api.Errno)
	Untracked() uint64
	Total() uint64
	Len() int
	Entries() []api.Entry
}

func entry(key string, own, slack uint64) api.Entry {
	return api.Entry{Key: key, Own: own, Slack: slack}
}

// name returns the key with a number.
func name(i int) string {
	return "k" + strconv.Itoa(1000+i)
}

// open returns an empty table for m keys.
func open(t *testing.T, mode, m int) *table.Table {
	t.Helper()
	x, e := table.New(mode, m)
	if x == nil || e != api.OK {
		t.Fatalf("New(%d, %d) = %v, %d", mode, m, x, e)
	}
	return x
}

// weight is what is added to a key.
type weight struct {
	key string
	w   uint64
}

// filled returns a table for m keys to which these weights were added.
func filled(t *testing.T, mode, m int, l ...weight) *table.Table {
	t.Helper()
	x := open(t, mode, m)
	for _, c := range l {
		checkAdd(t, x, c.key, c.w, api.OK)
	}
	return x
}

// brief writes an entry, or some of them, of which the keys may be long.
func brief(v any) string {
	return fmt.Sprintf("%.200q", fmt.Sprint(v))
}

func checkAdd(t *testing.T, x *table.Table, key string, w uint64, want api.Errno) {
	t.Helper()
	if e := x.Add(key, w); e != want {
		t.Fatalf("Add(%.20q, %d) = %d, want %d", key, w, e, want)
	}
}

func checkGet(t *testing.T, x *table.Table, key string, want api.Entry, tracked bool) {
	t.Helper()
	if e, ok := x.Get(key); e != want || ok != tracked {
		t.Fatalf("Get(%.20q) = %s, %t, want %s, %t", key, brief(e), ok, brief(want), tracked)
	}
}

func checkTake(t *testing.T, x *table.Table, key string, want api.Entry, tracked bool) {
	t.Helper()
	if e, ok := x.Take(key); e != want || ok != tracked {
		t.Fatalf("Take(%.20q) = %s, %t, want %s, %t", key, brief(e), ok, brief(want), tracked)
	}
}

func checkSwap(t *testing.T, x *table.Table, key string, e, want api.Entry, err api.Errno) {
	t.Helper()
	if old, got := x.Swap(key, e); old != want || got != err {
		t.Fatalf("Swap(%.20q, %s) = %s, %d, want %s, %d", key, brief(e), brief(old), got, brief(want), err)
	}
}

func checkBounds(t *testing.T, x *table.Table, key string, lo, hi uint64, tracked bool) {
	t.Helper()
	want := api.Bounds{Lo: lo, Hi: hi}
	if b, ok := x.Bounds(key); b != want || ok != tracked {
		t.Fatalf("Bounds(%.20q) = %v, %t, want %v, %t", key, b, ok, want, tracked)
	}
}

// checkTable compares all that a table says of itself. The entries are those that it must have, in ascending order.
func checkTable(t *testing.T, x *table.Table, untracked, total uint64, want ...api.Entry) {
	t.Helper()
	if got := x.Entries(); !slices.Equal(got, want) {
		t.Fatalf("Entries() has %d, %s, want %d, %s", len(got), brief(got), len(want), brief(want))
	}
	got := []uint64{x.Untracked(), x.Total(), uint64(x.Len())}
	if want := []uint64{untracked, total, uint64(len(want))}; !slices.Equal(got, want) {
		t.Fatalf("Untracked(), Total() and Len() are %d, want %d", got, want)
	}
	for _, e := range want {
		checkGet(t, x, e.Key, e, true)
		checkBounds(t, x, e.Key, e.Own, e.Own+e.Slack, true)
	}
}

// P15.1: the errors of New, each alone and with the one behind it, and no table then.
func TestNewErrors(t *testing.T) {
	sizes := []int{0, -1, -64, math.MinInt, 65, 66, 8192, math.MaxInt}
	for _, mode := range others() {
		for _, m := range append([]int{1, 2, 63, 64}, sizes...) {
			if x, e := table.New(mode, m); x != nil || e != api.ErrConfig {
				t.Errorf("New(%d, %d) = %v, %d", mode, m, x, e)
			}
		}
	}
	for _, mode := range modes() {
		for _, m := range sizes {
			if x, e := table.New(mode, m); x != nil || e != api.ErrRange {
				t.Errorf("New(%d, %d) = %v, %d", mode, m, x, e)
			}
		}
	}
}

// P15.1: every size that a table may have. There is room for as many keys and no more, as the method treats them.
func TestNew(t *testing.T) {
	for _, mode := range modes() {
		for m := 1; m <= 64; m++ {
			x := open(t, mode, m)
			checkTable(t, x, 0, 0)
			var want []api.Entry
			for i := range m {
				checkAdd(t, x, name(i), 2, api.OK)
				want = append(want, entry(name(i), 2, 0))
				checkTable(t, x, 0, uint64(2*i+2), want...)
			}
			checkAdd(t, x, name(m), 1, api.OK)
			if mode == api.Saving {
				checkTable(t, x, 2, uint64(2*m+1), append(want[1:], entry(name(m), 1, 2))...)
				continue
			}
			for i := range want {
				want[i] = entry(name(i), 1, 1)
			}
			checkTable(t, x, 1, uint64(2*m+1), want...)
		}
	}
}

// P15.1: the examples of chapters 13 and 14.
func TestExamples(t *testing.T) {
	x := filled(t, api.Saving, 2, weight{"a", 5}, weight{"b", 3}, weight{"c", 1})
	checkTable(t, x, 3, 9, entry("a", 5, 0), entry("c", 1, 3))
	checkTake(t, x, "c", entry("c", 1, 3), true)
	checkTable(t, x, 3, 9, entry("a", 5, 0))
	checkAdd(t, x, "d", 2, api.OK)
	checkTable(t, x, 3, 11, entry("a", 5, 0), entry("d", 2, 3))

	x = filled(t, api.Frequent, 2, weight{"a", 5}, weight{"b", 3}, weight{"c", 1})
	checkTable(t, x, 1, 9, entry("a", 4, 1), entry("b", 2, 1))
	checkAdd(t, x, "c", 6, api.OK)
	checkTable(t, x, 3, 15, entry("a", 2, 3), entry("c", 4, 3))
	checkTake(t, x, "b", api.Entry{}, false)
}

// P15.1: an exchange is allowed, and done, as the mode's method does it.
func TestSwap(t *testing.T) {
	x := filled(t, api.Saving, 2, weight{"a", 7}, weight{"b", 4}, weight{"c", 5})
	checkSwap(t, x, "c", entry("x", 9, 1), api.Entry{}, api.ErrRange)
	checkSwap(t, x, "c", entry("x", 0, 9), entry("c", 5, 4), api.OK)
	checkTable(t, x, 4, 16, entry("a", 7, 0), entry("x", 0, 9))
	checkSwap(t, x, "x", entry("y", 3, 0), entry("x", 0, 9), api.OK)
	checkTable(t, x, 4, 16, entry("a", 7, 0), entry("y", 3, 1))

	x = filled(t, api.Frequent, 2, weight{"a", 7}, weight{"b", 4}, weight{"c", 3})
	checkSwap(t, x, "a", entry("x", 0, 3), api.Entry{}, api.ErrRange)
	checkSwap(t, x, "a", entry("x", 1, 4), api.Entry{}, api.ErrRange)
	checkSwap(t, x, "a", entry("x", 4, 1), entry("a", 4, 3), api.OK)
	checkTable(t, x, 3, 14, entry("b", 1, 3), entry("x", 4, 3))
	checkSwap(t, x, "x", entry("y", 5, 0), api.Entry{}, api.ErrRange)
}

// P15.1: the errors of Add and of Swap that both methods have, in their order. R2: they change nothing.
func TestErrors(t *testing.T) {
	for _, mode := range modes() {
		x := filled(t, mode, 2, weight{"a", 5}, weight{"b", 3})
		for _, c := range []struct {
			key  string
			w    uint64
			want api.Errno
		}{
			{"", 0, api.ErrForm},
			{"", 1, api.ErrForm},
			{"", math.MaxUint64, api.ErrForm},
			{"a", 0, api.ErrRange},
			{"c", 0, api.ErrRange},
			{"a", most - 7, api.ErrOverflow},
			{"c", most, api.ErrOverflow},
			{"b", math.MaxUint64 - 7, api.ErrOverflow},
			{"c", math.MaxUint64, api.ErrOverflow},
		} {
			checkAdd(t, x, c.key, c.w, c.want)
			checkTable(t, x, 0, 8, entry("a", 5, 0), entry("b", 3, 0))
		}
		for _, c := range []struct {
			key  string
			e    api.Entry
			want api.Errno
		}{
			{"c", api.Entry{}, api.ErrNone},
			{"", entry("x", 1, 0), api.ErrNone},
			{"c", entry("a", 9, 9), api.ErrNone},
			{"a", entry("", 9, 9), api.ErrForm},
			{"a", entry("a", 9, 9), api.ErrDuplicate},
			{"a", entry("b", 1, 0), api.ErrDuplicate},
			{"a", entry("x", 6, 0), api.ErrRange},
			{"a", entry("x", math.MaxUint64, 1), api.ErrRange},
			{"b", entry("x", 1, math.MaxUint64), api.ErrRange},
		} {
			checkSwap(t, x, c.key, c.e, api.Entry{}, c.want)
			checkTable(t, x, 0, 8, entry("a", 5, 0), entry("b", 3, 0))
		}
	}
}

// P15.2: keys that are tracked, that were, and that never were. Bounds changes nothing.
func TestBounds(t *testing.T) {
	for _, mode := range modes() {
		x := open(t, mode, 2)
		checkBounds(t, x, "", 0, 0, false)
		checkBounds(t, x, "a", 0, 0, false)
		checkAdd(t, x, "a", 5, api.OK)
		checkBounds(t, x, "a", 5, 5, true)
		checkBounds(t, x, "b", 0, 0, false)
	}

	x := filled(t, api.Saving, 2, weight{"a", 5}, weight{"b", 3}, weight{"c", 1})
	for range 2 {
		checkBounds(t, x, "a", 5, 5, true)
		checkBounds(t, x, "c", 1, 4, true)
		for _, key := range []string{"", "b", "d", "A", "a\x00", "aa", strings.Repeat("a", 256)} {
			checkBounds(t, x, key, 0, 3, false)
		}
		checkTable(t, x, 3, 9, entry("a", 5, 0), entry("c", 1, 3))
	}
	checkTake(t, x, "a", entry("a", 5, 0), true)
	checkBounds(t, x, "a", 0, 3, false)
	checkSwap(t, x, "c", entry("x", 1, 0), entry("c", 1, 3), api.OK)
	checkBounds(t, x, "c", 0, 3, false)
	checkBounds(t, x, "x", 1, 3, true)

	x = filled(t, api.Frequent, 2, weight{"a", 5}, weight{"b", 3}, weight{"c", 1})
	for range 2 {
		checkBounds(t, x, "a", 4, 5, true)
		checkBounds(t, x, "b", 2, 3, true)
		for _, key := range []string{"", "c", "d", "A", "a\x00", "aa", strings.Repeat("a", 256)} {
			checkBounds(t, x, key, 0, 1, false)
		}
		checkTable(t, x, 1, 9, entry("a", 4, 1), entry("b", 2, 1))
	}
	checkTake(t, x, "a", entry("a", 4, 1), true)
	checkBounds(t, x, "a", 0, 1, false)
	checkSwap(t, x, "b", entry("x", 1, 0), entry("b", 2, 1), api.OK)
	checkBounds(t, x, "b", 0, 1, false)
	checkBounds(t, x, "x", 1, 2, true)
}

// P15.2: the greatest weights, whose Own and Slack together are MaxTotal, or nearly so.
func TestGreatestBounds(t *testing.T) {
	for _, mode := range modes() {
		x := filled(t, mode, 1, weight{"a", most})
		checkBounds(t, x, "a", most, most, true)
		checkBounds(t, x, "b", 0, 0, false)
	}
	x := filled(t, api.Saving, 1, weight{"a", most - 1}, weight{"b", 1})
	checkBounds(t, x, "a", 0, most-1, false)
	checkBounds(t, x, "b", 1, most, true)
	x = filled(t, api.Frequent, 1, weight{"a", most - 1}, weight{"b", 1})
	checkBounds(t, x, "a", most-2, most-1, true)
	checkBounds(t, x, "b", 0, 1, false)
	x = filled(t, api.Frequent, 1, weight{"a", most/2 - 1}, weight{"b", most/2 + 1})
	checkBounds(t, x, "a", 0, most/2-1, false)
	checkBounds(t, x, "b", 2, most/2+1, true)
}

func checkLimit(t *testing.T, mode, m int, total, want uint64) {
	t.Helper()
	if got := table.Limit(mode, m, total); got != want {
		t.Fatalf("Limit(%d, %d, %d) = %d, want %d", mode, m, total, got, want)
	}
}

// totals returns small numbers, and some around m, around m + 1, and around those of which a sum might wrap around.
func totals(m int) []uint64 {
	n := uint64(m)
	l := []uint64{0, 1, 2, 3, 7, 10, 12, n - 1, n, n + 1, n + 2, 2*n - 1, 2 * n, 2*n + 1, 2*n + 2, 100 * n, 100*n + 100}
	for _, great := range []uint64{1 << 32, 1 << 62, most, math.MaxUint64} {
		l = append(l, great-n-1, great-n, great-2, great-1, great)
	}
	return append(l, most+1)
}

// P15.3: the chapter's examples, and all sizes, also for weights that no table can have.
func TestLimit(t *testing.T) {
	checkLimit(t, api.Saving, 4, 10, 2)
	checkLimit(t, api.Frequent, 4, 10, 2)
	checkLimit(t, api.Saving, 4, 12, 3)
	checkLimit(t, api.Frequent, 4, 12, 2)
	for m := 1; m <= 64; m++ {
		for _, total := range totals(m) {
			checkLimit(t, api.Saving, m, total, total/uint64(m))
			checkLimit(t, api.Frequent, m, total, total/uint64(m+1))
		}
	}
}

// P15.3: neither mode, and sizes that no table has.
func TestLimitWithoutTable(t *testing.T) {
	for _, total := range totals(8) {
		for _, mode := range append(others(), modes()...) {
			for _, m := range []int{0, -1, -2, -64, math.MinInt, 65, 66, 8192, math.MaxInt} {
				checkLimit(t, mode, m, total, total)
			}
		}
		for _, mode := range others() {
			for m := 1; m <= 64; m++ {
				checkLimit(t, mode, m, total, total)
			}
		}
	}
}

// P15.3: what Limit says is reached. With Saving it is not where m divides the total, as it always does if m is 1:
// Untracked becomes q only by a weight behind m times q.
func TestLimitIsReached(t *testing.T) {
	for _, m := range []int{2, 3, 10, 63, 64} {
		for _, q := range []uint64{1, 2, 9, (most - 64) / 65} {
			x, y := open(t, api.Saving, m), open(t, api.Frequent, m)
			for i := range m {
				checkAdd(t, x, name(i), q, api.OK)
				checkAdd(t, y, name(i), q, api.OK)
			}
			checkAdd(t, x, name(m), 1, api.OK)
			checkAdd(t, y, name(m), q, api.OK)
			checkLimit(t, api.Saving, m, x.Total(), x.Untracked())
			checkLimit(t, api.Frequent, m, y.Total(), y.Untracked())
			if x.Untracked() != q || y.Untracked() != q {
				t.Fatalf("%d keys of %d leave %d and %d", m, q, x.Untracked(), y.Untracked())
			}
		}
	}
}

// P15.4: no table.
func TestNil(t *testing.T) {
	var x *table.Table
	for _, key := range []string{"", "a", strings.Repeat("a", 256)} {
		for _, w := range []uint64{0, 1, most, most + 1, math.MaxUint64} {
			checkAdd(t, x, key, w, api.ErrNone)
			checkSwap(t, x, key, entry("b", w, w), api.Entry{}, api.ErrNone)
			checkSwap(t, x, key, entry(key, w, 0), api.Entry{}, api.ErrNone)
			checkSwap(t, x, key, entry("", 0, w), api.Entry{}, api.ErrNone)
		}
		checkGet(t, x, key, api.Entry{}, false)
		checkTake(t, x, key, api.Entry{}, false)
		checkBounds(t, x, key, 0, 0, false)
	}
	checkTable(t, x, 0, 0)
	if l := x.Entries(); l != nil {
		t.Errorf("Entries() = %v", l)
	}
}

// R4: the entries returned are new, and later calls do not change them. R5: two tables do not know of one another.
func TestTablesAreApart(t *testing.T) {
	for _, mode := range modes() {
		x, y := filled(t, mode, 3, weight{"a", 5}, weight{"b", 3}), filled(t, mode, 3, weight{"b", 2})
		first, second := x.Entries(), x.Entries()
		slices.Reverse(first)
		first[0] = entry("x", 9, 9)
		want := []api.Entry{entry("a", 5, 0), entry("b", 3, 0)}
		checkTable(t, x, 0, 8, want...)
		checkAdd(t, y, "a", 1, api.OK)
		checkTake(t, y, "b", entry("b", 2, 0), true)
		checkTable(t, x, 0, 8, want...)
		checkAdd(t, x, "b", 1, api.OK)
		checkSwap(t, x, "a", entry("c", 1, 0), entry("a", 5, 0), api.OK)
		checkTable(t, y, 0, 3, entry("a", 1, 0))
		if !slices.Equal(second, want) {
			t.Errorf("later calls changed the entries to %v", second)
		}
	}
}

// itself returns the table of chapter 13 or 14 that a table behaves as.
func itself(mode, m int) method {
	if mode == api.Saving {
		x, _ := saving.New(m)
		return x
	}
	x, _ := frequent.New(m)
	return x
}

// keyOf returns one of a few keys, several of each length; the first one is empty.
func keyOf(n byte) string {
	return strings.Repeat(string([]byte{n + 60}), int(n)%4)
}

// weigh makes a small number or, of the last ones of a byte, a greater one.
func weigh(b byte) uint64 {
	greater := []uint64{most - 900, most - 7, most, most + 1, math.MaxUint64 - 3, math.MaxUint64}
	if at := int(b) - 256 + len(greater); at >= 0 {
		return greater[at]
	}
	return uint64(b % 8)
}

// step is the numbers that choose a call.
type step struct {
	kind, key, other, own, slack byte
}

// steps reads as many steps as the bytes have, up to a bound.
func steps(calls []byte) []step {
	var l []step
	for i := 0; i+4 < min(len(calls), 1500); i += 5 {
		l = append(l, step{calls[i], calls[i+1], calls[i+2], calls[i+3], calls[i+4]})
	}
	return l
}

// anySteps returns steps with up to 2 m + 4 keys. Few of the weights are great, as no other one fits behind those.
func anySteps(random *rand.Rand, m, n int) []step {
	keys := 2*m + 4
	l := make([]step, n)
	for i := range l {
		l[i] = step{byte(random.Intn(8)), byte(random.Intn(keys)), byte(random.Intn(keys)),
			byte(random.Intn(240)), byte(random.Intn(240))}
		if random.Intn(100) == 0 {
			l[i].own = byte(253 + random.Intn(3))
		}
	}
	return l
}

// checkSame lets a table and that of its method do the same, and compares all that they say then.
func checkSame(t *testing.T, x *table.Table, y method, s step) {
	t.Helper()
	key, own, slack := keyOf(s.key), weigh(s.own), weigh(s.slack)
	switch s.kind % 8 {
	case 0, 1, 2, 3, 4:
		checkAdd(t, x, key, own, y.Add(key, own))
	case 5:
		want, ok := y.Take(key)
		checkTake(t, x, key, want, ok)
	default:
		want, err := y.Swap(key, entry(keyOf(s.other), own, slack))
		checkSwap(t, x, key, entry(keyOf(s.other), own, slack), want, err)
	}
	for _, near := range []byte{s.key, s.key + 1, s.other} {
		want, ok := y.Get(keyOf(near))
		checkGet(t, x, keyOf(near), want, ok)
		if ok {
			checkBounds(t, x, keyOf(near), want.Own, want.Own+want.Slack, true)
		} else {
			checkBounds(t, x, keyOf(near), 0, y.Untracked(), false)
		}
	}
	checkTable(t, x, y.Untracked(), y.Total(), y.Entries()...)
}

// P15.1 and P15.2: long sequences of calls, against the tables of chapters 13 and 14.
func TestSameAsMethod(t *testing.T) {
	random := rand.New(rand.NewSource(15))
	for _, mode := range modes() {
		for _, m := range []int{1, 2, 3, 5, 16, 64} {
			for round := range 4 {
				x, y := open(t, mode, m), itself(mode, m)
				if round == 0 {
					// Total comes near to MaxTotal, and reaches it.
					checkSame(t, x, y, step{key: 1, own: 250})
				}
				for _, s := range anySteps(random, m, 600) {
					// In some rounds, few keys leave the table other than for new ones.
					if round%2 == 0 && random.Intn(4) > 0 {
						s.kind = 0
					}
					checkSame(t, x, y, s)
				}
			}
		}
	}
}

// P15.1 and P15.2: sequences that the fuzzer finds.
func FuzzSameAsMethod(f *testing.F) {
	f.Add(byte(1), []byte{0, 1, 0, 5, 0, 0, 2, 0, 3, 0, 0, 3, 0, 1, 0, 5, 3, 0, 0, 0, 0, 5, 0, 2, 0})
	f.Add(byte(0), []byte{0, 1, 0, 250, 0, 0, 2, 0, 7, 0, 6, 2, 3, 255, 1, 7, 2, 3, 252, 2})
	f.Fuzz(func(t *testing.T, m byte, calls []byte) {
		for _, mode := range modes() {
			n := int(m)%64 + 1
			x, y := open(t, mode, n), itself(mode, n)
			for _, s := range steps(calls) {
				checkSame(t, x, y, s)
			}
		}
	})
}

// apply lets a table do a step. Keys are exchanged only for entries whose Slack is at most Untracked.
func apply(x *table.Table, s step) {
	key := keyOf(s.key)
	switch s.kind % 8 {
	case 5:
		x.Take(key)
	case 6, 7:
		old, _ := x.Get(key)
		e := entry(keyOf(s.other), weigh(s.own), weigh(s.slack))
		if s.kind%8 == 7 {
			// The method allows so much at most, or nearly so.
			e = entry(e.Key, old.Own, old.Slack)
		}
		e.Slack = min(e.Slack, x.Untracked())
		x.Swap(key, e)
	default:
		x.Add(key, weigh(s.own))
	}
}

// checkApart says what P15.5 does of a table for m keys.
func checkApart(t *testing.T, x *table.Table, mode, m int) {
	t.Helper()
	limit := table.Limit(mode, m, x.Total())
	if got := x.Untracked(); got > limit {
		t.Fatalf("Untracked() = %d, and the limit is %d", got, limit)
	}
	keys := []string{"", "not tracked"}
	for _, e := range x.Entries() {
		keys = append(keys, e.Key)
	}
	for _, key := range keys {
		if b, _ := x.Bounds(key); b.Hi < b.Lo || b.Hi-b.Lo > limit {
			t.Fatalf("Bounds(%q) = %v, and the limit is %d", key, b, limit)
		}
	}
}

// P15.5: long sequences of calls in which keys are added, taken and exchanged.
func TestApart(t *testing.T) {
	random := rand.New(rand.NewSource(5))
	for _, mode := range modes() {
		for _, m := range []int{1, 2, 3, 5, 16, 64} {
			for round := range 6 {
				x := open(t, mode, m)
				for _, s := range anySteps(random, m, 800) {
					if round%2 == 0 && random.Intn(3) > 0 {
						s.kind = 0
					}
					apply(x, s)
					checkApart(t, x, mode, m)
				}
			}
		}
	}
}

// P15.5: each key in its turn, which is as bad as it gets, and keys that are exchanged with as much Slack as they may have.
func TestApartInTurn(t *testing.T) {
	for _, mode := range modes() {
		for _, m := range []int{1, 2, 3, 10, 64} {
			x := open(t, mode, m)
			for i := range 20 * (m + 1) {
				checkAdd(t, x, name(i%(m+1)), 2, api.OK)
				checkApart(t, x, mode, m)
			}
			for i, e := range x.Entries() {
				e.Own, e.Slack = max(e.Own, 2)-1, min(e.Slack, x.Untracked())
				x.Swap(e.Key, entry(name(100+i), e.Own, e.Slack))
				checkApart(t, x, mode, m)
				x.Add(e.Key, 1)
				checkApart(t, x, mode, m)
			}
		}
	}
}

// P15.5: sequences that the fuzzer finds.
func FuzzApart(f *testing.F) {
	f.Add(byte(1), []byte{0, 1, 0, 5, 0, 0, 2, 0, 3, 0, 0, 3, 0, 1, 0, 7, 3, 1, 0, 0, 0, 5, 0, 2, 0})
	f.Add(byte(0), []byte{0, 1, 0, 250, 0, 0, 2, 0, 7, 0, 6, 2, 3, 2, 1, 7, 2, 3, 5, 2, 5, 3, 0, 0, 0})
	f.Fuzz(func(t *testing.T, m byte, calls []byte) {
		for _, mode := range modes() {
			n := int(m)%64 + 1
			x := open(t, mode, n)
			for _, s := range steps(calls) {
				apply(x, s)
				checkApart(t, x, mode, n)
			}
		}
	})
}
