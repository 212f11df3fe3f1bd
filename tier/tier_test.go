package tier_test

import (
	"cmp"
	"fmt"
	"maps"
	"math"
	"math/rand"
	"reflect"
	"runtime"
	"slices"
	"strconv"
	"strings"
	"testing"

	"heavykeys/api"
	"heavykeys/arena"
	"heavykeys/countmin"
	"heavykeys/pool"
	"heavykeys/table"
	"heavykeys/tier"
)

// most is the greatest weight of a tier.
const most uint64 = 1 << 63

// modes returns the two modes.
func modes() []int {
	return []int{api.Saving, api.Frequent}
}

func entry(key string, own, slack uint64) api.Entry {
	return api.Entry{Key: key, Own: own, Slack: slack}
}

func entries(l ...api.Entry) []api.Entry {
	return l
}

// weight is what is added to a key.
type weight struct {
	key string
	w   uint64
}

// name returns the key with a number.
func name(i int) string {
	return "k" + strconv.Itoa(1000+i)
}

// words returns the words of a hash function that distributes keys.
func words() []uint64 {
	l := make([]uint64, api.TableSize)
	for i := range l {
		l[i] = uint64(i*i+3) * 0x123456789abcdef
	}
	return l
}

// config returns a configuration with a mode, a number of places in the table and in the store, and a weight for promotion.
// All keys share the counter of its sketch, so that no bounds are capped before the total is.
func config(mode, slots, exact int, promote uint64) api.Config {
	return api.Config{Mode: mode, Slots: slots, Exact: exact, Promote: promote, Depth: 1, Width: 1, Table: words(), Seed: 5}
}

// classes returns a class for the slots of rows and entries, and two greater ones for keys of up to MaxKey bytes.
func classes() []api.Class {
	return []api.Class{{Size: 40, Count: 200}, {Size: 255, Count: 200}, {Size: 2048, Count: 50}}
}

// side is a tier with its arena and its pool, and the record of what they must say.
type side struct {
	a *arena.Arena
	p *pool.Pool
	x *tier.Tier
	r *record
}

func newArena(t *testing.T, l []api.Class) *arena.Arena {
	t.Helper()
	a, e := arena.New(l)
	if e != api.OK {
		t.Fatalf("arena.New(%v) = %d", l, e)
	}
	return a
}

func newPool(t *testing.T, a *arena.Arena, n int) *pool.Pool {
	t.Helper()
	p, e := pool.New(a, n)
	if e != api.OK {
		t.Fatalf("pool.New(%d) = %d", n, e)
	}
	return p
}

func newTier(t *testing.T, a *arena.Arena, p *pool.Pool, c api.Config) *tier.Tier {
	t.Helper()
	x, e := tier.New(a, p, c)
	if x == nil || e != api.OK {
		t.Fatalf("New(%+v) = %v, %d", c, x, e)
	}
	return x
}

// open returns an empty tier in an arena of its own with these classes.
func open(t *testing.T, c api.Config, l []api.Class) *side {
	t.Helper()
	a := newArena(t, l)
	p := newPool(t, a, 200)
	return &side{a: a, p: p, x: newTier(t, a, p, c), r: newRecord(c, l)}
}

func checkAdd(t *testing.T, x *tier.Tier, key string, w uint64, want api.Errno) {
	t.Helper()
	if e := x.Add(key, w); e != want {
		t.Fatalf("Add(%.20q, %d) = %d, want %d", key, w, e, want)
	}
}

func checkBounds(t *testing.T, x *tier.Tier, key string, lo, hi uint64, tracked bool) {
	t.Helper()
	want := api.Bounds{Lo: lo, Hi: hi}
	if b, ok := x.Bounds(key); b != want || ok != tracked {
		t.Fatalf("Bounds(%.20q) = %v, %t, want %v, %t", key, b, ok, want, tracked)
	}
}

func checkLedger(t *testing.T, x *tier.Tier, total, own, overflow uint64) {
	t.Helper()
	if a, b, c := x.Ledger(); a != total || b != own || c != overflow {
		t.Fatalf("Ledger() = %d, %d, %d, want %d, %d, %d", a, b, c, total, own, overflow)
	}
}

// checkEntries compares the entries of the table, those of the store, and Untracked. Both lists are in ascending order.
func checkEntries(t *testing.T, x *tier.Tier, inTable, inStore []api.Entry, untracked uint64) {
	t.Helper()
	all := slices.Concat(inTable, inStore)
	slices.SortFunc(all, func(a, b api.Entry) int { return strings.Compare(a.Key, b.Key) })
	s := x.Summary()
	if !slices.Equal(s.Entries, all) || s.Untracked != untracked {
		t.Fatalf("Summary() has %.300q and %d, want %.300q and %d", fmt.Sprint(s.Entries), s.Untracked, fmt.Sprint(all), untracked)
	}
	if l := x.Exact(); !slices.Equal(l, inStore) {
		t.Fatalf("Exact() = %.300q, want %.300q", fmt.Sprint(l), fmt.Sprint(inStore))
	}
}

// checkLive compares how many slots of each class are in use. No handle was ever used that was out of date.
func checkLive(t *testing.T, a *arena.Arena, want ...int) {
	t.Helper()
	if u := a.Usage(); !slices.Equal(u.Live, want) || u.Faults != 0 {
		t.Fatalf("Usage() = %v, want %v", u, want)
	}
}

// checkUsers compares how many users keys have. The pool has no other keys.
func checkUsers(t *testing.T, p *pool.Pool, want map[string]int) {
	t.Helper()
	for key, n := range want {
		if _, users := p.Find(key); users != n {
			t.Fatalf("%.20q has %d users, want %d", key, users, n)
		}
	}
	if p.Len() != len(want) {
		t.Fatalf("the pool has %d keys, want %d", p.Len(), len(want))
	}
}

// P19.3 and P19.5: the chapter's example, with what is taken of the arena.
func TestExample(t *testing.T) {
	s := open(t, config(api.Saving, 1, 1, 5), []api.Class{{Size: 8, Count: 9}, {Size: 32, Count: 9}})
	checkEntries(t, s.x, nil, nil, 0)
	checkLedger(t, s.x, 0, 0, 0)
	checkLive(t, s.a, 1, 0)

	checkAdd(t, s.x, "a", 1, api.OK)
	checkEntries(t, s.x, entries(entry("a", 1, 0)), nil, 0)
	checkAdd(t, s.x, "c", 1, api.OK)
	checkEntries(t, s.x, entries(entry("c", 1, 1)), nil, 1)
	checkUsers(t, s.p, map[string]int{"c": 1})
	checkLive(t, s.a, 2, 1)

	checkAdd(t, s.x, "c", 4, api.OK)
	checkEntries(t, s.x, nil, entries(entry("c", 5, 1)), 1)
	checkUsers(t, s.p, map[string]int{"c": 1})
	checkLive(t, s.a, 2, 1)

	checkAdd(t, s.x, "b", 7, api.OK)
	checkEntries(t, s.x, entries(entry("c", 5, 1)), entries(entry("b", 7, 1)), 1)
	checkLedger(t, s.x, 13, 12, 1)
	checkUsers(t, s.p, map[string]int{"b": 1, "c": 1})
	checkLive(t, s.a, 3, 2)
	checkBounds(t, s.x, "a", 0, 1, false)
	checkBounds(t, s.x, "b", 7, 8, true)
	checkBounds(t, s.x, "c", 5, 6, true)
}

// flaw is something wrong with what New is given, and the error for it.
type flaw struct {
	what string
	put  func(g *given)
	want api.Errno
}

// given is what New is given.
type given struct {
	a *arena.Arena
	p *pool.Pool
	c api.Config
}

// flaws returns flaws in the order of the errors of P19.1.
func flaws() []flaw {
	l := []flaw{
		{"no arena", func(g *given) { g.a = nil }, api.ErrNone},
		{"no pool", func(g *given) { g.p = nil }, api.ErrNone},
	}
	number := func(what string, field func(c *api.Config) *int, want api.Errno, values ...int) {
		for _, n := range values {
			l = append(l, flaw{fmt.Sprint(what, " ", n), func(g *given) { *field(&g.c) = n }, want})
		}
	}
	number("mode", func(c *api.Config) *int { return &c.Mode }, api.ErrConfig, 0, 3, -1, 257, 1<<32+1, math.MaxInt, math.MinInt)
	number("slots", func(c *api.Config) *int { return &c.Slots }, api.ErrRange, 0, 65, -1, math.MaxInt, math.MinInt)
	number("exact", func(c *api.Config) *int { return &c.Exact }, api.ErrRange, -1, 33, math.MaxInt, math.MinInt)
	number("depth", func(c *api.Config) *int { return &c.Depth }, api.ErrRange, 0, 5, -1, math.MaxInt, math.MinInt)
	number("width", func(c *api.Config) *int { return &c.Width }, api.ErrRange, 0, 257, -1, 1<<61+1, math.MaxInt, math.MinInt)
	for _, n := range []int{0, 15, 17, 32} {
		l = append(l, flaw{fmt.Sprint("words ", n), func(g *given) { g.c.Table = make([]uint64, n) }, api.ErrConfig})
	}
	number("great width", func(c *api.Config) *int { return &c.Width }, api.ErrRange, 9, 256)
	number("rows", func(c *api.Config) *int { return &c.Depth }, api.ErrFull, 4)
	return l
}

// P19.1: each error alone, and with each one behind it. No slot is in use then that was not before, and nobody else's is free.
func TestNewErrors(t *testing.T) {
	l := flaws()
	for i, first := range l {
		for _, second := range l[i:] {
			a := newArena(t, []api.Class{{Size: 16, Count: 2}, {Size: 64, Count: 5}})
			other, _ := a.Alloc(20)
			small, _ := a.Alloc(3)
			p := newPool(t, a, 3)
			p.Intern("somebody else's key")
			g := given{a: a, p: p, c: config(api.Saving, 2, 2, 5)}
			g.c.Depth, g.c.Width = 3, 8
			second.put(&g)
			first.put(&g)
			x, e := tier.New(g.a, g.p, g.c)
			if x != nil || e != first.want {
				t.Errorf("%s and %s: %v, %d, want %d", first.what, second.what, x, e, first.want)
			}
			checkLive(t, a, 1, 2)
			checkUsers(t, p, map[string]int{"somebody else's key": 1})
			if a.Write(other, []byte("here")) != api.OK || a.Write(small, []byte("me")) != api.OK {
				t.Errorf("%s and %s: slots of others are gone", first.what, second.what)
			}
			g = given{a: a, p: p, c: config(api.Saving, 2, 2, 5)}
			g.c.Depth, g.c.Width = 3, 8
			newTier(t, g.a, g.p, g.c)
			checkLive(t, a, 1, 5)
		}
	}
}

// P19.1: neither an arena nor a pool, and nothing else that is right.
func TestNewNone(t *testing.T) {
	a := newArena(t, classes())
	p := newPool(t, a, 9)
	for _, g := range []given{{a: nil, p: p}, {a: a, p: nil}, {a: nil, p: nil}} {
		for _, c := range []api.Config{{}, config(api.Saving, 1, 1, 1), {Mode: 7, Slots: -1, Exact: -1}} {
			if x, e := tier.New(g.a, g.p, c); x != nil || e != api.ErrNone {
				t.Errorf("New(%v, %v, %v) = %v, %d", g.a, g.p, c, x, e)
			}
		}
	}
	checkLive(t, a, 0, 0, 0)
}

// P19.1: a slot for each row, in the class that has room for its counters; and what else of the configuration does not matter.
func TestNewTakesRows(t *testing.T) {
	l := []api.Class{{Size: 8, Count: 4}, {Size: 64, Count: 4}, {Size: 2047, Count: 4}, {Size: 2048, Count: 4}}
	for _, mode := range modes() {
		for depth := 1; depth <= 4; depth++ {
			for width, class := range map[int]int{1: 0, 2: 1, 8: 1, 9: 2, 255: 2, 256: 3} {
				c := config(mode, 64, 32, 0)
				c.Depth, c.Width = depth, width
				c.Length, c.Windows, c.Shards, c.Queue, c.Top, c.Key = -1, -1, 99, 0, -7, 0
				s := open(t, c, l)
				want := make([]int, 4)
				want[class] = depth
				checkLive(t, s.a, want...)
				if rows := s.x.Summary().Rows; len(rows) != depth || len(rows[0]) != width {
					t.Errorf("%d rows, want %d with %d counters", len(rows), depth, width)
				}
				s.check(t)
				s.x.Release()
				checkLive(t, s.a, 0, 0, 0, 0)
			}
		}
	}
}

// P19.1: New fails with any number of rows taken already, and the rows that it took can be taken again.
func TestNewWithTooFewRows(t *testing.T) {
	for count := range 4 {
		a := newArena(t, []api.Class{{Size: 64, Count: count}})
		p := newPool(t, a, 9)
		c := config(api.Frequent, 1, 0, 0)
		for c.Depth = 4; c.Depth > count; c.Depth-- {
			if x, e := tier.New(a, p, c); x != nil || e != api.ErrFull {
				t.Errorf("%d rows of %d: %v, %d", c.Depth, count, x, e)
			}
			checkLive(t, a, 0)
		}
		if count > 0 {
			newTier(t, a, p, c)
			checkLive(t, a, count)
		}
	}
}

// P19.3: the errors of Add, each alone and with those behind it, for keys in the table, in the store and in none of them.
// R2: they change nothing.
func TestAddErrors(t *testing.T) {
	long, longer := strings.Repeat("l", 256), strings.Repeat("l", 1<<20)
	for _, mode := range modes() {
		s := open(t, config(mode, 2, 1, 9), classes())
		for _, c := range []struct {
			key string
			w   uint64
		}{{"none", 0}, {"table", 5}, {"store", 9}, {"other", 2}} {
			if c.w > 0 {
				s.add(t, c.key, c.w)
			}
			total := s.r.total
			for _, w := range []uint64{0, 1, most - total, most - total + 1, most, most + 1, math.MaxUint64 - total, math.MaxUint64} {
				checkAdd(t, s.x, "", w, api.ErrForm)
				checkAdd(t, s.x, long, w, api.ErrLong)
				checkAdd(t, s.x, longer, w, api.ErrLong)
			}
			for _, key := range []string{"table", "store", "other", "new", long[:255]} {
				checkAdd(t, s.x, key, 0, api.ErrRange)
				for _, w := range []uint64{most - total + 1, most + 1, math.MaxUint64 - total, math.MaxUint64 - total/2, math.MaxUint64} {
					checkAdd(t, s.x, key, w, api.ErrOverflow)
				}
			}
			s.check(t)
		}
	}
}

// P19.3: keys of up to MaxKey bytes, whatever the configuration says, with any bytes, compared bytewise.
func TestKeys(t *testing.T) {
	l := []string{"a", "A", "aa", "a\x00", "\x00a", "\x00", "\x00\x00", " ", "a ", "é", "e\u0301", "\xc3", "\xa9", "\xff", "\ufffd",
		"\x03app\x02x1\x04host\x01a", strings.Repeat("k", 254), strings.Repeat("k", 255), "l" + strings.Repeat("k", 254)}
	for _, mode := range modes() {
		c := config(mode, 10, len(l)-10, 6)
		c.Key, c.Width = 1, 50
		s := open(t, c, classes())
		for i, key := range l {
			s.add(t, key, uint64(i%3)+5)
		}
		for _, key := range l {
			s.add(t, key, 1)
		}
		for _, key := range l {
			if _, ok := s.x.Bounds(key); !ok {
				t.Errorf("%.20q is not tracked", key)
			}
		}
		for _, key := range []string{"b", "aA", "\x01", strings.Repeat("k", 253), strings.Repeat("k", 256)} {
			if _, ok := s.x.Bounds(key); ok {
				t.Errorf("%.20q is tracked", key)
			}
		}
	}
}

// P19.3: from which weight on a key goes to the store, and that it goes there from no less.
func TestPromote(t *testing.T) {
	for _, mode := range modes() {
		for _, promote := range []uint64{0, 1, 2, 7, most} {
			s := open(t, config(mode, 2, 1, promote), classes())
			if promote > 1 {
				s.add(t, "a", promote-1)
				checkEntries(t, s.x, entries(entry("a", promote-1, 0)), nil, 0)
			}
			s.add(t, "a", 1)
			own := max(promote, 1)
			checkEntries(t, s.x, nil, entries(entry("a", own, 0)), 0)
			checkUsers(t, s.p, map[string]int{"a": 1})
			if promote < most {
				s.add(t, "a", 3)
				checkEntries(t, s.x, nil, entries(entry("a", own+3, 0)), 0)
			}
		}
		for _, promote := range []uint64{most + 1, math.MaxUint64} {
			s := open(t, config(mode, 2, 1, promote), classes())
			s.add(t, "a", most)
			checkEntries(t, s.x, entries(entry("a", most, 0)), nil, 0)
		}
	}
}

// P19.3: what counts is the Own of a key, and not its Slack; and the Own after the table has lost some of it.
func TestPromoteByOwn(t *testing.T) {
	s := open(t, config(api.Saving, 1, 1, 5), classes())
	s.add(t, "a", 4)
	s.add(t, "b", 4)
	checkEntries(t, s.x, entries(entry("b", 4, 4)), nil, 4)
	s.add(t, "b", 1)
	checkEntries(t, s.x, nil, entries(entry("b", 5, 4)), 4)

	s = open(t, config(api.Frequent, 1, 1, 5), classes())
	s.add(t, "a", 3)
	s.add(t, "b", 7)
	checkEntries(t, s.x, entries(entry("b", 4, 3)), nil, 3)
	s.add(t, "b", 1)
	checkEntries(t, s.x, nil, entries(entry("b", 5, 3)), 3)
	s.add(t, "c", 4)
	s.add(t, "d", 2)
	checkEntries(t, s.x, entries(entry("c", 2, 5)), entries(entry("b", 5, 3)), 5)
}

// P19.3: without exact counters, no key goes anywhere, whatever its weight.
func TestNoExact(t *testing.T) {
	for _, mode := range modes() {
		for _, promote := range []uint64{0, 1, 5} {
			s := open(t, config(mode, 2, 0, promote), classes())
			for i := range 30 {
				s.add(t, name(i%4), uint64(i*i%11+1))
				if l := s.x.Exact(); len(l) != 0 {
					t.Fatalf("Exact() = %v", l)
				}
			}
		}
	}
}

// P19.3: a key that goes to the store leaves its place to another one, and the store has room for so many, and no more.
func TestStoreFills(t *testing.T) {
	for _, mode := range modes() {
		for _, n := range []int{1, 2, 7, 32} {
			s := open(t, config(mode, 1, n, 5), classes())
			var want []api.Entry
			for i := range n {
				s.add(t, name(i), 5)
				want = append(want, entry(name(i), 5, 0))
				checkEntries(t, s.x, nil, want, 0)
			}
			s.add(t, name(n), 5)
			checkEntries(t, s.x, entries(entry(name(n), 5, 0)), want, 0)
			// The least one is that with the greatest key.
			s.add(t, name(n), 1)
			want[n-1] = entry(name(n), 6, 0)
			checkEntries(t, s.x, entries(entry(name(n-1), 5, 0)), want, 0)
			checkLive(t, s.a, 2*n+3, 0, 0)
		}
	}
}

// P19.3: the Own of a key must be greater than Own and Slack together of the least one in the store.
func TestDemote(t *testing.T) {
	for _, c := range []struct {
		w       uint64
		demoted bool
	}{{5, false}, {6, false}, {7, false}, {8, true}, {9, true}, {100, true}} {
		s := open(t, config(api.Saving, 1, 1, 5), classes())
		s.add(t, "a", 2)
		s.add(t, "c", 5)
		checkEntries(t, s.x, nil, entries(entry("c", 5, 2)), 2)
		s.add(t, "b", c.w)
		if c.demoted {
			checkEntries(t, s.x, entries(entry("c", 5, 2)), entries(entry("b", c.w, 2)), 2)
		} else {
			checkEntries(t, s.x, entries(entry("b", c.w, 2)), entries(entry("c", 5, 2)), 2)
		}
		checkUsers(t, s.p, map[string]int{"b": 1, "c": 1})
		checkLive(t, s.a, 5, 0, 0)
	}
	// The Own of b is 7, too, and not greater than the sum of c, though its own sum is.
	s := open(t, config(api.Frequent, 1, 1, 5), classes())
	s.add(t, "a", 2)
	s.add(t, "x", 2)
	s.add(t, "c", 5)
	checkEntries(t, s.x, nil, entries(entry("c", 5, 2)), 2)
	s.add(t, "b", 7)
	s.add(t, "y", 1)
	s.add(t, "b", 1)
	checkEntries(t, s.x, entries(entry("b", 7, 3)), entries(entry("c", 5, 2)), 3)
	s.add(t, "b", 1)
	checkEntries(t, s.x, entries(entry("c", 5, 3)), entries(entry("b", 8, 3)), 3)
	s.add(t, "c", 1)
	checkEntries(t, s.x, entries(entry("c", 6, 3)), entries(entry("b", 8, 3)), 3)
}

// P19.3: a key that is demoted may have too little Slack for the table by now.
func TestDemoteWithMoreSlack(t *testing.T) {
	s := open(t, config(api.Saving, 1, 1, 5), classes())
	s.add(t, "c", 5)
	s.add(t, "a", 4)
	s.add(t, "b", 4)
	s.add(t, "d", 4)
	checkEntries(t, s.x, entries(entry("d", 4, 8)), entries(entry("c", 5, 0)), 8)
	s.add(t, "d", 2)
	checkEntries(t, s.x, entries(entry("c", 5, 3)), entries(entry("d", 6, 8)), 8)
	checkBounds(t, s.x, "c", 5, 8, true)
	s.add(t, "c", 10)
	checkEntries(t, s.x, entries(entry("d", 6, 8)), entries(entry("c", 15, 3)), 8)
	checkLedger(t, s.x, 29, 21, 8)
}

// P19.3: the least entry of the store is that with the least sum and, among several, with the greatest key.
func TestWhichIsDemoted(t *testing.T) {
	s := open(t, config(api.Saving, 2, 3, 5), classes())
	for _, key := range []string{"b", "d", "a"} {
		s.add(t, key, 6)
	}
	s.add(t, "c", 6)
	checkEntries(t, s.x, entries(entry("c", 6, 0)), entries(entry("a", 6, 0), entry("b", 6, 0), entry("d", 6, 0)), 0)
	s.add(t, "c", 1)
	checkEntries(t, s.x, entries(entry("d", 6, 0)), entries(entry("a", 6, 0), entry("b", 6, 0), entry("c", 7, 0)), 0)
	s.add(t, "a", 5)
	s.add(t, "d", 2)
	checkEntries(t, s.x, entries(entry("b", 6, 0)), entries(entry("a", 11, 0), entry("c", 7, 0), entry("d", 8, 0)), 0)
	s.add(t, "e", 9)
	checkEntries(t, s.x, entries(entry("b", 6, 0), entry("c", 7, 0)), entries(entry("a", 11, 0), entry("d", 8, 0), entry("e", 9, 0)), 0)
}

// P19.3 and P19.5: the greatest weights there are, in the table and in the store.
func TestGreatestWeights(t *testing.T) {
	for _, mode := range modes() {
		for _, c := range []api.Config{config(mode, 1, 0, 0), config(mode, 1, 1, 1), config(mode, 2, 1, most/2)} {
			s := open(t, c, classes())
			s.add(t, "a", most)
			checkBounds(t, s.x, "a", most, most, true)
			checkLedger(t, s.x, most, most, 0)
			checkAdd(t, s.x, "a", 1, api.ErrOverflow)
			checkAdd(t, s.x, "b", 1, api.ErrOverflow)
			s.check(t)

			s = open(t, c, classes())
			for _, w := range []weight{{"a", most/2 - 1}, {"b", 1}, {"b", most/2 - 1}, {"a", 1}} {
				s.add(t, w.key, w.w)
			}
			checkAdd(t, s.x, "a", 1, api.ErrOverflow)
			checkAdd(t, s.x, "b", 1, api.ErrOverflow)
			s.check(t)
		}
	}
	// In the store, Own and Slack together reach MaxTotal.
	s := open(t, config(api.Saving, 1, 1, most/2), classes())
	s.add(t, "a", most/2-1)
	s.add(t, "b", most/2)
	checkEntries(t, s.x, nil, entries(entry("b", most/2, most/2-1)), most/2-1)
	s.add(t, "b", 1)
	checkBounds(t, s.x, "b", most/2+1, most, true)
	checkLedger(t, s.x, most, most/2+1, most/2-1)
}

// P19.2: as many slots as keys can be tracked, and a pool for as many keys, are enough for any sequence.
func TestRoomIsEnough(t *testing.T) {
	random := rand.New(rand.NewSource(192))
	for _, mode := range modes() {
		for _, c := range []api.Config{config(mode, 1, 0, 0), config(mode, 1, 1, 3), config(mode, 3, 2, 4), config(mode, 8, 8, 0), config(mode, 64, 32, 9)} {
			n := c.Slots + c.Exact
			l := []api.Class{{Size: 5, Count: n}, {Size: 8, Count: c.Depth}, {Size: 32, Count: n}}
			a := newArena(t, l)
			p := newPool(t, a, n)
			s := &side{a: a, p: p, x: newTier(t, a, p, c), r: newRecord(c, l)}
			for range 20 * n {
				s.add(t, name(random.Intn(3*n)), uint64(random.Intn(6)+1))
			}
			for i := range 3 * n {
				s.add(t, name(100+i), uint64(random.Intn(3)+1))
			}
			s.x.Release()
			checkLive(t, a, 0, 0, 0)
			checkUsers(t, p, nil)
		}
	}
}

// P19.2: one weight can make several keys go, also if its own key does not come.
func TestManyGo(t *testing.T) {
	s := open(t, config(api.Frequent, 3, 1, 9), classes())
	for _, w := range []weight{{"s", 9}, {"a", 2}, {"b", 2}, {"c", 3}} {
		s.add(t, w.key, w.w)
	}
	checkUsers(t, s.p, map[string]int{"a": 1, "b": 1, "c": 1, "s": 1})
	s.add(t, "d", 2)
	checkEntries(t, s.x, entries(entry("c", 1, 2)), entries(entry("s", 9, 0)), 2)
	checkUsers(t, s.p, map[string]int{"c": 1, "s": 1})
	checkLive(t, s.a, 5, 0, 0)
	s.add(t, "e", 1)
	s.add(t, "f", 1)
	s.add(t, "g", 10)
	checkEntries(t, s.x, entries(entry("g", 9, 3)), entries(entry("s", 9, 0)), 3)
	checkUsers(t, s.p, map[string]int{"g": 1, "s": 1})
	checkLive(t, s.a, 5, 0, 0)
}

// P19.2: a key that another user of the pool has, too, gets no second slot for its text; and it stays when the tier lets it go.
func TestOtherUsers(t *testing.T) {
	for _, mode := range modes() {
		s := open(t, config(mode, 1, 1, 5), classes())
		s.p.Intern("a")
		s.p.Intern("b")
		checkLive(t, s.a, 3, 0, 0)
		checkAdd(t, s.x, "a", 1, api.OK)
		checkUsers(t, s.p, map[string]int{"a": 2, "b": 1})
		checkLive(t, s.a, 4, 0, 0)
		checkAdd(t, s.x, "b", 4, api.OK)
		checkUsers(t, s.p, map[string]int{"a": 1, "b": 2})
		checkAdd(t, s.x, "b", 4, api.OK)
		checkAdd(t, s.x, "a", 1, api.OK)
		checkUsers(t, s.p, map[string]int{"a": 2, "b": 2})
		checkLive(t, s.a, 5, 0, 0)
		s.x.Release()
		checkUsers(t, s.p, map[string]int{"a": 1, "b": 1})
		checkLive(t, s.a, 2, 0, 0)
	}
}

// P19.2 and P19.6: tiers of one arena and one pool are users of the same keys, and do not know of one another.
func TestTiersAreApart(t *testing.T) {
	a := newArena(t, classes())
	p := newPool(t, a, 9)
	x, y := newTier(t, a, p, config(api.Saving, 1, 1, 5)), newTier(t, a, p, config(api.Frequent, 2, 0, 0))
	for _, w := range []weight{{"a", 5}, {"b", 2}} {
		checkAdd(t, x, w.key, w.w, api.OK)
		checkAdd(t, y, w.key, w.w, api.OK)
	}
	checkUsers(t, p, map[string]int{"a": 2, "b": 2})
	checkLive(t, a, 8, 0, 0)
	checkAdd(t, y, "c", 3, api.OK)
	checkUsers(t, p, map[string]int{"a": 2, "b": 1, "c": 1})
	checkEntries(t, x, entries(entry("b", 2, 0)), entries(entry("a", 5, 0)), 0)
	checkEntries(t, y, entries(entry("a", 3, 2), entry("c", 1, 2)), nil, 2)
	x.Release()
	checkUsers(t, p, map[string]int{"a": 1, "c": 1})
	checkLive(t, a, 5, 0, 0)
	checkEntries(t, y, entries(entry("a", 3, 2), entry("c", 1, 2)), nil, 2)
	checkLedger(t, y, 10, 4, 6)
	y.Release()
	checkLive(t, a, 0, 0, 0)
}

// P19.3: what Add returns for its last key without room. The slot is taken before the key is interned.
func TestNoRoom(t *testing.T) {
	long := strings.Repeat("l", 41)
	for _, c := range []struct {
		what    string
		classes []api.Class
		pool    int
		others  []string // keys that somebody else has
		keys    []string
		want    api.Errno
	}{
		{"no slot is large enough", []api.Class{{Size: 31, Count: 9}}, 9, nil, []string{"a"}, api.ErrRange},
		{"no slot is free", []api.Class{{Size: 8, Count: 9}, {Size: 32, Count: 1}}, 9, nil, []string{"a", "b"}, api.ErrFull},
		{"no slot is large enough for the key", []api.Class{{Size: 40, Count: 9}}, 9, nil, []string{"a", long}, api.ErrRange},
		{"no slot is free for the key", []api.Class{{Size: 8, Count: 2}, {Size: 40, Count: 9}}, 9, nil, []string{"a", "b"}, api.ErrFull},
		{"the pool is full", []api.Class{{Size: 40, Count: 9}}, 1, nil, []string{"a", "b"}, api.ErrFull},
		{"no slot is large enough, and the pool is full", []api.Class{{Size: 31, Count: 9}}, 1, []string{"x"}, []string{"a"}, api.ErrRange},
		{"no slot is free, or large enough for the key", []api.Class{{Size: 40, Count: 3}}, 9, nil, []string{"a", long}, api.ErrFull},
	} {
		for _, mode := range modes() {
			a := newArena(t, c.classes)
			p := newPool(t, a, c.pool)
			for _, key := range c.others {
				p.Intern(key)
			}
			x := newTier(t, a, p, config(mode, 3, 1, 9))
			last := len(c.keys) - 1
			for _, key := range c.keys[:last] {
				checkAdd(t, x, key, 1, api.OK)
			}
			if e := x.Add(c.keys[last], 1); e != c.want {
				t.Errorf("%s: %d, want %d", c.what, e, c.want)
			}
			checkFailed(t, x, c.keys)
			if users := p.Len(); users != len(c.others) {
				t.Errorf("%s: %d keys are left", c.what, users)
			}
			if live := a.Usage().Live; slices.Max(live) != len(c.others) {
				t.Errorf("%s: the slots %d are left", c.what, live)
			}
		}
	}
}

// checkFailed uses a tier of which nothing is promised, but that its methods do not panic (R1), and releases it.
func checkFailed(t *testing.T, x *tier.Tier, keys []string) {
	t.Helper()
	for range 3 {
		for i, key := range slices.Concat(keys, []string{"p", "q", "r", "s"}) {
			x.Add(key, uint64(i+3))
			x.Bounds(key)
		}
		x.Summary()
		x.Exact()
		x.Ledger()
	}
	x.Release()
	checkGone(t, x)
}

// P19.3: an event of a key that is tracked needs no room, and a new key has that of the one that goes.
func TestNoMoreRoomIsNeeded(t *testing.T) {
	for _, mode := range modes() {
		a := newArena(t, []api.Class{{Size: 8, Count: 3}, {Size: 32, Count: 2}})
		p := newPool(t, a, 2)
		x := newTier(t, a, p, config(mode, 1, 1, 5))
		checkAdd(t, x, "a", 5, api.OK)
		checkAdd(t, x, "b", 1, api.OK)
		checkLive(t, a, 3, 2)
		for i := range 20 {
			checkAdd(t, x, "a", 1, api.OK)
			checkAdd(t, x, name(i), 2, api.OK)
			checkAdd(t, x, name(i), 1, api.OK)
			checkAdd(t, x, name(i), 30, api.OK)
			checkLive(t, a, 3, 2)
		}
	}
}

// P19.4: the estimate of the sketch caps both bounds, of keys that are tracked and of others.
func TestBoundsAreCapped(t *testing.T) {
	c := config(api.Saving, 1, 1, 5)
	c.Depth, c.Width = 4, 256
	s := open(t, c, classes())
	s.add(t, "a", 4)
	s.add(t, "b", 4)
	checkEntries(t, s.x, entries(entry("b", 4, 4)), nil, 4)
	checkBounds(t, s.x, "a", 0, 4, false)
	checkBounds(t, s.x, "b", 4, 4, true)
	checkBounds(t, s.x, "c", 0, 0, false)
	s.add(t, "b", 3)
	checkEntries(t, s.x, nil, entries(entry("b", 7, 4)), 4)
	checkBounds(t, s.x, "b", 7, 7, true)
	for _, key := range []string{"", "d", strings.Repeat("d", 255), strings.Repeat("d", 256), strings.Repeat("d", 1<<16)} {
		checkBounds(t, s.x, key, 0, min(4, s.r.sketch.Estimate(key)), false)
	}
	c.Depth, c.Width = 1, 1
	s = open(t, c, classes())
	s.add(t, "a", 3)
	checkBounds(t, s.x, "a", 3, 3, true)
	checkBounds(t, s.x, "", 0, 0, false)
	s.add(t, "b", 2)
	checkBounds(t, s.x, "a", 0, 3, false)
	checkBounds(t, s.x, "b", 2, 5, true)
	checkBounds(t, s.x, "", 0, 3, false)
	checkBounds(t, s.x, strings.Repeat("d", 256), 0, 3, false)
}

// P19.5: the sketch has all weights, also those of keys in the store, in the rows that its words and its seed say.
func TestRows(t *testing.T) {
	for _, seed := range []uint64{0, 5, math.MaxUint64} {
		for _, words := range [][]uint64{make([]uint64, api.TableSize), words()} {
			c := config(api.Saving, 2, 2, 3)
			c.Depth, c.Width, c.Seed, c.Table = 3, 7, seed, words
			s := open(t, c, classes())
			sketch, _ := countmin.New(3, 7, words, seed)
			for i := range 40 {
				s.add(t, name(i%9), uint64(i%5+1))
				sketch.Add(name(i%9), uint64(i%5+1))
				if got, want := s.x.Summary().Rows, sketch.Rows(); !reflect.DeepEqual(got, want) {
					t.Fatalf("Rows are %v, want %v", got, want)
				}
			}
		}
	}
}

// checkGone says what P19.6 does of a tier that is released, or nil.
func checkGone(t *testing.T, x *tier.Tier) {
	t.Helper()
	for _, key := range []string{"", "a", "b", "c", strings.Repeat("a", 255), strings.Repeat("a", 256)} {
		for _, w := range []uint64{0, 1, most, most + 1, math.MaxUint64} {
			checkAdd(t, x, key, w, api.ErrNone)
		}
		checkBounds(t, x, key, 0, 0, false)
	}
	if s := x.Summary(); !reflect.DeepEqual(s, api.Summary{}) {
		t.Fatalf("Summary() = %v", s)
	}
	if l := x.Exact(); l != nil {
		t.Fatalf("Exact() = %v", l)
	}
	checkLedger(t, x, 0, 0, 0)
}

// P19.6: a tier is released at any time, also again, and its slots are free for others.
func TestRelease(t *testing.T) {
	for _, mode := range modes() {
		for n := range 30 {
			c := config(mode, 3, 2, 4)
			c.Depth, c.Width = n%4+1, 1+n*8
			s := open(t, c, classes())
			other, _ := s.a.Alloc(32)
			mine, _ := s.p.Intern("mine")
			for i := range n {
				checkAdd(t, s.x, name(i%8), uint64(i%5+1), api.OK)
			}
			for range 2 {
				s.x.Release()
				checkLive(t, s.a, 2, 0, 0)
				checkUsers(t, s.p, map[string]int{"mine": 1})
				checkGone(t, s.x)
			}
			y := newTier(t, s.a, s.p, c)
			checkAdd(t, y, "a", 1, api.OK)
			s.x.Release()
			checkEntries(t, y, entries(entry("a", 1, 0)), nil, 0)
			y.Release()
			if s.a.Free(other) != api.OK || s.p.Release(mine) != api.OK {
				t.Error("what others took is gone")
			}
			checkLive(t, s.a, 0, 0, 0)
		}
	}
}

// P19.6: no tier.
func TestNil(t *testing.T) {
	var x *tier.Tier
	for range 2 {
		x.Release()
		checkGone(t, x)
	}
}

// R4: results share no memory with later ones, nor with the tier, and later calls do not change them.
func TestResultsAreNew(t *testing.T) {
	for _, mode := range modes() {
		s := open(t, config(mode, 2, 2, 5), classes())
		for _, w := range []weight{{"a", 5}, {"b", 6}, {"c", 2}, {"d", 3}} {
			s.add(t, w.key, w.w)
		}
		summary, exact := s.x.Summary(), s.x.Exact()
		before := fmt.Sprint(summary, exact)
		spoil := s.x.Summary()
		for _, l := range [][]api.Entry{spoil.Entries, s.x.Exact(), spoil.Entries[:cap(spoil.Entries)]} {
			for i := range l {
				l[i] = entry("x", 99, 99)
			}
		}
		for _, row := range spoil.Rows {
			row[0] = 99
		}
		spoil.Rows[0] = nil
		s.check(t)
		for _, w := range []weight{{"a", 5}, {"c", 20}, {"e", 30}} {
			s.add(t, w.key, w.w)
		}
		s.x.Release()
		if after := fmt.Sprint(summary, exact); after != before {
			t.Errorf("later calls changed %s to %s", before, after)
		}
	}
}

// R4: the tier neither changes the configuration, nor minds if it is changed.
func TestConfigIsNotKept(t *testing.T) {
	c := config(api.Saving, 2, 1, 5)
	c.Width, c.Classes = 9, classes()
	before := fmt.Sprint(c)
	s := open(t, c, classes())
	for i := range 10 {
		s.add(t, name(i%4), uint64(i+1))
	}
	if after := fmt.Sprint(c); after != before {
		t.Errorf("%s became %s", before, after)
	}
	clear(c.Table)
	clear(c.Classes)
	for i := range 10 {
		s.add(t, name(i%4), uint64(i+1))
	}
}

// R4: the tier does not keep the text that a short key is a part of, while the key is in the table, in the store, or neither.
func TestTextsAreNotKept(t *testing.T) {
	const long, n = 1 << 20, 64
	for _, mode := range modes() {
		s := open(t, config(mode, 20, 10, 3), classes())
		before := inUse()
		for i := range n {
			text := strings.Repeat("t", long) + name(i)
			checkAdd(t, s.x, text[long:], uint64(i%7+1), api.OK)
			s.x.Bounds(text[long:])
		}
		if after := inUse(); after > before+4*long {
			t.Errorf("%d short keys keep %d bytes", n, after-before)
		}
		runtime.KeepAlive(s)
	}
}

// inUse returns how many bytes of memory are reachable.
func inUse() uint64 {
	runtime.GC()
	var m runtime.MemStats
	runtime.ReadMemStats(&m)
	return m.HeapAlloc
}

// R5: the same calls take the same slots and the same numbers, and give them back in the same order.
func TestSameSlots(t *testing.T) {
	for _, mode := range modes() {
		run := func() string {
			s := open(t, config(mode, 8, 4, 6), classes())
			y := newTier(t, s.a, s.p, config(mode, 3, 2, 6))
			random := rand.New(rand.NewSource(7))
			for range 500 {
				checkAdd(t, s.x, name(random.Intn(30)), uint64(random.Intn(8)+1), api.OK)
				checkAdd(t, y, name(random.Intn(30)), uint64(random.Intn(8)+1), api.OK)
			}
			s.x.Release()
			var l []string
			for i := range 40 {
				h, _ := s.a.Alloc(32)
				id, _ := s.p.Intern(name(i))
				l = append(l, fmt.Sprint(h, id))
			}
			return strings.Join(l, " ")
		}
		if first := run(); first != run() {
			t.Error("the same calls take other slots")
		}
	}
}

// place is an entry of the table, and the number of the step in which it got its count.
type place struct {
	api.Entry
	since int
}

// record is what the words of chapters 13, 14, 17 and 19 say of a tier, and the true weight of each key.
type record struct {
	c       api.Config
	classes []api.Class
	places  []place
	lost    uint64 // Base or Deducted
	store   []api.Entry
	sketch  *countmin.Sketch
	total   uint64
	weights map[string]uint64
	steps   int
}

func newRecord(c api.Config, l []api.Class) *record {
	sketch, _ := countmin.New(c.Depth, c.Width, slices.Clone(c.Table), c.Seed)
	return &record{c: c, classes: slices.Clone(l), sketch: sketch, weights: map[string]uint64{}}
}

func (r *record) add(key string, w uint64) api.Errno {
	switch {
	case key == "":
		return api.ErrForm
	case len(key) > 255:
		return api.ErrLong
	case w == 0:
		return api.ErrRange
	case w > most-r.total:
		return api.ErrOverflow
	}
	r.steps++
	r.total += w
	r.weights[key] += w
	r.sketch.Add(key, w)
	if at := find(r.store, key); at >= 0 {
		r.store[at].Own += w
		return api.OK
	}
	if r.c.Mode == api.Saving {
		r.addSaving(key, w)
	} else {
		r.addFrequent(key, w)
	}
	r.lift(key)
	return api.OK
}

// addSaving is P13.2.
func (r *record) addSaving(key string, w uint64) {
	if at := r.find(key); at >= 0 {
		r.places[at].Own += w
		r.places[at].since = r.steps
		return
	}
	if len(r.places) == r.c.Slots {
		least := slices.MinFunc(r.places, func(a, b place) int {
			return cmp.Or(cmp.Compare(a.Own+a.Slack, b.Own+b.Slack), cmp.Compare(a.since, b.since))
		})
		r.lost = least.Own + least.Slack
		r.places = slices.DeleteFunc(r.places, func(x place) bool { return x.Key == least.Key })
	}
	r.places = append(r.places, place{entry(key, w, r.lost), r.steps})
}

// addFrequent is P14.2.
func (r *record) addFrequent(key string, w uint64) {
	if at := r.find(key); at >= 0 {
		r.places[at].Own += w
		return
	}
	if len(r.places) == r.c.Slots {
		d := w
		for _, x := range r.places {
			d = min(d, x.Own)
		}
		r.lost += d
		for i := range r.places {
			r.places[i].Own -= d
		}
		r.places = slices.DeleteFunc(r.places, func(x place) bool { return x.Own == 0 })
		w -= d
	}
	if w > 0 {
		r.places = append(r.places, place{entry(key, w, 0), r.steps})
	}
}

// lift is what P19.3 says of promotion.
func (r *record) lift(key string) {
	at := r.find(key)
	if at < 0 || r.c.Exact == 0 || r.places[at].Own < r.c.Promote {
		return
	}
	e := r.entry(r.places[at])
	if len(r.store) < r.c.Exact {
		r.places = slices.Delete(r.places, at, at+1)
		r.store = append(r.store, e)
		return
	}
	least := 0
	for i, x := range r.store {
		y := r.store[least]
		if x.Own+x.Slack < y.Own+y.Slack || x.Own+x.Slack == y.Own+y.Slack && x.Key > y.Key {
			least = i
		}
	}
	x := r.store[least]
	if e.Own <= x.Own+x.Slack {
		return
	}
	r.store[least] = e
	if x.Own < r.lost {
		x.Slack = max(x.Slack, r.lost-x.Own)
	}
	r.places[at] = place{x, r.steps}
}

// entry returns the entry of a place: with Frequent, all of them have the same Slack.
func (r *record) entry(x place) api.Entry {
	if r.c.Mode == api.Frequent {
		x.Slack = r.lost
	}
	return x.Entry
}

func (r *record) find(key string) int {
	return slices.IndexFunc(r.places, func(x place) bool { return x.Key == key })
}

func find(l []api.Entry, key string) int {
	return slices.IndexFunc(l, func(e api.Entry) bool { return e.Key == key })
}

// tracked returns the entries in the table, and those in the store, both in ascending order.
func (r *record) tracked() (inTable, inStore []api.Entry) {
	for _, x := range r.places {
		inTable = append(inTable, r.entry(x))
	}
	inStore = slices.Clone(r.store)
	for _, l := range [][]api.Entry{inTable, inStore} {
		slices.SortFunc(l, func(a, b api.Entry) int { return strings.Compare(a.Key, b.Key) })
	}
	return inTable, inStore
}

// usage counts a slot for each row, and two for each tracked key.
func (r *record) usage(all []api.Entry) []int {
	live := make([]int, len(r.classes))
	take := func(size, n int) {
		live[slices.IndexFunc(r.classes, func(c api.Class) bool { return c.Size >= size })] += n
	}
	take(8*r.c.Width, r.c.Depth)
	for _, e := range all {
		take(api.EntrySize, 1)
		take(len(e.Key), 1)
	}
	return live
}

// add adds a weight to the tier and to the record, and compares all that they say then.
func (s *side) add(t *testing.T, key string, w uint64) {
	t.Helper()
	checkAdd(t, s.x, key, w, s.r.add(key, w))
	s.check(t)
}

// check compares all that a tier says of itself, of the arena and of the pool with the record, and holds it to P19.7.
func (s *side) check(t *testing.T) {
	t.Helper()
	s.checkEntries(t)
	inTable, inStore := s.r.tracked()
	all := slices.Concat(inTable, inStore)
	checkLive(t, s.a, s.r.usage(all)...)
	users := map[string]int{}
	for _, e := range all {
		users[e.Key] = 1
	}
	checkUsers(t, s.p, users)
}

// checkEntries compares all that a tier says of itself with the record, and holds it to P19.7.
func (s *side) checkEntries(t *testing.T) {
	t.Helper()
	inTable, inStore := s.r.tracked()
	checkEntries(t, s.x, inTable, inStore, s.r.lost)
	var own uint64
	for _, e := range slices.Concat(inTable, inStore) {
		own += e.Own
		most := s.r.sketch.Estimate(e.Key)
		checkBounds(t, s.x, e.Key, min(e.Own, most), min(e.Own+e.Slack, most), true)
	}
	checkLedger(t, s.x, s.r.total, own, s.r.total-own)
	summary := s.x.Summary()
	if summary.Total != s.r.total || !reflect.DeepEqual(summary.Rows, s.r.sketch.Rows()) {
		t.Fatalf("Summary() has %d and %v, want %d and %v", summary.Total, summary.Rows, s.r.total, s.r.sketch.Rows())
	}
	keys := append(slices.Collect(maps.Keys(s.r.weights)), "", "never added")
	for _, key := range keys {
		s.checkKey(t, key, find(inTable, key) >= 0 || find(inStore, key) >= 0)
	}
}

// checkKey says what P19.4 and P19.7 do of a key.
func (s *side) checkKey(t *testing.T, key string, tracked bool) {
	t.Helper()
	if !tracked {
		checkBounds(t, s.x, key, 0, min(s.r.lost, s.r.sketch.Estimate(key)), false)
	}
	limit := table.Limit(s.r.c.Mode, s.r.c.Slots, s.r.total)
	b, _ := s.x.Bounds(key)
	if w := s.r.weights[key]; w < b.Lo || w > b.Hi || b.Hi-b.Lo > limit || s.r.lost > limit {
		t.Fatalf("%.20q weighs %d, Bounds are %v, Untracked is %d, and the limit %d", key, w, b, s.r.lost, limit)
	}
}

// P19.2 to P19.5 and P19.7: long sequences of weights of keys of which few are heavy, against the record.
func TestByDefinition(t *testing.T) {
	random := rand.New(rand.NewSource(19))
	for _, mode := range modes() {
		for _, c := range []api.Config{
			config(mode, 1, 0, 0), config(mode, 1, 1, 5), config(mode, 1, 3, 0), config(mode, 2, 1, 9), config(mode, 3, 2, 7),
			config(mode, 3, 2, 1000), config(mode, 5, 1, 20), config(mode, 8, 8, 30), config(mode, 64, 32, 60),
		} {
			for _, width := range []int{1, 4, 100} {
				c.Depth, c.Width = random.Intn(4)+1, width
				s := open(t, c, classes())
				keys := 2*(c.Slots+c.Exact) + 3
				for i := range 300 {
					key := random.Intn(keys)
					if random.Intn(2) == 0 {
						// The heavy keys are other ones after a while.
						key = (key%(c.Slots+c.Exact+1) + i/60) % keys
					}
					s.add(t, name(key), uint64(random.Intn(9)+1))
				}
				s.x.Release()
				checkLive(t, s.a, 0, 0, 0)
				checkUsers(t, s.p, nil)
			}
		}
	}
}

// P19.7: each key in its turn, which is as bad as it gets, with keys that go to the store and back all the time.
func TestInTurn(t *testing.T) {
	for _, mode := range modes() {
		for _, m := range []int{1, 2, 3, 10} {
			for _, exact := range []int{0, 1, 2, 5} {
				s := open(t, config(mode, m, exact, 2), classes())
				n := m + exact + 1
				for i := range 15 * n {
					s.add(t, name(i%n), uint64(i/n+1))
				}
				for i := range 15 * n {
					s.add(t, name(100+i), uint64(i/3+1))
				}
			}
		}
	}
}

// weigh makes a small number or, of the last ones of a byte, a greater one.
func weigh(b byte) uint64 {
	greater := []uint64{100, 1 << 40, most / 4, most/2 - 9, most - 900, most - 7, most, most + 1, math.MaxUint64 - 3, math.MaxUint64}
	if at := int(b) - 256 + len(greater); at >= 0 {
		return greater[at]
	}
	return uint64(b % 16)
}

// keyOf returns one of a few keys of different lengths, or one that is not valid.
func keyOf(b byte) string {
	if b == 255 {
		return strings.Repeat("l", 256)
	}
	return strings.Repeat(string([]byte{b%32 + 60}), int(b)%4*20+int(b)%5)
}

// P19.2 to P19.7: any tier and any weights, two bytes for each of them.
func FuzzByDefinition(f *testing.F) {
	f.Add(byte(1), byte(1), byte(5), byte(0), byte(0), []byte{1, 1, 3, 1, 3, 4, 2, 7})
	f.Add(byte(3), byte(2), byte(9), byte(2), byte(7), []byte{1, 5, 2, 5, 3, 9, 4, 15, 1, 12, 6, 3, 7, 2, 3, 8, 9, 9})
	f.Add(byte(2), byte(0), byte(0), byte(1), byte(3), []byte{1, 248, 2, 249, 3, 9, 255, 1, 0, 1, 4, 0, 4, 252, 1, 3})
	f.Fuzz(func(t *testing.T, slots, exact, promote, depth, width byte, calls []byte) {
		for _, mode := range modes() {
			c := config(mode, int(slots)%64+1, int(exact)%33, weigh(promote))
			c.Depth, c.Width = int(depth)%4+1, int(width)+1
			s := open(t, c, classes())
			for l := calls[:min(len(calls), 400)]; len(l) >= 2; l = l[2:] {
				s.add(t, keyOf(l[0]), weigh(l[1]))
			}
			s.x.Release()
			checkGone(t, s.x)
			checkLive(t, s.a, 0, 0, 0)
			checkUsers(t, s.p, nil)
		}
	})
}
