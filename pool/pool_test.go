package pool_test

import (
	"math"
	"math/rand"
	"reflect"
	"runtime"
	"slices"
	"strconv"
	"strings"
	"testing"

	"heavykeys/api"
	"heavykeys/arena"
	"heavykeys/pool"
)

// twoTags is the key of two tags, as package tags makes it.
const twoTags = "\x03app\x02x1\x04host\x01a"

// pairs returns classes by their sizes and counts in turn.
func pairs(l ...int) []api.Class {
	var classes []api.Class
	for i := 0; i < len(l); i += 2 {
		classes = append(classes, api.Class{Size: l[i], Count: l[i+1]})
	}
	return classes
}

// open returns an arena with these sizes and counts in turn, and a pool in it.
func open(t *testing.T, n int, l ...int) (*arena.Arena, *pool.Pool) {
	t.Helper()
	a, e := arena.New(pairs(l...))
	if e != api.OK {
		t.Fatalf("arena.New(%v) = %d", l, e)
	}
	return a, share(t, a, n)
}

// share returns one more pool in an arena.
func share(t *testing.T, a *arena.Arena, n int) *pool.Pool {
	t.Helper()
	p, e := pool.New(a, n)
	if p == nil || e != api.OK {
		t.Fatalf("New(%d) = %v, %d", n, p, e)
	}
	return p
}

func checkIntern(t *testing.T, p *pool.Pool, key string, want int, err api.Errno) {
	t.Helper()
	if got, e := p.Intern(key); got != want || e != err {
		t.Fatalf("Intern(%q) = %d, %d, want %d, %d", key, got, e, want, err)
	}
}

func checkRelease(t *testing.T, p *pool.Pool, id int, want api.Errno) {
	t.Helper()
	if e := p.Release(id); e != want {
		t.Fatalf("Release(%d) = %d, want %d", id, e, want)
	}
}

func checkText(t *testing.T, p *pool.Pool, id int, want string, err api.Errno) {
	t.Helper()
	if got, e := p.Text(id); got != want || e != err {
		t.Fatalf("Text(%d) = %q, %d, want %q, %d", id, got, e, want, err)
	}
}

func checkFind(t *testing.T, p *pool.Pool, key string, id, users int) {
	t.Helper()
	if i, n := p.Find(key); i != id || n != users {
		t.Fatalf("Find(%q) = %d, %d, want %d, %d", key, i, n, id, users)
	}
}

func checkLen(t *testing.T, p *pool.Pool, want int) {
	t.Helper()
	if got := p.Len(); got != want {
		t.Fatalf("Len() = %d, want %d", got, want)
	}
}

// checkLive compares the slots in use, and says that no stale handle was used.
func checkLive(t *testing.T, a *arena.Arena, live ...int) {
	t.Helper()
	if got := a.Usage(); !slices.Equal(got.Live, live) || got.Faults != 0 {
		t.Fatalf("Usage() = %v, want the slots %v and no faults", got, live)
	}
}

// checkSlot compares the bytes of a slot that was allocated age times.
func checkSlot(t *testing.T, a *arena.Arena, class, index, age int, want string) {
	t.Helper()
	h := api.Handle{Class: class, Index: index, Age: age}
	if got, e := a.Read(h); string(got) != want || e != api.OK {
		t.Fatalf("the slot %v has %q, %d, want %q", h, got, e, want)
	}
}

// checkKey compares all that a pool says of a key and its number.
func checkKey(t *testing.T, p *pool.Pool, key string, id, users int) {
	t.Helper()
	checkFind(t, p, key, id, users)
	checkText(t, p, id, key, api.OK)
}

// checkAbsent says that no key has this number.
func checkAbsent(t *testing.T, p *pool.Pool, id int) {
	t.Helper()
	checkText(t, p, id, "", api.ErrNone)
	checkRelease(t, p, id, api.ErrNone)
}

// name returns the text of a number with zeros before it, so that it has n bytes.
func name(i, n int) string {
	s := strconv.Itoa(i)
	return strings.Repeat("0", n-len(s)) + s
}

// P9.1: all errors, and which one comes first.
func TestNew(t *testing.T) {
	a, _ := arena.New(pairs(8, 1))
	for _, n := range []int{0, -1, math.MinInt, 1, 2, 8192, 8193, math.MaxInt} {
		if p, e := pool.New(nil, n); p != nil || e != api.ErrNone {
			t.Errorf("New(nil, %d) = %v, %d", n, p, e)
		}
	}
	for _, n := range []int{0, -1, -8192, math.MinInt, 8193, 8194, 65536, math.MaxInt} {
		if p, e := pool.New(a, n); p != nil || e != api.ErrRange {
			t.Errorf("New(a, %d) = %v, %d", n, p, e)
		}
	}
	for _, n := range []int{1, 2, 63, 4096, 8191, 8192} {
		if p, e := pool.New(a, n); p == nil || e != api.OK {
			t.Errorf("New(a, %d) = %v, %d", n, p, e)
		}
	}
	checkLive(t, a, 0)
}

// P9.1: a new pool has no keys and uses no slots.
func TestEmpty(t *testing.T) {
	a, p := open(t, 3, 8, 3)
	checkLen(t, p, 0)
	for _, key := range []string{"", "a", "0", strings.Repeat("a", 256)} {
		checkFind(t, p, key, 0, 0)
	}
	for _, id := range []int{math.MinInt, -2, -1, 0, 1, 2, 3, 4, math.MaxInt} {
		checkAbsent(t, p, id)
	}
	checkLen(t, p, 0)
	checkLive(t, a, 0)
}

// P9.1 and P9.2: there are n different keys at most, whatever room the arena has, and their users do not count.
func TestMost(t *testing.T) {
	for _, n := range []int{1, 2, 5, 100} {
		a, p := open(t, n, 8, n+1)
		for i := 1; i <= n; i++ {
			checkIntern(t, p, name(i, 8), i, api.OK)
			checkIntern(t, p, name(i, 8), i, api.OK)
			checkLen(t, p, i)
		}
		for range 3 {
			checkIntern(t, p, "other", 0, api.ErrFull)
			checkIntern(t, p, name(n, 8), n, api.OK)
		}
		checkFind(t, p, "other", 0, 0)
		checkLen(t, p, n)
		checkLive(t, a, n)
		for range 5 {
			checkRelease(t, p, n, api.OK)
		}
		checkIntern(t, p, "other", n, api.OK)
		checkIntern(t, p, "another", 0, api.ErrFull)
	}
}

// P9.1, P9.2 and P9.5: the greatest pool that there is, filled, emptied and filled again.
func TestGreatestPool(t *testing.T) {
	a, p := open(t, 8192, 8, 9000)
	random := rand.New(rand.NewSource(1))
	for round := range 2 {
		for i := 1; i <= 8192; i++ {
			checkIntern(t, p, name(i+round, 8), i, api.OK)
		}
		checkIntern(t, p, "other", 0, api.ErrFull)
		checkLen(t, p, 8192)
		checkLive(t, a, 8192)
		for i := 1; i <= 8192; i += 97 {
			checkKey(t, p, name(i+round, 8), i, 1)
		}
		for _, i := range random.Perm(8192) {
			checkRelease(t, p, i+1, api.OK)
		}
		checkLen(t, p, 0)
		checkLive(t, a, 0)
	}
}

// P9.1 and P9.2: the bytes of each key are in a slot of the class for its length, and only there.
func TestBytesAreInTheArena(t *testing.T) {
	a, p := open(t, 9, 4, 3, 8, 2, 255, 1)
	long := strings.Repeat("long", 64)[:255]
	for i, key := range []string{"a", "four", "five5", "\x00\xff", "12345678", long} {
		checkIntern(t, p, key, i+1, api.OK)
		checkIntern(t, p, key, i+1, api.OK)
	}
	checkLive(t, a, 3, 2, 1)
	checkSlot(t, a, 0, 0, 1, "a")
	checkSlot(t, a, 0, 1, 1, "four")
	checkSlot(t, a, 0, 2, 1, "\x00\xff")
	checkSlot(t, a, 1, 0, 1, "five5")
	checkSlot(t, a, 1, 1, 1, "12345678")
	checkSlot(t, a, 2, 0, 1, long)
	checkRelease(t, p, 2, api.OK)
	checkRelease(t, p, 2, api.OK)
	checkIntern(t, p, "new", 2, api.OK)
	checkSlot(t, a, 0, 1, 2, "new")
	checkLive(t, a, 3, 2, 1)
}

// P9.2: the chapter's example.
func TestExample(t *testing.T) {
	a, p := open(t, 2, 8, 2)
	checkIntern(t, p, "a", 1, api.OK)
	checkIntern(t, p, "b", 2, api.OK)
	checkIntern(t, p, "a", 1, api.OK)
	checkRelease(t, p, 1, api.OK)
	checkRelease(t, p, 1, api.OK)
	checkIntern(t, p, "c", 1, api.OK)
	checkKey(t, p, "c", 1, 1)
	checkKey(t, p, "b", 2, 1)
	checkLive(t, a, 2)
}

// P9.2: keys of all lengths, in classes from the least that has room for them.
func TestInternOfAllLengths(t *testing.T) {
	a, p := open(t, 300, 1, 1, 16, 15, 100, 84, 254, 154, 255, 1)
	for n := 1; n <= 255; n++ {
		checkIntern(t, p, strings.Repeat("k", n), n, api.OK)
	}
	checkLive(t, a, 1, 15, 84, 154, 1)
	for n := 1; n <= 255; n++ {
		checkKey(t, p, strings.Repeat("k", n), n, 1)
	}
	for _, n := range []int{256, 257, 511, 512, 4096, 4097, 1 << 20} {
		checkIntern(t, p, strings.Repeat("k", n), 0, api.ErrLong)
		checkFind(t, p, strings.Repeat("k", n), 0, 0)
	}
	checkLen(t, p, 255)
	checkLive(t, a, 1, 15, 84, 154, 1)
}

// P9.2: keys are compared byte by byte, and may have any bytes.
func TestDifferentKeys(t *testing.T) {
	l := []string{"a", "A", "aa", "a\x00", "\x00a", "\x00", "\x00\x00", " ", "a ", "é", "e\u0301", "\xc3", "\xa9", "\xff", "\xfe", "\ufffd", "ab", "ba", twoTags, "1", "01"}
	for c := range 256 {
		l = append(l, string([]byte{'x', byte(c)}), string([]byte{byte(c), 'x', 'y'}))
	}
	_, p := open(t, 1000, 255, 1000)
	for i, key := range l {
		checkIntern(t, p, key, i+1, api.OK)
	}
	for i, key := range l {
		checkIntern(t, p, key, i+1, api.OK)
		checkKey(t, p, key, i+1, 2)
	}
	checkLen(t, p, len(l))
}

// P9.2: which error comes first, and that a key that the pool has is not refused for lack of room.
func TestInternErrors(t *testing.T) {
	empty, long, longest := "", strings.Repeat("l", 256), strings.Repeat("l", 255)
	a, p := open(t, 3, 4, 1, 8, 3)
	checkIntern(t, p, empty, 0, api.ErrForm)
	checkIntern(t, p, long, 0, api.ErrLong)
	checkIntern(t, p, longest, 0, api.ErrRange)
	checkIntern(t, p, "123456789", 0, api.ErrRange)
	checkIntern(t, p, "a", 1, api.OK)
	checkIntern(t, p, "b", 0, api.ErrFull)
	checkIntern(t, p, "a", 1, api.OK)
	checkIntern(t, p, "12345", 2, api.OK)
	checkIntern(t, p, "b", 0, api.ErrFull)
	checkIntern(t, p, "12345678", 3, api.OK)
	checkIntern(t, p, "87654321", 0, api.ErrFull)
	checkIntern(t, p, longest, 0, api.ErrFull)
	checkIntern(t, p, long, 0, api.ErrLong)
	checkIntern(t, p, empty, 0, api.ErrForm)
	checkIntern(t, p, "12345", 2, api.OK)
	checkIntern(t, p, "a", 1, api.OK)
	checkLive(t, a, 1, 2)
	checkKey(t, p, "a", 1, 3)
	checkKey(t, p, "12345", 2, 2)
	checkKey(t, p, "12345678", 3, 1)
}

// P9.2 with R2: an error takes no slot, no number and no user.
func TestErrorsChangeNothing(t *testing.T) {
	a, p := open(t, 2, 4, 1, 8, 2)
	checkIntern(t, p, "a", 1, api.OK)
	failing := []string{"", strings.Repeat("l", 256), "b", "123456789"}
	check := func(users, n int, live ...int) {
		t.Helper()
		for _, key := range failing {
			if id, e := p.Intern(key); id != 0 || e == api.OK {
				t.Fatalf("Intern(%q) = %d, %d", key, id, e)
			}
			checkFind(t, p, key, 0, 0)
		}
		checkKey(t, p, "a", 1, users)
		checkLen(t, p, n)
		checkLive(t, a, live...)
		checkAbsent(t, p, n+1)
	}
	check(1, 1, 1, 0)
	checkIntern(t, p, "a", 1, api.OK)
	check(2, 1, 1, 0)
	checkIntern(t, p, "12345", 2, api.OK)
	failing = append(failing, "54321")
	check(2, 2, 1, 1)
	checkSlot(t, a, 0, 0, 1, "a")
	checkSlot(t, a, 1, 0, 1, "12345")
}

// P9.2: what others take of the arena is missing, and what they give back is there again.
func TestOthersUseTheArena(t *testing.T) {
	a, p := open(t, 5, 4, 2)
	h, _ := a.Alloc(3)
	checkIntern(t, p, "a", 1, api.OK)
	checkIntern(t, p, "b", 0, api.ErrFull)
	a.Write(h, []byte("b"))
	checkFind(t, p, "b", 0, 0)
	a.Free(h)
	checkIntern(t, p, "b", 2, api.OK)
	if _, e := a.Alloc(1); e != api.ErrFull {
		t.Fatalf("Alloc(1) = %d", e)
	}
	checkRelease(t, p, 1, api.OK)
	if _, e := a.Alloc(1); e != api.OK {
		t.Fatalf("after Release, Alloc(1) = %d", e)
	}
	checkIntern(t, p, "a", 0, api.ErrFull)
	checkIntern(t, p, "b", 2, api.OK)
	checkLive(t, a, 2)
}

// P9.2: a number that became free is given again, the least one first, in whichever order they became free.
func TestLeastNumber(t *testing.T) {
	for _, x := range []struct{ released, want []int }{
		{nil, []int{7, 8}},
		{[]int{1}, []int{1, 7}},
		{[]int{6}, []int{6, 7}},
		{[]int{3, 5}, []int{3, 5, 7}},
		{[]int{5, 3}, []int{3, 5, 7}},
		{[]int{2, 6, 4}, []int{2, 4, 6, 7}},
		{[]int{6, 4, 2}, []int{2, 4, 6, 7}},
		{[]int{4, 6, 2}, []int{2, 4, 6, 7}},
		{[]int{1, 2, 3, 4, 5, 6}, []int{1, 2, 3, 4, 5, 6, 7}},
		{[]int{6, 5, 4, 3, 2, 1}, []int{1, 2, 3, 4, 5, 6, 7}},
		{[]int{3, 6, 1, 5, 2, 4}, []int{1, 2, 3, 4, 5, 6, 7}},
	} {
		_, p := open(t, 20, 8, 20)
		for i := 1; i <= 6; i++ {
			checkIntern(t, p, name(i, 2), i, api.OK)
		}
		for _, id := range x.released {
			checkRelease(t, p, id, api.OK)
		}
		for i, id := range x.want {
			checkIntern(t, p, name(i, 3), id, api.OK)
			checkKey(t, p, name(i, 3), id, 1)
		}
		for i := 1; i <= 6; i++ {
			if !slices.Contains(x.released, i) {
				checkKey(t, p, name(i, 2), i, 1)
			}
		}
	}
}

// P9.2: numbers become free and are taken in turn.
func TestNumbersInTurn(t *testing.T) {
	_, p := open(t, 9, 8, 9)
	for i := 1; i <= 5; i++ {
		checkIntern(t, p, name(i, 1), i, api.OK)
	}
	checkRelease(t, p, 4, api.OK)
	checkRelease(t, p, 2, api.OK)
	checkIntern(t, p, "x", 2, api.OK)
	checkRelease(t, p, 1, api.OK)
	checkRelease(t, p, 5, api.OK)
	checkIntern(t, p, "y", 1, api.OK)
	checkRelease(t, p, 2, api.OK)
	checkIntern(t, p, "5", 2, api.OK)
	checkIntern(t, p, "4", 4, api.OK)
	checkIntern(t, p, "z", 5, api.OK)
	checkIntern(t, p, "w", 6, api.OK)
	checkKey(t, p, "3", 3, 1)
}

// P9.3: a key stays until its last user is gone, and then its slot is free.
func TestRelease(t *testing.T) {
	a, p := open(t, 4, 4, 2, 8, 2)
	checkIntern(t, p, "long key", 1, api.OK)
	for users := 1; users <= 5; users++ {
		checkIntern(t, p, "a", 2, api.OK)
		checkKey(t, p, "a", 2, users)
	}
	for users := 4; users >= 1; users-- {
		checkRelease(t, p, 2, api.OK)
		checkKey(t, p, "a", 2, users)
		checkLen(t, p, 2)
		checkLive(t, a, 1, 1)
	}
	checkRelease(t, p, 2, api.OK)
	checkFind(t, p, "a", 0, 0)
	checkLen(t, p, 1)
	checkLive(t, a, 0, 1)
	checkAbsent(t, p, 2)
	checkKey(t, p, "long key", 1, 1)
	checkRelease(t, p, 1, api.OK)
	checkAbsent(t, p, 1)
	checkLen(t, p, 0)
	checkLive(t, a, 0, 0)
}

// P9.3: numbers that no key has, with keys beside them.
func TestNoSuchNumber(t *testing.T) {
	a, p := open(t, 9, 8, 9)
	for i := 1; i <= 4; i++ {
		checkIntern(t, p, name(i, 1), i, api.OK)
	}
	checkRelease(t, p, 2, api.OK)
	checkRelease(t, p, 4, api.OK)
	for _, id := range []int{math.MinInt, -4, -1, 0, 2, 4, 5, 6, 9, 10, 8192, 1<<32 + 1, math.MaxInt} {
		checkAbsent(t, p, id)
	}
	checkKey(t, p, "1", 1, 1)
	checkKey(t, p, "3", 3, 1)
	checkLen(t, p, 2)
	checkLive(t, a, 2)
}

// P9.3: a key that comes again has the users of now, and a number the key of now.
func TestKeysThatComeAgain(t *testing.T) {
	a, p := open(t, 3, 8, 3)
	for range 100 {
		checkIntern(t, p, "a", 1, api.OK)
		checkIntern(t, p, "b", 2, api.OK)
		checkIntern(t, p, "a", 1, api.OK)
		checkRelease(t, p, 1, api.OK)
		checkKey(t, p, "a", 1, 1)
		checkRelease(t, p, 1, api.OK)
		checkIntern(t, p, "longer", 1, api.OK)
		checkIntern(t, p, "a", 3, api.OK)
		checkKey(t, p, "longer", 1, 1)
		checkKey(t, p, "a", 3, 1)
		for id := 1; id <= 3; id++ {
			checkRelease(t, p, id, api.OK)
		}
	}
	checkLive(t, a, 0)
}

// P9.4: no pool, with arguments that are valid and that are not.
func TestNil(t *testing.T) {
	var p *pool.Pool
	for _, key := range []string{"", "a", strings.Repeat("a", 255), strings.Repeat("a", 256)} {
		checkIntern(t, p, key, 0, api.ErrNone)
		checkFind(t, p, key, 0, 0)
	}
	for _, id := range []int{math.MinInt, -1, 0, 1, 2, math.MaxInt} {
		checkAbsent(t, p, id)
	}
	checkLen(t, p, 0)
}

// P9.5: two pools of one arena share its slots, and neither keys nor numbers.
func TestPoolsAreApart(t *testing.T) {
	a, p := open(t, 3, 8, 4)
	q := share(t, a, 3)
	checkIntern(t, p, "a", 1, api.OK)
	checkIntern(t, q, "b", 1, api.OK)
	checkIntern(t, q, "a", 2, api.OK)
	checkLive(t, a, 3)
	checkKey(t, p, "a", 1, 1)
	checkFind(t, p, "b", 0, 0)
	checkAbsent(t, p, 2)
	checkIntern(t, p, "c", 2, api.OK)
	checkIntern(t, q, "c", 0, api.ErrFull)
	checkRelease(t, p, 1, api.OK)
	checkKey(t, q, "b", 1, 1)
	checkKey(t, q, "a", 2, 1)
	checkIntern(t, q, "c", 3, api.OK)
	checkLive(t, a, 4)
}

// R4: the pool does not keep the text that a short key is a part of.
func TestArgumentsAreNotKept(t *testing.T) {
	const long, n = 1 << 20, 64
	_, p := open(t, n, 8, n)
	before := inUse()
	for i := range n {
		text := name(i, long)
		checkIntern(t, p, text[long-8:], i+1, api.OK)
	}
	if after := inUse(); after > before+n*long/2 {
		t.Errorf("%d short keys keep %d bytes", n, after-before)
	}
	checkKey(t, p, name(7, 8), 8, 1)
}

// inUse returns how many bytes of memory are reachable.
func inUse() uint64 {
	runtime.GC()
	var m runtime.MemStats
	runtime.ReadMemStats(&m)
	return m.HeapAlloc
}

// record is what the chapter's words say of a pool: its keys with their numbers and users.
type record struct {
	classes []api.Class
	most    int
	keys    []known
	others  []int // the sizes that others have taken from the arena
}

type known struct {
	key       string
	id, users int
}

func (r *record) find(is func(x known) bool) *known {
	if i := slices.IndexFunc(r.keys, is); i >= 0 {
		return &r.keys[i]
	}
	return nil
}

func (r *record) ofKey(key string) *known {
	return r.find(func(x known) bool { return x.key == key })
}

func (r *record) ofNumber(id int) *known {
	return r.find(func(x known) bool { return x.id == id })
}

// usage counts the slots of all keys, one for each, and those of others.
func (r *record) usage() api.Usage {
	u := api.Usage{Live: make([]int, len(r.classes))}
	sizes := slices.Clone(r.others)
	for _, x := range r.keys {
		sizes = append(sizes, len(x.key))
	}
	for _, size := range sizes {
		c := r.class(size)
		u.Live[c]++
		u.Bytes += r.classes[c].Size
	}
	return u
}

func (r *record) class(size int) int {
	return slices.IndexFunc(r.classes, func(c api.Class) bool { return c.Size >= size })
}

// alloc returns the error of the arena.
func (r *record) alloc(size int) api.Errno {
	c := r.class(size)
	if size < 1 || c < 0 {
		return api.ErrRange
	}
	if r.usage().Live[c] == r.classes[c].Count {
		return api.ErrFull
	}
	return api.OK
}

func (r *record) intern(key string) (int, api.Errno) {
	if key == "" {
		return 0, api.ErrForm
	}
	if len(key) > 255 {
		return 0, api.ErrLong
	}
	if x := r.ofKey(key); x != nil {
		x.users++
		return x.id, api.OK
	}
	if len(r.keys) == r.most {
		return 0, api.ErrFull
	}
	if e := r.alloc(len(key)); e != api.OK {
		return 0, e
	}
	id := 1
	for r.ofNumber(id) != nil {
		id++
	}
	r.keys = append(r.keys, known{key, id, 1})
	return id, api.OK
}

func (r *record) release(id int) api.Errno {
	x := r.ofNumber(id)
	if x == nil {
		return api.ErrNone
	}
	x.users--
	r.keys = slices.DeleteFunc(r.keys, func(x known) bool { return x.users == 0 })
	return api.OK
}

// keyOf returns one of a few keys of different lengths, or one that is not valid.
func keyOf(n byte) string {
	if n == 255 {
		return strings.Repeat("l", 256)
	}
	return strings.Repeat(string([]byte{n}), int(n)%14)
}

// side is a pool with its arena, and the slots that others have taken from it.
type side struct {
	a     *arena.Arena
	p     *pool.Pool
	slots []api.Handle
}

// checkStep lets a pool and its record do the same, and compares all that they say then. The numbers choose what they do.
func checkStep(t *testing.T, s *side, r *record, kind, n byte) {
	t.Helper()
	switch kind % 8 {
	case 0, 1, 2:
		want, e := r.intern(keyOf(n))
		checkIntern(t, s.p, keyOf(n), want, e)
	case 3, 4, 5:
		id := int(n)%(r.most+3) - 1
		checkRelease(t, s.p, id, r.release(id))
	case 6:
		size := int(n % 14)
		want := r.alloc(size)
		h, e := s.a.Alloc(size)
		if e != want {
			t.Fatalf("Alloc(%d) = %d, want %d", size, e, want)
		}
		if e == api.OK {
			s.slots = append(s.slots, h)
			r.others = append(r.others, size)
		}
	default:
		if len(s.slots) > 0 {
			s.a.Free(s.slots[0])
			s.slots, r.others = s.slots[1:], r.others[1:]
		}
	}
	checkRecord(t, s, r, keyOf(n))
}

// checkRecord compares all that a pool says of its numbers, its keys and one key more.
func checkRecord(t *testing.T, s *side, r *record, key string) {
	t.Helper()
	for id := -1; id <= r.most+2; id++ {
		if x := r.ofNumber(id); x != nil {
			checkKey(t, s.p, x.key, x.id, x.users)
		} else {
			checkText(t, s.p, id, "", api.ErrNone)
		}
	}
	if r.ofKey(key) == nil {
		checkFind(t, s.p, key, 0, 0)
	}
	checkLen(t, s.p, len(r.keys))
	if got, want := s.a.Usage(), r.usage(); !reflect.DeepEqual(got, want) {
		t.Fatalf("Usage() = %v, want %v", got, want)
	}
}

// checkEnd takes all users away: then all slots but those of others are free.
func checkEnd(t *testing.T, s *side, r *record) {
	t.Helper()
	for _, x := range slices.Clone(r.keys) {
		for range x.users {
			checkRelease(t, s.p, x.id, r.release(x.id))
		}
		checkAbsent(t, s.p, x.id)
	}
	checkLen(t, s.p, 0)
	checkRecord(t, s, r, "a")
}

// P9.2, P9.3 and P9.5: long sequences of calls, against the record.
func TestByDefinition(t *testing.T) {
	random := rand.New(rand.NewSource(9))
	for _, l := range [][]api.Class{pairs(255, 20), pairs(4, 5, 9, 6, 20, 3), pairs(1, 2, 2, 2, 3, 2, 8, 9), pairs(6, 0, 12, 30), pairs(3, 3)} {
		for _, n := range []int{1, 4, 12, 40} {
			a, _ := arena.New(l)
			s := &side{a: a, p: share(t, a, n)}
			r := &record{classes: l, most: n}
			for range 400 {
				checkStep(t, s, r, byte(random.Intn(256)), byte(random.Intn(256)))
			}
			checkEnd(t, s, r)
		}
	}
}

// P9.2, P9.3 and P9.5: any pool in any arena of two classes and any calls, two bytes for each of them.
func FuzzByDefinition(f *testing.F) {
	f.Add(byte(3), byte(4), byte(2), byte(8), byte(9), []byte{0, 1, 0, 2, 0, 1, 3, 2, 3, 2, 0, 3})
	f.Add(byte(1), byte(1), byte(0), byte(255), byte(1), []byte{0, 255, 0, 14, 0, 1, 0, 1, 0, 2})
	f.Add(byte(9), byte(4), byte(3), byte(20), byte(5), []byte{0, 1, 0, 2, 6, 3, 0, 3, 3, 3, 7, 0, 0, 4})
	f.Fuzz(func(t *testing.T, most, size, count, second, many byte, calls []byte) {
		l := pairs(int(size), int(count), int(second), int(many))
		a, e := arena.New(l)
		if e != api.OK || most < 1 {
			return
		}
		s := &side{a: a, p: share(t, a, int(most))}
		r := &record{classes: l, most: int(most)}
		for calls = calls[:min(len(calls), 500)]; len(calls) >= 2; calls = calls[2:] {
			checkStep(t, s, r, calls[0], calls[1])
		}
		checkEnd(t, s, r)
	})
}
