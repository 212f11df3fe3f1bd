package arena_test

import (
	"bytes"
	"math"
	"math/rand"
	"reflect"
	"slices"
	"testing"

	"heavykeys/api"
	"heavykeys/arena"
)

func handle(class, index, age int) api.Handle {
	return api.Handle{Class: class, Index: index, Age: age}
}

// pairs returns classes by their sizes and counts in turn.
func pairs(l ...int) []api.Class {
	var classes []api.Class
	for i := 0; i < len(l); i += 2 {
		classes = append(classes, api.Class{Size: l[i], Count: l[i+1]})
	}
	return classes
}

// ascending returns n classes with the sizes 1, 2 and so on, of 1, 2 and so on slots.
func ascending(n int) []api.Class {
	l := make([]api.Class, n)
	for i := range l {
		l[i] = api.Class{Size: i + 1, Count: i + 1}
	}
	return l
}

func open(t *testing.T, l ...int) *arena.Arena {
	t.Helper()
	a, e := arena.New(pairs(l...))
	if a == nil || e != api.OK {
		t.Fatalf("New(%v) = %v, %d", l, a, e)
	}
	return a
}

func checkFit(t *testing.T, a *arena.Arena, size, want int, err api.Errno) {
	t.Helper()
	if got, e := a.Fit(size); got != want || e != err {
		t.Errorf("Fit(%d) = %d, %d, want %d, %d", size, got, e, want, err)
	}
}

func checkAlloc(t *testing.T, a *arena.Arena, size int, want api.Handle, err api.Errno) {
	t.Helper()
	if got, e := a.Alloc(size); got != want || e != err {
		t.Fatalf("Alloc(%d) = %v, %d, want %v, %d", size, got, e, want, err)
	}
}

func checkFree(t *testing.T, a *arena.Arena, h api.Handle, want api.Errno) {
	t.Helper()
	if e := a.Free(h); e != want {
		t.Fatalf("Free(%v) = %d, want %d", h, e, want)
	}
}

func checkWrite(t *testing.T, a *arena.Arena, h api.Handle, b []byte, want api.Errno) {
	t.Helper()
	if e := a.Write(h, b); e != want {
		t.Fatalf("Write(%v, %d bytes) = %d, want %d", h, len(b), e, want)
	}
}

func checkRead(t *testing.T, a *arena.Arena, h api.Handle, want []byte, err api.Errno) {
	t.Helper()
	if got, e := a.Read(h); !bytes.Equal(got, want) || e != err {
		t.Fatalf("Read(%v) = %v, %d, want %v, %d", h, got, e, want, err)
	}
}

func checkUsage(t *testing.T, a *arena.Arena, size, faults int, live ...int) {
	t.Helper()
	want := api.Usage{Live: live, Bytes: size, Faults: faults}
	if got := a.Usage(); !reflect.DeepEqual(got, want) {
		t.Fatalf("Usage() = %v, want %v", got, want)
	}
}

// checkStale uses a handle that is not live in all three ways, also with more bytes than any slot has.
func checkStale(t *testing.T, a *arena.Arena, h api.Handle) {
	t.Helper()
	before := a.Usage()
	checkFree(t, a, h, api.ErrStale)
	checkWrite(t, a, h, nil, api.ErrStale)
	checkWrite(t, a, h, make([]byte, api.MaxSize+1), api.ErrStale)
	checkRead(t, a, h, nil, api.ErrStale)
	checkUsage(t, a, before.Bytes, before.Faults+4, before.Live...)
}

// P8.1: all errors of a list of classes, the first one of them, and New with the same error.
func TestCheck(t *testing.T) {
	for _, x := range []struct {
		l    []api.Class
		want api.Errno
	}{
		{nil, api.ErrRange},
		{[]api.Class{}, api.ErrRange},
		{ascending(1), api.OK},
		{ascending(7), api.OK},
		{ascending(8), api.OK},
		{ascending(9), api.ErrRange},
		{ascending(1000), api.ErrRange},
		{pairs(1, 0), api.OK},
		{pairs(16, 2, 64, 1), api.OK},
		{pairs(4095, 1, 4096, 65536), api.OK},
		{pairs(4096, 65535), api.OK},
		{pairs(1, 65536), api.OK},
		{pairs(1, 65537), api.ErrRange},
		{pairs(1, -1), api.ErrRange},
		{pairs(1, math.MinInt), api.ErrRange},
		{pairs(1, math.MaxInt), api.ErrRange},
		{pairs(0, 1), api.ErrRange},
		{pairs(-1, 1), api.ErrRange},
		{pairs(4097, 1), api.ErrRange},
		{pairs(math.MinInt, 1), api.ErrRange},
		{pairs(math.MaxInt, 1), api.ErrRange},
		{pairs(0, -1), api.ErrRange},
		{pairs(16, 1, 16, 1), api.ErrOrder},
		{pairs(16, 1, 15, 1), api.ErrOrder},
		{pairs(16, 1, 17, 1), api.OK},
		{pairs(4096, 1, 4096, 1), api.ErrOrder},
		{pairs(1, 1, 3, 1, 2, 1), api.ErrOrder},
		{pairs(2, 1, 3, 1, 1, 1), api.ErrOrder},
		{pairs(1, 1, 2, 1, 0, 1), api.ErrRange},
		{pairs(1, 1, 2, 1, 2, -1), api.ErrRange},
		{pairs(1, 1, 2, 1, 1, 65537), api.ErrRange},
		{pairs(1, 1, 2, 1, 3, -1), api.ErrRange},
		{pairs(2, 1, 2, 1, 0, 1), api.ErrOrder},
		{pairs(2, 1, 1, 1, 5, -1), api.ErrOrder},
		{pairs(0, 1, 2, 1, 2, 1), api.ErrRange},
		{append(ascending(8), pairs(1, 1)...), api.ErrRange},
		{append(pairs(5, 1), ascending(8)...), api.ErrRange},
	} {
		if got := arena.Check(x.l); got != x.want {
			t.Errorf("Check(%v) = %d, want %d", x.l, got, x.want)
		}
		a, e := arena.New(x.l)
		if e != x.want || (a == nil) != (x.want != api.OK) {
			t.Errorf("New(%v) = %v, %d, want %d", x.l, a, e, x.want)
		}
	}
}

// P8.1: no slot of a new arena is in use, and no handle is live.
func TestNew(t *testing.T) {
	a := open(t, 16, 2, 64, 0, 4096, 65536)
	checkUsage(t, a, 0, 0, 0, 0, 0)
	for class := range 3 {
		for age := range 3 {
			checkStale(t, a, handle(class, 0, age))
		}
	}
}

// P8.1 with R4: neither Check nor New changes the list of classes or keeps it.
func TestTheClassesAreNotKept(t *testing.T) {
	l := pairs(16, 2, 64, 1)
	arena.Check(l)
	a, _ := arena.New(l)
	if !slices.Equal(l, pairs(16, 2, 64, 1)) {
		t.Fatalf("the classes are %v", l)
	}
	copy(l, pairs(1, 0, 2, 0))
	checkAlloc(t, a, 16, handle(0, 0, 1), api.OK)
	checkAlloc(t, a, 64, handle(1, 0, 1), api.OK)
	checkWrite(t, a, handle(1, 0, 1), make([]byte, 64), api.OK)
	checkUsage(t, a, 80, 0, 1, 1)
}

// P8.2: sizes at the borders of the classes, and those that no class has.
func TestFit(t *testing.T) {
	a := open(t, 16, 2, 17, 0, 64, 1)
	for _, x := range []struct{ size, want int }{
		{1, 0}, {2, 0}, {15, 0}, {16, 0}, {17, 1}, {18, 2}, {63, 2}, {64, 2},
	} {
		checkFit(t, a, x.size, x.want, api.OK)
	}
	for _, size := range []int{0, -1, -16, math.MinInt, 65, 66, 4096, 4097, math.MaxInt} {
		checkFit(t, a, size, 0, api.ErrRange)
		checkAlloc(t, a, size, api.Handle{}, api.ErrRange)
	}
	checkUsage(t, a, 0, 0, 0, 0, 0)
}

// P8.2: all sizes, in the promise's words.
func TestFitOfAllSizes(t *testing.T) {
	for _, l := range [][]api.Class{ascending(8), pairs(1, 1), pairs(4096, 1), pairs(1, 1, 4096, 1), pairs(100, 0, 2000, 5, 2001, 0)} {
		a, _ := arena.New(l)
		for size := -10; size <= api.MaxSize+10; size++ {
			want := slices.IndexFunc(l, func(c api.Class) bool { return c.Size >= size })
			if size < 1 || want < 0 {
				checkFit(t, a, size, 0, api.ErrRange)
			} else {
				checkFit(t, a, size, want, api.OK)
			}
		}
	}
}

// P8.2: the slots in use do not count.
func TestFitOfAFullClass(t *testing.T) {
	a := open(t, 16, 1, 64, 1)
	checkAlloc(t, a, 1, handle(0, 0, 1), api.OK)
	checkFit(t, a, 1, 0, api.OK)
	checkFit(t, a, 17, 1, api.OK)
}

// P8.3: the chapter's example.
func TestExample(t *testing.T) {
	a := open(t, 16, 2, 64, 1)
	checkAlloc(t, a, 10, handle(0, 0, 1), api.OK)
	checkAlloc(t, a, 16, handle(0, 1, 1), api.OK)
	checkAlloc(t, a, 1, api.Handle{}, api.ErrFull)
	checkFree(t, a, handle(0, 0, 1), api.OK)
	checkAlloc(t, a, 5, handle(0, 0, 2), api.OK)
	checkFree(t, a, handle(0, 0, 1), api.ErrStale)
}

// P8.3: the slot that was freed last comes first, then the one before it, and then those that were never allocated.
func TestAllocOrder(t *testing.T) {
	a := open(t, 8, 6)
	for i := range 4 {
		checkAlloc(t, a, 8, handle(0, i, 1), api.OK)
	}
	for _, i := range []int{1, 3, 0} {
		checkFree(t, a, handle(0, i, 1), api.OK)
	}
	checkAlloc(t, a, 1, handle(0, 0, 2), api.OK)
	checkFree(t, a, handle(0, 2, 1), api.OK)
	checkAlloc(t, a, 1, handle(0, 2, 2), api.OK)
	checkAlloc(t, a, 1, handle(0, 3, 2), api.OK)
	checkFree(t, a, handle(0, 0, 2), api.OK)
	checkAlloc(t, a, 1, handle(0, 0, 3), api.OK)
	checkAlloc(t, a, 1, handle(0, 1, 2), api.OK)
	checkAlloc(t, a, 1, handle(0, 4, 1), api.OK)
	checkAlloc(t, a, 1, handle(0, 5, 1), api.OK)
	checkAlloc(t, a, 1, api.Handle{}, api.ErrFull)
}

// P8.3: Age counts the allocations of this slot, and not those of others.
func TestAge(t *testing.T) {
	a := open(t, 8, 2, 9, 2)
	for age := 1; age <= 1000; age++ {
		checkAlloc(t, a, 8, handle(0, 0, age), api.OK)
		if age == 500 {
			checkAlloc(t, a, 9, handle(1, 0, 1), api.OK)
			checkAlloc(t, a, 8, handle(0, 1, 1), api.OK)
		}
		checkFree(t, a, handle(0, 0, age), api.OK)
	}
	checkUsage(t, a, 17, 0, 1, 1)
}

// P8.3: a full class does not take slots of others, the error of Fit comes before ErrFull, and a failing Alloc changes nothing.
func TestFull(t *testing.T) {
	a := open(t, 8, 1, 16, 0, 32, 1)
	checkAlloc(t, a, 16, api.Handle{}, api.ErrFull)
	checkAlloc(t, a, 8, handle(0, 0, 1), api.OK)
	for range 3 {
		checkAlloc(t, a, 8, api.Handle{}, api.ErrFull)
		checkAlloc(t, a, 9, api.Handle{}, api.ErrFull)
		checkUsage(t, a, 8, 0, 1, 0, 0)
	}
	checkAlloc(t, a, 32, handle(2, 0, 1), api.OK)
	for _, size := range []int{0, -1, math.MinInt, 33, math.MaxInt} {
		checkAlloc(t, a, size, api.Handle{}, api.ErrRange)
	}
	checkFree(t, a, handle(0, 0, 1), api.OK)
	checkAlloc(t, a, 8, handle(0, 0, 2), api.OK)
	checkUsage(t, a, 40, 0, 1, 0, 1)
}

// P8.3 and P8.5: all slots of the greatest arena that there is.
func TestMostSlots(t *testing.T) {
	l := make([]api.Class, api.MaxClasses)
	for i := range l {
		l[i] = api.Class{Size: api.MaxSize - len(l) + i + 1, Count: api.MaxCount}
	}
	a, _ := arena.New(l)
	live := make([]int, len(l))
	size := 0
	for class, c := range l {
		for i := range c.Count {
			checkAlloc(t, a, c.Size, handle(class, i, 1), api.OK)
		}
		checkAlloc(t, a, c.Size, api.Handle{}, api.ErrFull)
		live[class] = c.Count
		size += c.Count * c.Size
		checkUsage(t, a, size, 0, live...)
	}
	last := handle(7, api.MaxCount-1, 1)
	checkWrite(t, a, last, []byte{1}, api.OK)
	checkRead(t, a, last, []byte{1}, api.OK)
	checkStale(t, a, handle(7, api.MaxCount, 1))
}

// P8.4: every handle that differs from a live one in one of its numbers is not live.
func TestLive(t *testing.T) {
	a := open(t, 8, 3, 16, 2)
	checkAlloc(t, a, 8, handle(0, 0, 1), api.OK)
	checkFree(t, a, handle(0, 0, 1), api.OK)
	checkAlloc(t, a, 8, handle(0, 0, 2), api.OK)
	checkAlloc(t, a, 8, handle(0, 1, 1), api.OK)
	checkAlloc(t, a, 16, handle(1, 0, 1), api.OK)
	checkWrite(t, a, handle(0, 0, 2), []byte{7}, api.OK)
	others := []int{-1, 0, 1, 2, 3, 4, 8, math.MinInt, math.MaxInt}
	for _, n := range others {
		for _, h := range []api.Handle{handle(n, 0, 2), handle(0, n, 2), handle(0, 0, n)} {
			if h != handle(0, 0, 2) {
				checkStale(t, a, h)
			}
		}
	}
	for _, n := range others[4:] {
		checkStale(t, a, handle(0, n, 1))
		checkStale(t, a, handle(n, 0, 1))
	}
	checkStale(t, a, handle(0, 2, 1))
	checkStale(t, a, handle(0, 2, 0))
	checkStale(t, a, handle(1, 1, 1))
	checkStale(t, a, handle(1, 2, 0))
	checkRead(t, a, handle(0, 0, 2), []byte{7}, api.OK)
}

// P8.4: a slot that is free has no live handle, whichever Age it has, and becomes free only once.
func TestFree(t *testing.T) {
	a := open(t, 8, 2)
	checkAlloc(t, a, 8, handle(0, 0, 1), api.OK)
	checkFree(t, a, handle(0, 0, 1), api.OK)
	checkUsage(t, a, 0, 0, 0)
	for age := range 4 {
		checkStale(t, a, handle(0, 0, age))
	}
	checkAlloc(t, a, 8, handle(0, 0, 2), api.OK)
	checkAlloc(t, a, 8, handle(0, 1, 1), api.OK)
	checkStale(t, a, handle(0, 0, 1))
	checkAlloc(t, a, 8, api.Handle{}, api.ErrFull)
}

// P8.4: what is stored last replaces all that was there.
func TestWrite(t *testing.T) {
	a := open(t, 8, 1, 16, 2)
	x, y, z := handle(1, 0, 1), handle(1, 1, 1), handle(0, 0, 1)
	checkAlloc(t, a, 9, x, api.OK)
	checkAlloc(t, a, 9, y, api.OK)
	checkAlloc(t, a, 1, z, api.OK)
	checkRead(t, a, x, nil, api.OK)
	for n := range 17 {
		for _, m := range []int{16, n, 0, 1} {
			checkWrite(t, a, x, bytes.Repeat([]byte{1}, n), api.OK)
			checkRead(t, a, x, bytes.Repeat([]byte{1}, n), api.OK)
			checkWrite(t, a, x, bytes.Repeat([]byte{2}, m), api.OK)
			checkRead(t, a, x, bytes.Repeat([]byte{2}, m), api.OK)
		}
	}
	checkWrite(t, a, y, bytes.Repeat([]byte{3}, 16), api.OK)
	checkWrite(t, a, z, bytes.Repeat([]byte{4}, 8), api.OK)
	checkRead(t, a, x, []byte{2}, api.OK)
	checkRead(t, a, y, bytes.Repeat([]byte{3}, 16), api.OK)
	checkRead(t, a, z, bytes.Repeat([]byte{4}, 8), api.OK)
	checkUsage(t, a, 40, 0, 1, 2)
}

// P8.4: the Size of the class is the limit, whatever was asked for in Alloc; what was stored stays then, and no fault is counted.
func TestWriteTooMuch(t *testing.T) {
	a := open(t, 1, 1, 16, 1, 4096, 1)
	for class, size := range []int{1, 16, 4096} {
		h := handle(class, 0, 1)
		checkAlloc(t, a, size, h, api.OK)
		checkWrite(t, a, h, make([]byte, size+1), api.ErrLong)
		checkRead(t, a, h, nil, api.OK)
		checkWrite(t, a, h, bytes.Repeat([]byte{5}, size), api.OK)
		for _, n := range []int{size + 1, size + 2, 5000} {
			checkWrite(t, a, h, make([]byte, n), api.ErrLong)
			checkRead(t, a, h, bytes.Repeat([]byte{5}, size), api.OK)
		}
	}
	checkUsage(t, a, 4113, 0, 1, 1, 1)
}

// P8.4: a slot that is allocated again has none of the bytes that were stored before.
func TestReadOfASlotThatIsAllocatedAgain(t *testing.T) {
	a := open(t, 8, 1)
	for age := 1; age <= 3; age++ {
		h := handle(0, 0, age)
		checkAlloc(t, a, 8, h, api.OK)
		checkRead(t, a, h, nil, api.OK)
		checkWrite(t, a, h, []byte{1, 2, 3}, api.OK)
		checkRead(t, a, h, []byte{1, 2, 3}, api.OK)
		checkFree(t, a, h, api.OK)
		checkRead(t, a, h, nil, api.ErrStale)
	}
}

// P8.4 with R4: bytes are copied on their way in and on their way out.
func TestBytesAreNotShared(t *testing.T) {
	a := open(t, 4, 2)
	h, other := handle(0, 0, 1), handle(0, 1, 1)
	checkAlloc(t, a, 4, h, api.OK)
	checkAlloc(t, a, 4, other, api.OK)
	b := []byte{1, 2, 3}
	checkWrite(t, a, h, b, api.OK)
	if !bytes.Equal(b, []byte{1, 2, 3}) {
		t.Fatalf("the bytes are %v", b)
	}
	b[0] = 9
	first, _ := a.Read(h)
	second, _ := a.Read(h)
	_ = append(first[:0], 7, 7, 7, 7, 7)
	if !bytes.Equal(second, []byte{1, 2, 3}) {
		t.Errorf("another result is %v", second)
	}
	checkRead(t, a, h, []byte{1, 2, 3}, api.OK)
	checkRead(t, a, other, nil, api.OK)
	checkWrite(t, a, h, []byte{4, 4, 4, 4}, api.OK)
	if !bytes.Equal(second, []byte{1, 2, 3}) {
		t.Errorf("after another Write, a result is %v", second)
	}
}

// P8.5: only slots in use count, each with the Size of its class.
func TestUsage(t *testing.T) {
	a := open(t, 3, 2, 5, 2, 7, 0)
	checkAlloc(t, a, 1, handle(0, 0, 1), api.OK)
	checkUsage(t, a, 3, 0, 1, 0, 0)
	checkAlloc(t, a, 4, handle(1, 0, 1), api.OK)
	checkAlloc(t, a, 4, handle(1, 1, 1), api.OK)
	checkUsage(t, a, 13, 0, 1, 2, 0)
	checkWrite(t, a, handle(1, 0, 1), []byte{1, 2}, api.OK)
	checkUsage(t, a, 13, 0, 1, 2, 0)
	checkFree(t, a, handle(1, 0, 1), api.OK)
	checkFree(t, a, handle(1, 0, 1), api.ErrStale)
	checkUsage(t, a, 8, 1, 1, 1, 0)
	checkFree(t, a, handle(0, 0, 1), api.OK)
	checkFree(t, a, handle(1, 1, 1), api.OK)
	checkUsage(t, a, 0, 1, 0, 0, 0)
}

// P8.5: ErrStale is counted once for each call that returns it, and no other error is.
func TestFaults(t *testing.T) {
	a := open(t, 4, 1)
	checkAlloc(t, a, 4, handle(0, 0, 1), api.OK)
	a.Alloc(4)
	a.Alloc(0)
	a.Alloc(5)
	a.Fit(5)
	a.Write(handle(0, 0, 1), make([]byte, 5))
	checkUsage(t, a, 4, 0, 1)
	a.Free(handle(0, 0, 2))
	checkUsage(t, a, 4, 1, 1)
	a.Read(handle(0, 1, 1))
	checkUsage(t, a, 4, 2, 1)
	a.Write(handle(1, 0, 1), nil)
	checkUsage(t, a, 4, 3, 1)
}

// P8.5 with R4: a usage does not change with the arena, nor the arena with it.
func TestUsageIsNotShared(t *testing.T) {
	a := open(t, 4, 2)
	before := a.Usage()
	checkAlloc(t, a, 4, handle(0, 0, 1), api.OK)
	if !slices.Equal(before.Live, []int{0}) {
		t.Errorf("the usage became %v", before)
	}
	a.Usage().Live[0] = 9
	checkUsage(t, a, 4, 0, 1)
}

// P8.6: no arena, with arguments that are valid and that are not.
func TestNil(t *testing.T) {
	var a *arena.Arena
	for _, n := range []int{1, 0, -1, math.MinInt, math.MaxInt} {
		checkFit(t, a, n, 0, api.ErrNone)
		checkAlloc(t, a, n, api.Handle{}, api.ErrNone)
		for _, h := range []api.Handle{{}, handle(0, 0, n), handle(n, n, n)} {
			checkFree(t, a, h, api.ErrNone)
			checkWrite(t, a, h, nil, api.ErrNone)
			checkWrite(t, a, h, make([]byte, api.MaxSize+1), api.ErrNone)
			checkRead(t, a, h, nil, api.ErrNone)
		}
	}
	checkUsage(t, a, 0, 0)
}

// R5: an arena does not depend on the calls on another one.
func TestArenasAreApart(t *testing.T) {
	a, b := open(t, 8, 2), open(t, 8, 2)
	checkAlloc(t, a, 8, handle(0, 0, 1), api.OK)
	checkWrite(t, a, handle(0, 0, 1), []byte{1}, api.OK)
	checkStale(t, b, handle(0, 0, 1))
	checkAlloc(t, b, 8, handle(0, 0, 1), api.OK)
	checkRead(t, b, handle(0, 0, 1), nil, api.OK)
	checkFree(t, b, handle(0, 0, 1), api.OK)
	checkRead(t, a, handle(0, 0, 1), []byte{1}, api.OK)
	checkUsage(t, a, 8, 0, 1)
	checkUsage(t, b, 0, 4, 0)
}

// place is a slot: its class and its index.
type place struct{ class, index int }

// record is what the chapter's words say of an arena: what happened to each of its slots.
type record struct {
	classes []api.Class
	freed   []place                 // in the order in which they were freed, also those that are in use again
	taken   map[place]int           // how often a slot was allocated
	live    map[place]api.Handle    // the slots in use, and what Alloc returned last for them
	stored  map[api.Handle][]byte   // what was stored last under a handle
	gone    map[api.Handle]struct{} // the handles that were freed
	faults  int
}

func newRecord(l []api.Class) *record {
	return &record{classes: l, taken: map[place]int{}, live: map[place]api.Handle{}, stored: map[api.Handle][]byte{}, gone: map[api.Handle]struct{}{}}
}

func (r *record) inUse(p place) bool {
	_, ok := r.live[p]
	return ok
}

// next is the slot that P8.3 names for a class, if it has one.
func (r *record) next(class int) (place, bool) {
	for i := len(r.freed) - 1; i >= 0; i-- {
		if p := r.freed[i]; p.class == class && !r.inUse(p) {
			return p, true
		}
	}
	for i := range r.classes[class].Count {
		if p := (place{class, i}); r.taken[p] == 0 {
			return p, true
		}
	}
	return place{}, false
}

func (r *record) alloc(size int) (api.Handle, api.Errno) {
	class := slices.IndexFunc(r.classes, func(c api.Class) bool { return c.Size >= size })
	if size < 1 || class < 0 {
		return api.Handle{}, api.ErrRange
	}
	p, ok := r.next(class)
	if !ok {
		return api.Handle{}, api.ErrFull
	}
	r.taken[p]++
	r.live[p] = handle(class, p.index, r.taken[p])
	return r.live[p], api.OK
}

// isLive says whether a handle is live, and counts it if it is not.
func (r *record) isLive(h api.Handle) bool {
	if last, ok := r.live[place{h.Class, h.Index}]; ok && last == h {
		return true
	}
	r.faults++
	return false
}

func (r *record) free(h api.Handle) api.Errno {
	if !r.isLive(h) {
		return api.ErrStale
	}
	delete(r.live, place{h.Class, h.Index})
	r.freed = append(r.freed, place{h.Class, h.Index})
	r.gone[h] = struct{}{}
	return api.OK
}

func (r *record) write(h api.Handle, b []byte) api.Errno {
	if !r.isLive(h) {
		return api.ErrStale
	}
	if len(b) > r.classes[h.Class].Size {
		return api.ErrLong
	}
	r.stored[h] = b
	return api.OK
}

func (r *record) read(h api.Handle) ([]byte, api.Errno) {
	if !r.isLive(h) {
		return nil, api.ErrStale
	}
	return r.stored[h], api.OK
}

func (r *record) usage() (live []int, size int) {
	live = make([]int, len(r.classes))
	for p := range r.live {
		live[p.class]++
		size += r.classes[p.class].Size
	}
	return live, size
}

// checkStep lets an arena and its record do the same, and compares their results. The numbers choose what they do.
func checkStep(t *testing.T, a *arena.Arena, r *record, known []api.Handle, kind, n, length byte) []api.Handle {
	t.Helper()
	h := handle(int(kind/16)-1, int(n%8)-1, int(length%4))
	if len(known) > 0 && n%8 != 7 {
		h = known[int(n)%len(known)]
	}
	b := bytes.Repeat([]byte{n}, int(length%40))
	switch kind % 6 {
	case 0, 1:
		size := int(n%40) - 1
		want, e := r.alloc(size)
		checkAlloc(t, a, size, want, e)
		if e == api.OK {
			known = append(known, want)
		}
	case 2:
		checkFree(t, a, h, r.free(h))
	case 3, 4:
		checkWrite(t, a, h, b, r.write(h, b))
	default:
		want, e := r.read(h)
		checkRead(t, a, h, want, e)
	}
	live, size := r.usage()
	checkUsage(t, a, size, r.faults, live...)
	return known
}

// checkHandles says that the live handles denote slots of their own and have their bytes, and that those that were freed are not live.
func checkHandles(t *testing.T, a *arena.Arena, r *record) {
	t.Helper()
	for _, h := range r.live {
		checkWrite(t, a, h, nil, api.OK)
	}
	for _, h := range r.live {
		checkRead(t, a, h, nil, api.OK)
		b := bytes.Repeat([]byte{byte(h.Class), byte(h.Index)}, r.classes[h.Class].Size/2)
		checkWrite(t, a, h, b, api.OK)
		r.stored[h] = b
	}
	for _, h := range r.live {
		checkRead(t, a, h, r.stored[h], api.OK)
	}
	for h := range r.gone {
		checkRead(t, a, h, nil, api.ErrStale)
	}
}

// P8.3, P8.4, P8.5 and P8.7: long sequences of calls, against the record.
func TestByDefinition(t *testing.T) {
	random := rand.New(rand.NewSource(8))
	for _, l := range [][]api.Class{pairs(16, 2, 32, 1), pairs(4, 5, 9, 0, 20, 3, 33, 7), ascending(8), pairs(1, 1), pairs(38, 12)} {
		for range 20 {
			a, _ := arena.New(l)
			r := newRecord(l)
			var known []api.Handle
			for range 300 {
				known = checkStep(t, a, r, known, byte(random.Intn(256)), byte(random.Intn(256)), byte(random.Intn(256)))
			}
			checkHandles(t, a, r)
		}
	}
}

// P8.7: the handles that are live at the same time differ in their slots, and each handle is returned once.
func TestHandlesAreUnique(t *testing.T) {
	random := rand.New(rand.NewSource(9))
	a := open(t, 4, 3, 8, 5)
	live := map[place]api.Handle{}
	seen := map[api.Handle]bool{}
	for range 5000 {
		h, e := a.Alloc(1 + random.Intn(8))
		if e == api.OK {
			p := place{h.Class, h.Index}
			if _, ok := live[p]; ok || seen[h] {
				t.Fatalf("Alloc returned %v again", h)
			}
			live[p], seen[h] = h, true
		}
		for p, h := range live {
			if random.Intn(4) == 0 {
				checkFree(t, a, h, api.OK)
				delete(live, p)
			}
		}
	}
	for h := range seen {
		want := api.ErrStale
		if live[place{h.Class, h.Index}] == h {
			want = api.OK
		}
		checkRead(t, a, h, nil, want)
	}
}

// P8.3, P8.4, P8.5 and P8.7: any classes and any calls, three bytes for each of them.
func FuzzByDefinition(f *testing.F) {
	f.Add(byte(16), byte(2), byte(32), byte(1), []byte{0, 5, 0, 0, 5, 0, 2, 0, 0, 0, 5, 0, 5, 0, 0})
	f.Add(byte(1), byte(0), byte(1), byte(1), []byte{1, 2, 3, 4, 5, 6})
	f.Add(byte(4), byte(3), byte(5), byte(0), bytes.Repeat([]byte{0, 3, 0, 3, 0, 4, 2, 1, 0}, 20))
	f.Fuzz(func(t *testing.T, size, count, second, many byte, calls []byte) {
		l := pairs(int(size), int(count), int(second), int(many))
		a, e := arena.New(l)
		if e != api.OK {
			if a != nil || size > 0 && second > size {
				t.Fatalf("New(%v) = %v, %d", l, a, e)
			}
			return
		}
		r := newRecord(l)
		var known []api.Handle
		for ; len(calls) >= 3 && len(known) < 500; calls = calls[3:] {
			known = checkStep(t, a, r, known, calls[0], calls[1], calls[2])
		}
		checkHandles(t, a, r)
	})
}
