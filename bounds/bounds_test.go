package bounds_test

import (
	"math"
	"math/big"
	"math/rand"
	"slices"
	"strings"
	"testing"

	"heavykeys/api"
	"heavykeys/bounds"
)

const most uint64 = math.MaxUint64

func pair(lo, hi uint64) api.Bounds { return api.Bounds{Lo: lo, Hi: hi} }

func line(key string, lo, hi uint64) api.Line { return api.Line{Key: key, Lo: lo, Hi: hi} }

// numbers returns small numbers, those around the greatest weight of a window, and the greatest numbers of all.
func numbers() []uint64 {
	return []uint64{0, 1, 2, 3, 7, 255, 1 << 32, most / 2, 1 << 63, 1<<63 + 1, most - 3, most - 2, most - 1, most}
}

// capped returns the exact sum, or the greatest number if the sum exceeds it.
func capped(a, b uint64) uint64 {
	n := new(big.Int).SetUint64(a)
	n.Add(n, new(big.Int).SetUint64(b))
	if !n.IsUint64() {
		return most
	}
	return n.Uint64()
}

// texts returns keys in ascending order of their bytes.
func texts() []string {
	return []string{"", "\x00", "\x00\x00", "\x01", "10", "9", "A", "B", "a", "a\x00", "aa", "ab", "b", "é", "\xff", "\xff\x00"}
}

// lines returns a line for every key and some of the numbers, in no order.
func lines() []api.Line {
	var l []api.Line
	for _, key := range texts() {
		for _, hi := range []uint64{0, 1, 9, 10, 1 << 63, most} {
			l = append(l, line(key, hi/2, hi))
		}
	}
	rand.New(rand.NewSource(18)).Shuffle(len(l), func(i, j int) { l[i], l[j] = l[j], l[i] })
	return l
}

// before is the order of the chapter, written with the first byte in which two keys differ.
func before(a, b api.Line) bool {
	if a.Hi != b.Hi {
		return a.Hi > b.Hi
	}
	for i := range min(len(a.Key), len(b.Key)) {
		if a.Key[i] != b.Key[i] {
			return a.Key[i] < b.Key[i]
		}
	}
	return len(a.Key) < len(b.Key)
}

// sorted puts the lines one after the other behind all those that they do not come before.
func sorted(l []api.Line) []api.Line {
	var all []api.Line
	for _, x := range l {
		at := len(all)
		for at > 0 && before(x, all[at-1]) {
			at--
		}
		all = slices.Insert(all, at, x)
	}
	return all
}

func checkSort(t *testing.T, l, want []api.Line) {
	t.Helper()
	given := slices.Clone(l)
	if got := bounds.Sort(l); !slices.Equal(got, want) {
		t.Errorf("Sort(%v) = %v, want %v", given, got, want)
	}
	if !slices.Equal(l, given) {
		t.Errorf("Sort changed %v to %v", given, l)
	}
}

// P18.1: the bounds of an entry are its Own, and its Own and Slack together.
func TestOf(t *testing.T) {
	for _, c := range []struct {
		own, slack uint64
		want       api.Bounds
	}{
		{0, 0, pair(0, 0)}, {5, 0, pair(5, 5)}, {0, 3, pair(0, 3)}, {5, 2, pair(5, 7)}, {2, 5, pair(2, 7)},
		{1 << 62, 1 << 62, pair(1<<62, 1<<63)}, {1<<63 - 1, 1, pair(1<<63-1, 1<<63)},
		{1 << 63, 1<<63 - 1, pair(1<<63, most)}, {1 << 63, 1 << 63, pair(1<<63, most)},
		{most, 0, pair(most, most)}, {most, 1, pair(most, most)}, {1, most, pair(1, most)},
		{0, most, pair(0, most)}, {most - 1, 1, pair(most-1, most)}, {most, most, pair(most, most)},
	} {
		for _, key := range []string{"", "a", "\xff"} {
			if got := bounds.Of(api.Entry{Key: key, Own: c.own, Slack: c.slack}); got != c.want {
				t.Errorf("Of({%q %d %d}) = %v, want %v", key, c.own, c.slack, got, c.want)
			}
		}
	}
}

// P18.1: the Lo of two bounds are added, and so are the Hi.
func TestAdd(t *testing.T) {
	for _, c := range []struct{ a, b, want api.Bounds }{
		{pair(2, 5), pair(0, 3), pair(2, 8)},
		{pair(5, 6), pair(0, 2), pair(5, 8)},
		{pair(0, 0), pair(0, 0), pair(0, 0)},
		{pair(1, 2), pair(30, 40), pair(31, 42)},
		{pair(1, most), pair(1, 1), pair(2, most)},
		{pair(0, most), pair(0, 0), pair(0, most)},
		{pair(0, most-1), pair(0, 1), pair(0, most)},
		{pair(0, 1<<63), pair(0, 1<<63), pair(0, most)},
		{pair(most, most), pair(1, 0), pair(most, most)},
		{pair(1<<63, 1<<63), pair(1<<63, 1<<63), pair(most, most)},
		{pair(most, most), pair(most, most), pair(most, most)},
		{pair(7, 2), pair(1, 1), pair(8, 3)},
		{pair(most, 0), pair(2, 3), pair(most, 3)},
	} {
		if got := bounds.Add(c.a, c.b); got != c.want {
			t.Errorf("Add(%v, %v) = %v, want %v", c.a, c.b, got, c.want)
		}
		if got := bounds.Add(c.b, c.a); got != c.want {
			t.Errorf("Add(%v, %v) = %v, want %v", c.b, c.a, got, c.want)
		}
	}
}

// P18.1: both numbers are replaced by most where they are greater.
func TestCap(t *testing.T) {
	for _, c := range []struct {
		b    api.Bounds
		most uint64
		want api.Bounds
	}{
		{pair(2, 8), 9, pair(2, 8)}, {pair(2, 8), 8, pair(2, 8)}, {pair(2, 8), 7, pair(2, 7)}, {pair(2, 8), 3, pair(2, 3)},
		{pair(2, 8), 2, pair(2, 2)}, {pair(2, 8), 1, pair(1, 1)}, {pair(2, 8), 0, pair(0, 0)}, {pair(2, 8), most, pair(2, 8)},
		{pair(0, 0), 0, pair(0, 0)}, {pair(0, 0), 5, pair(0, 0)}, {pair(0, most), 5, pair(0, 5)},
		{pair(most, most), most - 1, pair(most-1, most-1)}, {pair(most, most), most, pair(most, most)},
		{pair(1<<63, 1<<63+1), 1 << 63, pair(1<<63, 1<<63)},
		{pair(8, 2), 5, pair(5, 2)}, {pair(8, 2), 1, pair(1, 1)}, {pair(8, 2), 8, pair(8, 2)},
	} {
		if got := bounds.Cap(c.b, c.most); got != c.want {
			t.Errorf("Cap(%v, %d) = %v, want %v", c.b, c.most, got, c.want)
		}
	}
}

// P18.1: bounds contain the numbers from Lo to Hi, and none if Lo is greater than Hi.
func TestContains(t *testing.T) {
	for _, c := range []struct {
		b               api.Bounds
		inside, outside []uint64
	}{
		{pair(2, 5), []uint64{2, 3, 4, 5}, []uint64{0, 1, 6, 7, most}},
		{pair(0, 0), []uint64{0}, []uint64{1, most}},
		{pair(7, 7), []uint64{7}, []uint64{0, 6, 8, most}},
		{pair(0, most), []uint64{0, 1, 1 << 63, most - 1, most}, nil},
		{pair(most, most), []uint64{most}, []uint64{0, 1 << 63, most - 1}},
		{pair(1<<63, most), []uint64{1 << 63, most}, []uint64{0, 1<<63 - 1}},
		{pair(5, 2), nil, []uint64{0, 1, 2, 3, 4, 5, 6, most}},
		{pair(most, 0), nil, []uint64{0, 1, 1 << 63, most}},
	} {
		for _, n := range c.inside {
			if !bounds.Contains(c.b, n) {
				t.Errorf("Contains(%v, %d) is false", c.b, n)
			}
		}
		for _, n := range c.outside {
			if bounds.Contains(c.b, n) {
				t.Errorf("Contains(%v, %d) is true", c.b, n)
			}
		}
	}
}

// checkPair compares all results for two bounds and a number with the words of the chapter.
func checkPair(t *testing.T, a, b api.Bounds, n uint64) {
	t.Helper()
	if got, want := bounds.Of(api.Entry{Own: a.Lo, Slack: a.Hi}), pair(a.Lo, capped(a.Lo, a.Hi)); got != want {
		t.Errorf("Of({%d %d}) = %v, want %v", a.Lo, a.Hi, got, want)
	}
	if got, want := bounds.Add(a, b), pair(capped(a.Lo, b.Lo), capped(a.Hi, b.Hi)); got != want {
		t.Errorf("Add(%v, %v) = %v, want %v", a, b, got, want)
	}
	want := a
	if want.Lo > n {
		want.Lo = n
	}
	if want.Hi > n {
		want.Hi = n
	}
	if got := bounds.Cap(a, n); got != want {
		t.Errorf("Cap(%v, %d) = %v, want %v", a, n, got, want)
	}
	if got, inside := bounds.Contains(a, n), !(n < a.Lo) && !(n > a.Hi); got != inside {
		t.Errorf("Contains(%v, %d) = %t", a, n, got)
	}
}

// checkSum checks that the sum of bounds contains the sum of two numbers that they contain.
func checkSum(t *testing.T, a, b api.Bounds, x, y uint64) {
	t.Helper()
	if !bounds.Contains(a, x) || !bounds.Contains(b, y) || x > most-y {
		return
	}
	if sum := bounds.Add(a, b); !bounds.Contains(sum, x+y) {
		t.Errorf("%v contains %d and %v contains %d, but %v does not contain %d", a, x, b, y, sum, x+y)
	}
}

// P18.1 and P18.3: numbers of all magnitudes, also next to the greatest ones.
func TestNumbersByDefinition(t *testing.T) {
	for _, lo := range numbers() {
		for _, hi := range numbers() {
			for _, n := range numbers() {
				checkPair(t, pair(lo, hi), pair(n, lo), n)
				checkPair(t, pair(lo, hi), pair(hi, n), n)
			}
		}
	}
	random := rand.New(rand.NewSource(1))
	number := func() uint64 { return random.Uint64() >> random.Intn(64) }
	for range 20000 {
		checkPair(t, pair(number(), number()), pair(number(), number()), number())
	}
}

// P18.3: every sum of two numbers below 2^64 is in the sum of the bounds that contain them, exactly at both ends, too.
func TestSums(t *testing.T) {
	l := numbers()
	var all []api.Bounds
	for i, lo := range l {
		for _, hi := range l[i:] {
			all = append(all, pair(lo, hi))
		}
	}
	for _, a := range all {
		for _, b := range all {
			for _, x := range []uint64{a.Lo, a.Lo + (a.Hi-a.Lo)/2, a.Hi} {
				for _, y := range []uint64{b.Lo, b.Lo + (b.Hi-b.Lo)/2, b.Hi} {
					checkSum(t, a, b, x, y)
				}
			}
		}
	}
}

// P18.3: the sum of small bounds contains the sums of all their numbers, and no others.
func TestSumsOfSmallBounds(t *testing.T) {
	const n = 5
	for i := range uint64(n * n * n * n) {
		a, b := pair(i%n, i/n%n), pair(i/n/n%n, i/n/n/n)
		if a.Lo > a.Hi || b.Lo > b.Hi {
			continue
		}
		sums := make(map[uint64]bool)
		for x := a.Lo; x <= a.Hi; x++ {
			for y := b.Lo; y <= b.Hi; y++ {
				sums[x+y] = true
			}
		}
		for x := range uint64(3 * n) {
			if got := bounds.Contains(bounds.Add(a, b), x); got != sums[x] {
				t.Errorf("Contains(Add(%v, %v), %d) = %t", a, b, x, got)
			}
		}
	}
}

// P18.2: the greater Hi comes first, then the lesser key; Lo does not matter.
func TestBefore(t *testing.T) {
	for _, c := range []struct {
		a, b api.Line
		want bool
	}{
		{line("b", 0, 8), line("a", 9, 7), true}, {line("a", 9, 7), line("b", 0, 8), false},
		{line("a", 0, 7), line("b", 9, 7), true}, {line("b", 9, 7), line("a", 0, 7), false},
		{line("a", 9, 7), line("b", 0, 7), true}, {line("b", 0, 7), line("a", 9, 7), false},
		{line("a", 0, 7), line("a", 9, 7), false}, {line("a", 9, 7), line("a", 0, 7), false},
		{line("a", 1, 7), line("a", 1, 7), false}, {api.Line{}, api.Line{}, false},
		{line("", 0, 7), line("a", 0, 7), true}, {line("a", 0, 7), line("", 0, 7), false},
		{line("", 0, 0), line("\x00", 0, 0), true}, {line("\x00", 0, 0), line("", 0, 0), false},
		{line("z", 0, most), line("a", 0, most-1), true}, {line("a", 0, 0), line("z", 0, most), false},
		{line("a", 0, 1<<63), line("b", 0, 1<<63-1), true}, {line("b", 0, 1<<63-1), line("a", 0, 1<<63), false},
		{line("10", 0, 1), line("9", 0, 1), true}, {line("B", 0, 1), line("a", 0, 1), true},
		{line("z", 0, 1), line("é", 0, 1), true}, {line("é", 0, 1), line("\xff", 0, 1), true},
	} {
		if got := bounds.Before(c.a, c.b); got != c.want {
			t.Errorf("Before(%v, %v) = %t", c.a, c.b, got)
		}
	}
}

// P18.2: of two lines with another Hi or another Key exactly one comes before the other.
func TestBeforeByDefinition(t *testing.T) {
	for _, a := range lines() {
		for _, b := range lines() {
			if got := bounds.Before(a, b); got != before(a, b) {
				t.Errorf("Before(%v, %v) = %t", a, b, got)
			}
			differ := a.Hi != b.Hi || a.Key != b.Key
			if got := bounds.Before(a, b) != bounds.Before(b, a); got != differ {
				t.Errorf("Before says of %v and %v: %t, and the other way round: %t", a, b, bounds.Before(a, b), bounds.Before(b, a))
			}
		}
	}
}

// P18.2: the examples, lists of no and of one line, and every order of four lines.
func TestSort(t *testing.T) {
	checkSort(t, nil, nil)
	checkSort(t, []api.Line{}, nil)
	checkSort(t, []api.Line{line("a", 1, 7)}, []api.Line{line("a", 1, 7)})
	checkSort(t, []api.Line{line("b", 0, 7), line("a", 1, 7), line("c", 9, 9)}, []api.Line{line("c", 9, 9), line("a", 1, 7), line("b", 0, 7)})
	want := []api.Line{line("d", 0, 9), line("a", 7, 7), line("c", 1, 7), line("b", 3, 3)}
	for i := range 256 {
		at := []int{i % 4, i / 4 % 4, i / 16 % 4, i / 64}
		if slices.Equal(slices.Compact(slices.Sorted(slices.Values(at))), []int{0, 1, 2, 3}) {
			checkSort(t, []api.Line{want[at[0]], want[at[1]], want[at[2]], want[at[3]]}, want)
		}
	}
}

// P18.2: lines with the same Hi and Key stay in their order, whatever their Lo is and however many there are.
func TestSortIsStable(t *testing.T) {
	checkSort(t, []api.Line{line("a", 1, 7), line("a", 0, 7), line("a", 2, 7)}, []api.Line{line("a", 1, 7), line("a", 0, 7), line("a", 2, 7)})
	random := rand.New(rand.NewSource(2))
	for _, n := range []int{2, 11, 12, 13, 50, 64, 1000, 5000} {
		for _, kinds := range []int{1, 2, 5} {
			l := make([]api.Line, n)
			for i := range l {
				l[i] = line(texts()[random.Intn(kinds)], random.Uint64(), uint64(random.Intn(kinds)))
			}
			var want []api.Line
			for hi := kinds - 1; hi >= 0; hi-- {
				for _, key := range texts()[:kinds] {
					for _, x := range l {
						if x.Hi == uint64(hi) && x.Key == key {
							want = append(want, x)
						}
					}
				}
			}
			checkSort(t, l, want)
		}
	}
}

// P18.2: lines of all kinds, in any order, also in order and in the reverse order.
func TestSortByDefinition(t *testing.T) {
	l := lines()
	want := sorted(l)
	checkSort(t, l, want)
	checkSort(t, want, want)
	slices.Reverse(l)
	checkSort(t, l, want)
	backwards := slices.Clone(want)
	slices.Reverse(backwards)
	checkSort(t, backwards, want)
}

// P18.2 and R4: the sorted lines share no memory with the list that was given, nor with a later result, also where nothing moves.
func TestMemoryIsNotShared(t *testing.T) {
	room := []api.Line{line("c", 9, 9), line("a", 1, 7), line("b", 0, 7), line("d", 0, 1)}
	given := slices.Clone(room)
	first, second := bounds.Sort(room[:3]), bounds.Sort(room[:3])
	for i := range first {
		first[i] = line("x", 5, 5)
	}
	_ = append(first, line("y", 6, 6))
	if !slices.Equal(room, given) {
		t.Errorf("the list is %v after a change of the result", room)
	}
	if !slices.Equal(second, given[:3]) {
		t.Errorf("the second result is %v after a change of the first one", second)
	}
	room[0] = line("z", 0, 0)
	if second[0] != given[0] {
		t.Errorf("the result is %v after a change of the list", second)
	}
	_ = append(bounds.Sort(room[:0]), line("y", 6, 6))
	if room[0] != line("z", 0, 0) {
		t.Errorf("the list is %v after the result without lines grew", room)
	}
}

// R1: long lists and long keys that differ in their last byte only.
func TestLongLists(t *testing.T) {
	const n = 20000
	long := strings.Repeat("k", 1000)
	l := make([]api.Line, n)
	for i := range l {
		l[i] = line(long+string([]byte{byte(i % 7)}), uint64(i), uint64(i%3))
	}
	got := bounds.Sort(l)
	for i := 1; i < n; i++ {
		if before(got[i], got[i-1]) || !before(got[i-1], got[i]) && got[i-1].Lo > got[i].Lo {
			t.Fatalf("the line %d is out of order", i)
		}
	}
	if len(got) != n {
		t.Errorf("%d lines of %d", len(got), n)
	}
}

// P18.1 to P18.3: numbers and lists that the fuzzer finds.
func FuzzByDefinition(f *testing.F) {
	f.Add(uint64(2), uint64(5), uint64(0), uint64(3), uint64(1), "bac")
	f.Add(most, most, uint64(1), uint64(1), most-1, "aabbaacc\xff\x00")
	f.Fuzz(func(t *testing.T, a, b, c, d, n uint64, keys string) {
		checkPair(t, pair(a, b), pair(c, d), n)
		checkSum(t, pair(min(a, b), max(a, b)), pair(min(c, d), max(c, d)), min(max(n, min(a, b)), max(a, b)), min(max(n, min(c, d)), max(c, d)))
		his := []uint64{a, b, c, d, n}
		var l []api.Line
		for i := range min(len(keys), 200) {
			l = append(l, line(keys[i:min(i+int(keys[i]%3), len(keys))], uint64(i), his[int(keys[i]/3)%5]))
		}
		checkSort(t, l, sorted(l))
	})
}
