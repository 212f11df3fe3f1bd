package countmin_test

import (
	"fmt"
	"math"
	"math/rand"
	"runtime"
	"slices"
	"strconv"
	"strings"
	"testing"

	"heavykeys/api"
	"heavykeys/countmin"
	"heavykeys/hash"
)

// most is the greatest weight of a sketch.
const most uint64 = 1 << 63

const twoTags = "\x03app\x02x1\x04host\x01a"

// words returns a table of n words: first, and each of the others step more than the one before it.
func words(n int, first, step uint64) []uint64 {
	l := make([]uint64, n)
	for i := range l {
		l[i] = first + uint64(i)*step
	}
	return l
}

func zeros() []uint64 { return words(16, 0, 0) }
func small() []uint64 { return words(16, 1, 1) }
func large() []uint64 { return words(16, 0xfedcba9876543210, 0x0123456789abcdef) }

// tables returns tables that spread the keys well, and some that do not.
func tables() [][]uint64 {
	return [][]uint64{zeros(), small(), large(), words(16, math.MaxUint64, 0)}
}

// wrongTables returns tables that do not have 16 words, also as parts of longer ones.
func wrongTables() [][]uint64 {
	l := [][]uint64{nil, {}}
	for _, n := range []int{1, 2, 15, 17, 32, 256} {
		l = append(l, words(n, 3, 5))
	}
	return append(l, small()[:15], words(32, 3, 5)[:17])
}

func seeds() []uint64 {
	return []uint64{0, 1, 9, 1 << 32, 1 << 63, math.MaxUint64, 0xdeadbeefcafef00d}
}

// keys returns keys of many lengths, the empty one too, and keys of any bytes.
func keys() []string {
	l := []string{"", "a", "b", "ab", "ba", "A", "a\x00", "\x00", "\xff\xfe", "é", twoTags}
	for _, n := range []int{31, 32, 255, 256, 5000} {
		l = append(l, strings.Repeat("k", n))
	}
	return l
}

// name returns the key with a number.
func name(i int) string {
	return "k" + strconv.Itoa(1000+i)
}

// open returns a sketch without weights.
func open(t *testing.T, depth, width int, table []uint64, seed uint64) *countmin.Sketch {
	t.Helper()
	s, e := countmin.New(depth, width, table, seed)
	if s == nil || e != api.OK {
		t.Fatalf("New(%d, %d, %v, %d) = %v, %d", depth, width, table, seed, s, e)
	}
	return s
}

func checkAdd(t *testing.T, s *countmin.Sketch, key string, w uint64, want api.Errno) {
	t.Helper()
	if e := s.Add(key, w); e != want {
		t.Fatalf("Add(%.20q, %d) = %d, want %d", key, w, e, want)
	}
}

func checkEstimate(t *testing.T, s *countmin.Sketch, key string, want uint64) {
	t.Helper()
	if got := s.Estimate(key); got != want {
		t.Fatalf("Estimate(%.20q) = %d, want %d", key, got, want)
	}
}

func checkOf(t *testing.T, rows [][]uint64, table []uint64, seed uint64, key string, want uint64) {
	t.Helper()
	if got := countmin.Of(rows, table, seed, key); got != want {
		t.Fatalf("Of(%.100q, %v, %d, %.20q) = %d, want %d", fmt.Sprint(rows), table, seed, key, got, want)
	}
}

// same reports whether two sketches have the same rows.
func same(a, b [][]uint64) bool {
	return slices.EqualFunc(a, b, slices.Equal[[]uint64])
}

// checkRows compares all counters, and the weight of all keys.
func checkRows(t *testing.T, s *countmin.Sketch, total uint64, want ...[]uint64) {
	t.Helper()
	if got := s.Rows(); !same(got, want) {
		t.Fatalf("Rows() has %d, %.300q, want %d, %.300q", len(got), fmt.Sprint(got), len(want), fmt.Sprint(want))
	}
	if got := s.Total(); got != total {
		t.Fatalf("Total() = %d, want %d", got, total)
	}
}

// empty returns rows of which all counters are 0.
func empty(depth, width int) [][]uint64 {
	l := make([][]uint64, depth)
	for i := range l {
		l[i] = make([]uint64, width)
	}
	return l
}

// copied returns the rows in memory of their own.
func copied(rows [][]uint64) [][]uint64 {
	l := make([][]uint64, len(rows))
	for i := range l {
		l[i] = slices.Clone(rows[i])
	}
	return l
}

// P16.1: the errors of New, each alone and with the one behind it, and no sketch then.
func TestNewErrors(t *testing.T) {
	depths := []int{0, -1, -4, math.MinInt, 5, 6, 256, 1 << 32, 1<<32 + 1, math.MaxInt}
	widths := []int{0, -1, -256, math.MinInt, 257, 258, 512, 1 << 32, 1<<32 + 1, math.MaxInt}
	check := func(depth, width int, table []uint64, want api.Errno) {
		t.Helper()
		if s, e := countmin.New(depth, width, table, 9); s != nil || e != want {
			t.Errorf("New(%d, %d, %v, 9) = %v, %d, want %d", depth, width, table, s, e, want)
		}
	}
	for _, table := range append(wrongTables(), tables()...) {
		for _, depth := range depths {
			for _, width := range append([]int{1, 2, 255, 256}, widths...) {
				check(depth, width, table, api.ErrRange)
			}
		}
		for _, width := range widths {
			for depth := 1; depth <= 4; depth++ {
				check(depth, width, table, api.ErrRange)
			}
		}
	}
	for _, table := range wrongTables() {
		for _, width := range []int{1, 2, 255, 256} {
			for depth := 1; depth <= 4; depth++ {
				check(depth, width, table, api.ErrConfig)
			}
		}
	}
}

// P16.1: every size that a sketch may have. P16.3: no key has a weight.
func TestNew(t *testing.T) {
	for depth := 1; depth <= 4; depth++ {
		for width := 1; width <= 256; width++ {
			s := open(t, depth, width, large(), 9)
			checkRows(t, s, 0, empty(depth, width)...)
			checkEstimate(t, s, "", 0)
			checkEstimate(t, s, "a", 0)
		}
	}
}

// P16.1: where the only key of a sketch is counted, in every row.
func TestPlaces(t *testing.T) {
	for _, table := range tables() {
		for _, seed := range seeds() {
			for _, key := range keys()[1:] {
				for _, width := range []int{1, 2, 3, 10, 64, 255, 256} {
					s := open(t, 4, width, table, seed)
					want := empty(4, width)
					for i := range want {
						want[i][hash.Row(table, seed, i, key)%uint64(width)] = 7
					}
					checkAdd(t, s, key, 7, api.OK)
					checkRows(t, s, 7, want...)
				}
			}
		}
	}
}

// P16.1 and P16.2: the places in the rows are 3 4 2 0 of a, 2 0 0 4 of b and 1 4 0 2 of c, by chapter 7 without package hash.
func TestConservativeUpdate(t *testing.T) {
	s := open(t, 4, 5, small(), 9)
	checkAdd(t, s, "a", 5, api.OK)
	checkAdd(t, s, "b", 3, api.OK)
	checkRows(t, s, 8, []uint64{0, 0, 3, 5, 0}, []uint64{3, 0, 0, 0, 5}, []uint64{3, 0, 5, 0, 0}, []uint64{5, 0, 0, 0, 3})
	checkAdd(t, s, "c", 4, api.OK)
	checkRows(t, s, 12, []uint64{0, 4, 3, 5, 0}, []uint64{3, 0, 0, 0, 5}, []uint64{4, 0, 5, 0, 0}, []uint64{5, 0, 4, 0, 3})
	checkAdd(t, s, "c", 1, api.OK)
	checkRows(t, s, 13, []uint64{0, 5, 3, 5, 0}, []uint64{3, 0, 0, 0, 5}, []uint64{5, 0, 5, 0, 0}, []uint64{5, 0, 5, 0, 3})
	checkAdd(t, s, "c", 1, api.OK)
	checkRows(t, s, 14, []uint64{0, 6, 3, 5, 0}, []uint64{3, 0, 0, 0, 6}, []uint64{6, 0, 5, 0, 0}, []uint64{5, 0, 6, 0, 3})
	for _, c := range []struct {
		key  string
		want uint64
	}{{"a", 5}, {"b", 3}, {"c", 6}, {"host", 0}, {"", 0}} {
		checkEstimate(t, s, c.key, c.want)
		checkOf(t, s.Rows(), small(), 9, c.key, c.want)
	}
}

// P16.2 and P16.3: the chapter's example.
func TestOneCounter(t *testing.T) {
	s := open(t, 1, 1, small(), 9)
	checkAdd(t, s, "a", 5, api.OK)
	checkAdd(t, s, "b", 3, api.OK)
	checkRows(t, s, 8, []uint64{8})
	for _, key := range keys() {
		checkEstimate(t, s, key, 8)
		checkOf(t, s.Rows(), small(), 9, key, 8)
	}
}

// P16.2: the errors of Add in their order. R2: they change nothing.
func TestAddErrors(t *testing.T) {
	s := open(t, 4, 5, small(), 9)
	checkAdd(t, s, "a", 5, api.OK)
	checkAdd(t, s, "b", 3, api.OK)
	want := s.Rows()
	for _, c := range []struct {
		key  string
		w    uint64
		want api.Errno
	}{
		{"", 0, api.ErrForm},
		{"", 1, api.ErrForm},
		{"", most, api.ErrForm},
		{"", math.MaxUint64, api.ErrForm},
		{"a", 0, api.ErrRange},
		{"c", 0, api.ErrRange},
		{"a", most - 7, api.ErrOverflow},
		{"c", most - 7, api.ErrOverflow},
		{"c", most, api.ErrOverflow},
		{"a", most + 1, api.ErrOverflow},
		{"b", math.MaxUint64 - 7, api.ErrOverflow},
		{"c", math.MaxUint64, api.ErrOverflow},
	} {
		checkAdd(t, s, c.key, c.w, c.want)
		checkRows(t, s, 8, want...)
	}
}

// P16.2: weights up to the greatest total, at once and in parts, for one key and for two.
func TestGreatestTotal(t *testing.T) {
	s := open(t, 1, 1, small(), 9)
	checkAdd(t, s, "a", most+1, api.ErrOverflow)
	checkAdd(t, s, "a", most, api.OK)
	checkRows(t, s, most, []uint64{most})
	checkAdd(t, s, "a", 1, api.ErrOverflow)
	checkAdd(t, s, "b", most, api.ErrOverflow)
	checkAdd(t, s, "b", math.MaxUint64, api.ErrOverflow)
	checkAdd(t, s, "b", 0, api.ErrRange)
	checkAdd(t, s, "", 1, api.ErrForm)
	checkRows(t, s, most, []uint64{most})

	s = open(t, 2, 3, small(), 9)
	checkAdd(t, s, "a", most-8, api.OK)
	checkAdd(t, s, "b", 9, api.ErrOverflow)
	checkAdd(t, s, "b", 7, api.OK)
	checkAdd(t, s, "a", 2, api.ErrOverflow)
	checkAdd(t, s, "a", 1, api.OK)
	checkAdd(t, s, "b", 1, api.ErrOverflow)
	if s.Total() != most || s.Estimate("a") < most-7 || s.Estimate("b") < 7 {
		t.Errorf("the total is %d, the estimates are %d and %d", s.Total(), s.Estimate("a"), s.Estimate("b"))
	}
}

// P16.3: Estimate, Total, Rows and Of change nothing, and have no errors: also the empty key has counters.
func TestQuestionsChangeNothing(t *testing.T) {
	s := open(t, 2, 2, small(), 9)
	for i := range 20 {
		checkAdd(t, s, name(i), uint64(i+1), api.OK)
	}
	rows := s.Rows()
	for range 2 {
		for _, key := range keys() {
			want := min(rows[0][hash.Row(small(), 9, 0, key)%2], rows[1][hash.Row(small(), 9, 1, key)%2])
			checkEstimate(t, s, key, want)
			checkOf(t, rows, small(), 9, key, want)
		}
		checkRows(t, s, 210, rows...)
	}
	if s.Estimate("") == 0 {
		t.Errorf("the estimate of the empty key is 0, though all counters are greater")
	}
}

// expected is what P16.3 says of Of, in its own words, for rows with a valid table.
func expected(rows [][]uint64, table []uint64, seed uint64, key string) uint64 {
	var counters []uint64
	for i, row := range rows {
		if len(row) == 0 {
			counters = append(counters, 0)
			continue
		}
		counters = append(counters, row[hash.Row(table, seed, i, key)%uint64(len(row))])
	}
	if len(counters) == 0 {
		return 0
	}
	return slices.Min(counters)
}

// P16.3: rows that no sketch has: of any number, of any widths, and with any counters.
func TestOf(t *testing.T) {
	random := rand.New(rand.NewSource(16))
	for range 300 {
		rows := make([][]uint64, random.Intn(12)+1)
		for i := range rows {
			rows[i] = make([]uint64, random.Intn(300)+1)
			for k := range rows[i] {
				rows[i][k] = random.Uint64()
			}
		}
		before := copied(rows)
		for _, table := range tables() {
			for _, key := range keys() {
				checkOf(t, rows, table, 9, key, expected(rows, table, 9, key))
			}
		}
		if !same(rows, before) {
			t.Fatalf("Of changed the rows %v to %v", before, rows)
		}
	}
}

// P16.3: the counter of each row in its turn is the least one, the greatest number is a counter as any other,
// and a row without counters has 0.
func TestOfLeast(t *testing.T) {
	for n := 1; n <= 10; n++ {
		for least := range n {
			rows := empty(n, 3)
			for i := range rows {
				rows[i] = slices.Repeat([]uint64{math.MaxUint64}, 3)
			}
			checkOf(t, rows, small(), 9, "a", math.MaxUint64)
			rows[least] = slices.Repeat([]uint64{uint64(least + 5)}, 3)
			checkOf(t, rows, small(), 9, "a", uint64(least+5))
			rows[least] = nil
			checkOf(t, rows, small(), 9, "a", 0)
			rows[least] = []uint64{}
			checkOf(t, rows, small(), 9, "", 0)
		}
	}
}

// P16.3: no rows, and tables that are not valid.
func TestOfWithoutRows(t *testing.T) {
	rows := [][]uint64{{7}, {3}, {5}}
	for _, key := range keys() {
		for _, seed := range seeds() {
			for _, table := range wrongTables() {
				checkOf(t, rows, table, seed, key, 0)
				checkOf(t, nil, table, seed, key, 0)
			}
			checkOf(t, nil, small(), seed, key, 0)
			checkOf(t, [][]uint64{}, small(), seed, key, 0)
			checkOf(t, rows, small(), seed, key, 3)
		}
	}
}

// P16.4: no sketch.
func TestNil(t *testing.T) {
	var s *countmin.Sketch
	for _, key := range keys() {
		for _, w := range []uint64{0, 1, most, most + 1, math.MaxUint64} {
			checkAdd(t, s, key, w, api.ErrNone)
		}
		checkEstimate(t, s, key, 0)
	}
	checkRows(t, s, 0)
	if l := s.Rows(); l != nil {
		t.Errorf("Rows() = %v", l)
	}
}

// R4: the rows returned are new and apart from one another, and later calls do not change them.
func TestMemoryIsNotShared(t *testing.T) {
	s := open(t, 4, 3, small(), 9)
	checkAdd(t, s, "a", 5, api.OK)
	first, second := s.Rows(), s.Rows()
	want := copied(second)
	for i := range first {
		for k := range first[i] {
			first[i][k] = 1 << 60
		}
		first[i] = append(first[i], 1, 2, 3, 4)
		checkRows(t, s, 5, want...)
	}
	slices.Reverse(first)
	checkRows(t, s, 5, want...)
	for i := range 20 {
		checkAdd(t, s, name(i), 9, api.OK)
	}
	if !same(second, want) {
		t.Errorf("later calls changed the rows %v to %v", want, second)
	}
}

// R4: the table of New is neither changed nor kept.
func TestTableIsNotKept(t *testing.T) {
	table := large()
	s, other := open(t, 4, 50, table, 9), open(t, 4, 50, large(), 9)
	for i := range 60 {
		if i == 20 {
			clear(table)
		}
		checkAdd(t, s, name(i), 3, api.OK)
		checkAdd(t, other, name(i), 3, api.OK)
		checkRows(t, s, other.Total(), other.Rows()...)
		checkEstimate(t, s, name(i), other.Estimate(name(i)))
	}

	table = large()
	s = open(t, 4, 50, table, 9)
	checkAdd(t, s, "a", 3, api.OK)
	countmin.Of(s.Rows(), table, 9, "a")
	if !slices.Equal(table, large()) {
		t.Errorf("the table was changed to %v", table)
	}
}

// R5: two sketches do not know of one another.
func TestSketchesAreApart(t *testing.T) {
	x, y := open(t, 2, 1, small(), 9), open(t, 2, 1, small(), 9)
	checkAdd(t, x, "a", 5, api.OK)
	checkRows(t, y, 0, []uint64{0}, []uint64{0})
	checkAdd(t, y, "b", 2, api.OK)
	checkRows(t, x, 5, []uint64{5}, []uint64{5})
	checkRows(t, y, 2, []uint64{2}, []uint64{2})
}

// inUse returns how many bytes of memory are reachable.
func inUse() uint64 {
	runtime.GC()
	var m runtime.MemStats
	runtime.ReadMemStats(&m)
	return m.HeapAlloc
}

// The document's purpose: a sketch has a fixed size, whatever keys it counts.
func TestMemoryIsBounded(t *testing.T) {
	const long, n = 1 << 16, 200
	s := open(t, 4, 256, large(), 9)
	before := inUse()
	for i := range n {
		checkAdd(t, s, strings.Repeat("x", long)+name(i), 1, api.OK)
	}
	if after := inUse(); after > before+n*long/4 {
		t.Errorf("%d long keys keep %d bytes", n, after-before)
	}
	runtime.KeepAlive(s)
}

// record is what the chapter's words say of a sketch, and the weight of each key.
type record struct {
	rows    [][]uint64
	table   []uint64
	seed    uint64
	total   uint64
	weights map[string]uint64
}

func (r *record) add(key string, w uint64) api.Errno {
	switch {
	case key == "":
		return api.ErrForm
	case w == 0:
		return api.ErrRange
	case w > most-r.total:
		return api.ErrOverflow
	}
	n := expected(r.rows, r.table, r.seed, key)
	for i, row := range r.rows {
		if at := hash.Row(r.table, r.seed, i, key) % uint64(len(row)); row[at] < n+w {
			row[at] = n + w
		}
	}
	r.total += w
	r.weights[key] += w
	return api.OK
}

// pair returns a sketch and its record.
func pair(t *testing.T, depth, width int, table []uint64, seed uint64) (*countmin.Sketch, *record) {
	t.Helper()
	return open(t, depth, width, table, seed), &record{empty(depth, width), table, seed, 0, map[string]uint64{}}
}

// checkStep lets a sketch and its record do the same, and compares what they say then. P16.5 holds for the key.
func checkStep(t *testing.T, s *countmin.Sketch, r *record, key string, w uint64) {
	t.Helper()
	checkAdd(t, s, key, w, r.add(key, w))
	checkRows(t, s, r.total, r.rows...)
	for _, near := range []string{key, key + "x", ""} {
		n := expected(r.rows, r.table, r.seed, near)
		checkEstimate(t, s, near, n)
		checkOf(t, s.Rows(), r.table, r.seed, near, n)
	}
	checkBounds(t, s, r.total, key, r.weights[key])
}

// checkBounds says what P16.5 does of a key.
func checkBounds(t *testing.T, s *countmin.Sketch, total uint64, key string, w uint64) {
	t.Helper()
	if n := s.Estimate(key); n < w || n > total || total != s.Total() {
		t.Fatalf("%.20q weighs %d, its estimate is %d, and Total() is %d, want %d", key, w, n, s.Total(), total)
	}
}

// weigh makes a small number or, of the last ones of a byte, a greater one.
func weigh(b byte) uint64 {
	greater := []uint64{most - 900, most - 7, most, most + 1, math.MaxUint64 - 3, math.MaxUint64}
	if at := int(b) - 256 + len(greater); at >= 0 {
		return greater[at]
	}
	return uint64(b % 8)
}

// keyOf returns one of a few keys, several of each length; the first one is empty.
func keyOf(n byte) string {
	return strings.Repeat(string([]byte{n}), int(n)%4)
}

// P16.2, P16.3 and P16.5: long sequences of calls, against the record.
func TestByDefinition(t *testing.T) {
	random := rand.New(rand.NewSource(16))
	for _, table := range tables() {
		for depth := 1; depth <= 4; depth++ {
			for _, width := range []int{1, 2, 3, 16, 256} {
				s, r := pair(t, depth, width, table, random.Uint64())
				for i := range 300 {
					w := byte(random.Intn(240))
					if i == 150 && width != 16 {
						w = 250 // Total comes near to MaxTotal, and then reaches it.
					}
					if random.Intn(40) == 0 {
						w = byte(253 + random.Intn(3))
					}
					checkStep(t, s, r, keyOf(byte(random.Intn(2*width))), weigh(w))
				}
				for key, w := range r.weights {
					checkBounds(t, s, r.total, key, w)
				}
			}
		}
	}
}

// P16.2, P16.3 and P16.5: sequences, sizes and tables that the fuzzer finds.
func FuzzByDefinition(f *testing.F) {
	f.Add(byte(0), byte(0), uint64(7), uint64(0), uint64(0), []byte{1, 5, 2, 3})
	f.Add(byte(3), byte(4), uint64(9), uint64(1), uint64(1), []byte{1, 5, 2, 3, 3, 4, 3, 1, 1, 250, 2, 7, 0, 1, 2, 0, 2, 255})
	f.Fuzz(func(t *testing.T, depth, width byte, seed, first, step uint64, calls []byte) {
		s, r := pair(t, int(depth)%4+1, int(width)+1, words(16, first, step), seed)
		for i := 0; i+1 < min(len(calls), 400); i += 2 {
			checkStep(t, s, r, keyOf(calls[i]), weigh(calls[i+1]))
		}
		for key, w := range r.weights {
			checkBounds(t, s, r.total, key, w)
		}
	})
}

// P16.5: many keys with sizes, tables and seeds of all kinds, also where all keys share their counters.
func TestBounds(t *testing.T) {
	random := rand.New(rand.NewSource(5))
	for _, table := range tables() {
		for _, seed := range seeds() {
			s := open(t, random.Intn(4)+1, random.Intn(40)+1, table, seed)
			weights := map[string]uint64{}
			var total uint64
			for range 400 {
				key, w := name(random.Intn(90)), uint64(random.Intn(1000)+1)
				checkAdd(t, s, key, w, api.OK)
				weights[key] += w
				total += w
			}
			for i := range 100 {
				checkBounds(t, s, total, name(i), weights[name(i)])
			}
		}
	}
}
