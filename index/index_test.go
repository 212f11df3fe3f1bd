package index_test

import (
	"maps"
	"math"
	"math/rand"
	"runtime"
	"slices"
	"strconv"
	"strings"
	"testing"

	"heavykeys/api"
	"heavykeys/hash"
	"heavykeys/index"
)

// zeros is the table with which the hash of a key depends on its length and the seed only.
func zeros() []uint64 {
	return make([]uint64, api.TableSize)
}

// words returns a table of pseudo-random words.
func words(seed int64) []uint64 {
	random := rand.New(rand.NewSource(seed))
	table := zeros()
	for i := range table {
		table[i] = random.Uint64()
	}
	return table
}

// filled returns a table of equal words.
func filled(word uint64) []uint64 {
	return slices.Repeat([]uint64{word}, api.TableSize)
}

// tables returns a few tables: with some, all keys of a length have the same hash.
func tables() [][]uint64 {
	return [][]uint64{zeros(), filled(1), filled(math.MaxUint64), filled(1 << 63), words(1), words(2)}
}

// open returns an empty table for at most n keys.
func open[V any](t *testing.T, n int, table []uint64, seed uint64) *index.Map[V] {
	t.Helper()
	m, e := index.New[V](n, table, seed)
	if m == nil || e != api.OK {
		t.Fatalf("New(%d, %v, %d) = %v, %d", n, table, seed, m, e)
	}
	return m
}

func checkPut[V any](t *testing.T, m *index.Map[V], key string, v V, want api.Errno) {
	t.Helper()
	if e := m.Put(key, v); e != want {
		t.Fatalf("Put(%q, %v) = %d, want %d", key, v, e, want)
	}
}

func checkGet[V comparable](t *testing.T, m *index.Map[V], key string, want V, has bool) {
	t.Helper()
	if v, ok := m.Get(key); v != want || ok != has {
		t.Fatalf("Get(%q) = %v, %v, want %v, %v", key, v, ok, want, has)
	}
}

func checkDelete[V comparable](t *testing.T, m *index.Map[V], key string, want V, has bool) {
	t.Helper()
	if v, ok := m.Delete(key); v != want || ok != has {
		t.Fatalf("Delete(%q) = %v, %v, want %v, %v", key, v, ok, want, has)
	}
}

// checkKeys compares the keys, which are given in ascending order, and their number.
func checkKeys[V any](t *testing.T, m *index.Map[V], want ...string) {
	t.Helper()
	if got := m.Keys(); !slices.Equal(got, want) {
		t.Fatalf("Keys() = %q, want %q", got, want)
	}
	if got := m.Len(); got != len(want) {
		t.Fatalf("Len() = %d, want %d", got, len(want))
	}
}

// checkAbsent says that the table does not have a key.
func checkAbsent[V comparable](t *testing.T, m *index.Map[V], key string) {
	t.Helper()
	var none V
	checkGet(t, m, key, none, false)
	checkDelete(t, m, key, none, false)
}

// name returns the text of a number with zeros before it, so that it has n bytes.
func name(i, n int) string {
	s := strconv.Itoa(i)
	return strings.Repeat("0", n-len(s)) + s
}

// P10.1: all errors, and which one comes first.
func TestNew(t *testing.T) {
	var wrong [][]uint64
	for _, n := range []int{0, 1, 15, 17, 32, 1000} {
		wrong = append(wrong, make([]uint64, n))
	}
	wrong = append(wrong, nil)
	for _, n := range []int{0, -1, -8192, math.MinInt, 8193, 8194, 65536, math.MaxInt} {
		for _, table := range append(wrong, words(1)) {
			if m, e := index.New[int](n, table, 1); m != nil || e != api.ErrRange {
				t.Errorf("New(%d, %d words) = %v, %d", n, len(table), m, e)
			}
		}
	}
	for _, n := range []int{1, 2, 63, 4096, 8191, 8192} {
		for _, table := range wrong {
			if m, e := index.New[int](n, table, 1); m != nil || e != api.ErrConfig {
				t.Errorf("New(%d, %d words) = %v, %d", n, len(table), m, e)
			}
		}
		for _, table := range tables() {
			for _, seed := range []uint64{0, 1, 1 << 63, math.MaxUint64} {
				checkKeys(t, open[int](t, n, table, seed))
			}
		}
	}
}

// P10.1: a new table has no keys.
func TestEmpty(t *testing.T) {
	for _, table := range tables() {
		m := open[int](t, 3, table, 5)
		for _, key := range []string{"", "a", "0", "\x00", strings.Repeat("a", 256)} {
			checkAbsent(t, m, key)
		}
		checkKeys(t, m)
	}
}

// P10.1 and P10.2: there are n keys at most, whichever they are, and as many again after a deletion.
func TestMost(t *testing.T) {
	for _, table := range tables() {
		for _, n := range []int{1, 2, 3, 5, 100} {
			m := open[int](t, n, table, 7)
			var keys []string
			for i := range n {
				keys = append(keys, name(i, 8))
				checkPut(t, m, keys[i], i, api.OK)
				checkPut(t, m, keys[i], i+1, api.OK)
				checkKeys(t, m, keys...)
			}
			for i := range n {
				checkPut(t, m, "other", 0, api.ErrFull)
				checkPut(t, m, keys[i], -i, api.OK)
			}
			checkAbsent(t, m, "other")
			checkKeys(t, m, keys...)
			checkDelete(t, m, keys[0], 0, true)
			checkPut(t, m, "other", 9, api.OK)
			checkPut(t, m, keys[0], 0, api.ErrFull)
			checkKeys(t, m, append(keys[1:], "other")...)
			checkGet(t, m, "other", 9, true)
		}
	}
}

// P10.1, P10.2 and P10.4: the greatest table that there is, filled, emptied and filled again.
func TestGreatestTable(t *testing.T) {
	random := rand.New(rand.NewSource(1))
	for _, table := range [][]uint64{words(3), zeros()} {
		m := open[int](t, 8192, table, 1)
		for round := range 2 {
			for i := range 8192 {
				checkPut(t, m, name(i+round, 8), i, api.OK)
			}
			checkPut(t, m, "other", 0, api.ErrFull)
			for i := 0; i < 8192; i += 97 {
				checkGet(t, m, name(i+round, 8), i, true)
			}
			if keys := m.Keys(); len(keys) != 8192 || m.Len() != 8192 || !slices.IsSorted(keys) {
				t.Fatalf("%d keys, Len() = %d", len(keys), m.Len())
			}
			for _, i := range random.Perm(8192) {
				checkDelete(t, m, name(i+round, 8), i, true)
			}
			checkKeys(t, m)
		}
	}
}

// P10.2: the chapter's example.
func TestExample(t *testing.T) {
	for _, table := range tables() {
		m := open[int](t, 2, table, 0)
		checkPut(t, m, "a", 1, api.OK)
		checkPut(t, m, "b", 2, api.OK)
		checkPut(t, m, "a", 3, api.OK)
		checkPut(t, m, "c", 4, api.ErrFull)
		checkGet(t, m, "a", 3, true)
		checkGet(t, m, "b", 2, true)
		checkAbsent(t, m, "c")
		checkKeys(t, m, "a", "b")
	}
}

// P10.2: Put sets the value of its key, and no other one.
func TestPut(t *testing.T) {
	for _, table := range tables() {
		m := open[int](t, 9, table, 3)
		for v := range 5 {
			for i := range 9 {
				checkPut(t, m, name(i, 2), 10*v+i, api.OK)
				for j := range 9 {
					if j <= i {
						checkGet(t, m, name(j, 2), 10*v+j, true)
					} else {
						checkGet(t, m, name(j, 2), max(0, 10*(v-1)+j)*min(v, 1), v > 0)
					}
				}
			}
		}
	}
}

// P10.2: the zero value is a value, too.
func TestZeroValue(t *testing.T) {
	m := open[int](t, 2, words(1), 0)
	checkPut(t, m, "a", 0, api.OK)
	checkGet(t, m, "a", 0, true)
	checkPut(t, m, "b", 5, api.OK)
	checkPut(t, m, "b", 0, api.OK)
	checkGet(t, m, "b", 0, true)
	checkKeys(t, m, "a", "b")
	checkDelete(t, m, "a", 0, true)
	checkDelete(t, m, "a", 0, false)
	checkKeys(t, m, "b")
}

// P10.2: keys are compared byte by byte, and may have any bytes and any length.
func TestDifferentKeys(t *testing.T) {
	l := []string{"", "a", "A", "aa", "a\x00", "\x00a", "\x00", "\x00\x00", " ", "a ", "é", "e\u0301", "\xc3", "\xa9", "\xff", "\xfe", "\ufffd", "ab", "ba", "1", "01"}
	for c := range 256 {
		l = append(l, string([]byte{'x', byte(c)}), string([]byte{byte(c), 'x', 'y'}))
	}
	for _, n := range []int{254, 255, 256, 4096, 1 << 20} {
		l = append(l, strings.Repeat("k", n), strings.Repeat("k", n-1)+"l", "l"+strings.Repeat("k", n-1))
	}
	for _, table := range tables() {
		m := open[int](t, 1000, table, 1<<40)
		for i, key := range l {
			checkAbsent(t, m, key)
			checkPut(t, m, key, i, api.OK)
		}
		for i, key := range l {
			checkGet(t, m, key, i, true)
		}
		checkKeys(t, m, slices.Sorted(slices.Values(l))...)
		for i, key := range l {
			checkDelete(t, m, key, i, true)
			checkAbsent(t, m, key)
		}
		checkKeys(t, m)
	}
}

// P10.2 with R2: a Put without room changes nothing.
func TestErrorsChangeNothing(t *testing.T) {
	for _, table := range tables() {
		for seed := range uint64(20) {
			m := open[string](t, 4, table, seed)
			for _, key := range []string{"d", "b", "c", "a"} {
				checkPut(t, m, key, "of "+key, api.OK)
			}
			for _, key := range []string{"", "e", "aa", "0", strings.Repeat("a", 300)} {
				checkPut(t, m, key, "new", api.ErrFull)
				checkAbsent(t, m, key)
			}
			checkKeys(t, m, "a", "b", "c", "d")
			for _, key := range m.Keys() {
				checkGet(t, m, key, "of "+key, true)
			}
		}
	}
}

// P10.2: values of other types.
func TestTypes(t *testing.T) {
	type pair struct {
		name  string
		count uint64
	}
	p := open[pair](t, 2, words(1), 0)
	checkPut(t, p, "a", pair{"x", 1}, api.OK)
	checkGet(t, p, "a", pair{"x", 1}, true)
	checkAbsent(t, p, "b")
	checkDelete(t, p, "a", pair{"x", 1}, true)
	n := 5
	q := open[*int](t, 2, words(1), 0)
	checkPut(t, q, "a", &n, api.OK)
	checkPut(t, q, "b", nil, api.OK)
	checkGet(t, q, "a", &n, true)
	checkGet(t, q, "b", nil, true)
	checkGet(t, q, "c", nil, false)
	s := open[struct{}](t, 2, words(1), 0)
	checkPut(t, s, "a", struct{}{}, api.OK)
	checkGet(t, s, "a", struct{}{}, true)
	checkAbsent(t, s, "b")
	// Values that cannot be compared: functions, and interfaces with functions in them.
	f := open[func() int](t, 2, words(1), 0)
	f.Put("a", func() int { return 7 })
	f.Put("a", func() int { return 8 })
	if v, ok := f.Get("a"); !ok || v() != 8 {
		t.Error("the function is not the last one")
	}
	x := open[any](t, 2, words(1), 0)
	x.Put("a", f.Get)
	x.Put("a", 9)
	x.Put("b", nil)
	checkGet(t, x, "a", any(9), true)
	checkGet(t, x, "b", nil, true)
	checkDelete(t, x, "a", any(9), true)
	checkAbsent(t, x, "a")
	array := open[[100]int](t, 2, words(1), 0)
	checkPut(t, array, "a", [100]int{99: 1}, api.OK)
	checkGet(t, array, "a", [100]int{99: 1}, true)
	checkAbsent(t, array, "b")
}

// P10.3: no table, with keys that others could have.
func TestNil(t *testing.T) {
	var m *index.Map[int]
	for _, key := range []string{"", "a", strings.Repeat("a", 256)} {
		checkPut(t, m, key, 0, api.ErrNone)
		checkPut(t, m, key, 1, api.ErrNone)
		checkAbsent(t, m, key)
	}
	checkKeys(t, m)
	if keys := m.Keys(); keys != nil {
		t.Errorf("Keys() = %q", keys)
	}
	var p *index.Map[*int]
	checkAbsent(t, p, "a")
}

// P10.4: elements whose places are at the end and at the beginning, with every one of them deleted before the others.
func TestAllPlaces(t *testing.T) {
	keys := []string{"a", "b", "cc", "dd", "eee", "fff"}
	for seed := range uint64(300) {
		for first := range keys {
			m := open[int](t, len(keys), zeros(), seed<<32)
			for i, key := range keys {
				checkPut(t, m, key, i, api.OK)
			}
			checkDelete(t, m, keys[first], first, true)
			for i := range keys {
				if i == first {
					checkAbsent(t, m, keys[i])
				} else {
					checkGet(t, m, keys[i], i, true)
				}
			}
			for i := range keys {
				checkPut(t, m, keys[i], -i, api.OK)
			}
			for i := range keys {
				checkDelete(t, m, keys[i], -i, true)
			}
			checkKeys(t, m)
		}
	}
}

// sameHash returns n keys whose hashes are equal, or equal in their last bits only.
func sameHash(table []uint64, seed uint64, n int, bits uint64) []string {
	var keys []string
	for i := 0; len(keys) < n; i++ {
		key := strconv.Itoa(i)
		if hash.Key(table, seed, key)&bits == 0 {
			keys = append(keys, key)
		}
	}
	return keys
}

// P10.4: keys that are placed at the same few places, deleted in every order of three, among others.
func TestKeysWithTheSameHash(t *testing.T) {
	const seed = 11
	for _, table := range tables() {
		var all []string
		if hash.Key(table, seed, "a") == hash.Key(table, seed, "b") {
			all = []string{"a", "b", "c", "d", "e", "f", "g", "h"}
		} else {
			all = sameHash(table, seed, 8, 15)
		}
		for order := range 8 * 8 * 8 {
			m := open[string](t, 8, table, seed)
			for _, key := range all {
				checkPut(t, m, key, key+key, api.OK)
			}
			left := slices.Sorted(slices.Values(all))
			for _, i := range []int{order % 8, order / 8 % 8, order / 64} {
				at := slices.Index(left, all[i])
				if at < 0 {
					checkAbsent(t, m, all[i])
					continue
				}
				checkDelete(t, m, all[i], all[i]+all[i], true)
				left = slices.Delete(left, at, at+1)
				checkKeys(t, m, left...)
				for _, key := range left {
					checkGet(t, m, key, key+key, true)
				}
			}
		}
	}
}

// P10.4: the same calls return the same whatever the hash function is.
func TestHashDoesNotCount(t *testing.T) {
	random := rand.New(rand.NewSource(4))
	var all []*index.Map[int]
	for _, table := range tables() {
		for _, seed := range []uint64{0, 1, 3 << 33, math.MaxUint64} {
			all = append(all, open[int](t, 20, table, seed))
		}
	}
	for i := range 3000 {
		key, kind := keyOf(byte(random.Intn(40))), random.Intn(3)
		e := all[0].Put(key, i)
		v, ok := 0, false
		if kind == 0 {
			v, ok = all[0].Delete(key)
		}
		keys := all[0].Keys()
		for _, m := range all[1:] {
			checkPut(t, m, key, i, e)
			if kind == 0 {
				checkDelete(t, m, key, v, ok)
			}
			checkKeys(t, m, keys...)
		}
	}
}

// R4: the words of the table are those of New, and the keys returned are new.
func TestMemoryIsNotShared(t *testing.T) {
	table := words(5)
	kept := slices.Clone(table)
	m := open[int](t, 9, table, 1)
	for i := range 9 {
		checkPut(t, m, name(i, 1), i, api.OK)
	}
	if !slices.Equal(table, kept) {
		t.Fatal("the table was changed")
	}
	clear(table)
	first, second := m.Keys(), m.Keys()
	first[0] = "x"
	slices.Reverse(first)
	for i := range 9 {
		checkGet(t, m, name(i, 1), i, true)
		checkPut(t, m, name(i, 1), i, api.OK)
		if second[i] != name(i, 1) {
			t.Fatalf("the second list has %q", second[i])
		}
	}
	checkKeys(t, m, second...)
	first = append(first[:0:0], second...)
	checkDelete(t, m, "3", 3, true)
	checkPut(t, m, "y", 1, api.OK)
	if !slices.Equal(first, second) {
		t.Fatalf("later calls changed the list to %q", second)
	}
}

// R4: the table does not keep the text that a short key is a part of.
func TestArgumentsAreNotKept(t *testing.T) {
	const long, n = 1 << 20, 64
	m := open[int](t, n, words(1), 0)
	before := inUse()
	for i := range n {
		text := name(i, long)
		checkPut(t, m, text[long-8:], i, api.OK)
	}
	if after := inUse(); after > before+n*long/2 {
		t.Errorf("%d short keys keep %d bytes", n, after-before)
	}
	checkGet(t, m, name(7, 8), 7, true)
}

// The chapter's purpose: what is deleted is not kept, and the table is never enlarged.
func TestMemoryIsBounded(t *testing.T) {
	const long, n = 1 << 18, 64
	m := open[string](t, n, words(1), 0)
	before := inUse()
	for i := range 20 * n {
		if i >= n {
			checkDelete(t, m, name(i-n, 8), name(i-n, long), true)
		}
		checkPut(t, m, name(i, 8), name(i, long), api.OK)
	}
	for _, key := range m.Keys() {
		if _, ok := m.Delete(key); !ok {
			t.Fatalf("%q is not there", key)
		}
	}
	if after := inUse(); after > before+n*long/2 {
		t.Errorf("the empty table keeps %d bytes", after-before)
	}
	checkKeys(t, m)
}

// inUse returns how many bytes of memory are reachable.
func inUse() uint64 {
	runtime.GC()
	var m runtime.MemStats
	runtime.ReadMemStats(&m)
	return m.HeapAlloc
}

// R5: two tables do not know of one another.
func TestTablesAreApart(t *testing.T) {
	table := words(6)
	m, l := open[int](t, 2, table, 1), open[int](t, 3, table, 1)
	checkPut(t, m, "a", 1, api.OK)
	checkAbsent(t, l, "a")
	checkPut(t, l, "a", 2, api.OK)
	checkPut(t, l, "b", 3, api.OK)
	checkPut(t, l, "c", 4, api.OK)
	checkPut(t, m, "d", 5, api.OK)
	checkPut(t, l, "d", 6, api.ErrFull)
	checkDelete(t, m, "a", 1, true)
	checkKeys(t, m, "d")
	checkKeys(t, l, "a", "b", "c")
	checkGet(t, l, "a", 2, true)
}

// record is what the chapter's words say of a table.
type record struct {
	most   int
	values map[string]int
}

func (r *record) put(key string, v int) api.Errno {
	if _, ok := r.values[key]; !ok && len(r.values) == r.most {
		return api.ErrFull
	}
	r.values[key] = v
	return api.OK
}

// keyOf returns one of a few keys, several of each length.
func keyOf(n byte) string {
	return strings.Repeat(string([]byte{n}), int(n)%5)
}

// checkStep lets a table and its record do the same, and compares all that they say then. The numbers choose what they do.
func checkStep(t *testing.T, m *index.Map[int], r *record, kind, n byte) {
	t.Helper()
	key, v := keyOf(n), int(kind)-5
	switch kind % 5 {
	case 0, 1, 2:
		checkPut(t, m, key, v, r.put(key, v))
	default:
		want, has := r.values[key]
		checkDelete(t, m, key, want, has)
		delete(r.values, key)
	}
	for _, near := range []byte{n, n + 1, n + 5} {
		want, has := r.values[keyOf(near)]
		checkGet(t, m, keyOf(near), want, has)
	}
	checkRecord(t, m, r)
}

// checkRecord compares all keys, and their values.
func checkRecord(t *testing.T, m *index.Map[int], r *record) {
	t.Helper()
	checkKeys(t, m, slices.Sorted(maps.Keys(r.values))...)
	for key, v := range r.values {
		checkGet(t, m, key, v, true)
	}
}

// P10.2 and P10.4: long sequences of calls, against the record.
func TestByDefinition(t *testing.T) {
	random := rand.New(rand.NewSource(10))
	for _, table := range tables() {
		for _, n := range []int{1, 2, 3, 8, 40, 200} {
			for _, seed := range []uint64{0, random.Uint64()} {
				m := open[int](t, n, table, seed)
				r := &record{most: n, values: map[string]int{}}
				most := min(256, 2*n+8)
				for range 600 {
					checkStep(t, m, r, byte(random.Intn(256)), byte(random.Intn(most)))
				}
			}
		}
	}
}

// P10.2 and P10.4: sequences that the fuzzer finds.
func FuzzByDefinition(f *testing.F) {
	f.Add(byte(2), uint64(0), uint64(0), []byte{0, 1, 0, 6, 3, 1, 0, 11, 4, 6})
	f.Add(byte(4), uint64(9), uint64(1)<<35, []byte{0, 1, 0, 2, 0, 3, 0, 4, 4, 2, 0, 5})
	f.Fuzz(func(t *testing.T, n byte, word, seed uint64, calls []byte) {
		table := filled(word)
		table[n%api.TableSize] = seed
		most := int(n)%20 + 1
		m := open[int](t, most, table, seed)
		r := &record{most: most, values: map[string]int{}}
		for i := 0; i+1 < len(calls); i += 2 {
			checkStep(t, m, r, calls[i], calls[i+1])
		}
	})
}
