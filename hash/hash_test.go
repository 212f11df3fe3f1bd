package hash_test

import (
	"bytes"
	"encoding/binary"
	"math"
	"math/big"
	"math/rand"
	"slices"
	"strings"
	"sync"
	"testing"

	"heavykeys/api"
	"heavykeys/hash"
)

const most uint64 = math.MaxUint64

const twoTags = "\x03app\x02x1\x04host\x01a"

// words returns a table of n words: first, and each of the others step more than the one before it.
func words(n int, first, step uint64) []uint64 {
	l := make([]uint64, n)
	for i := range l {
		l[i] = first + uint64(i)*step
	}
	return l
}

func zeros() []uint64 { return words(16, 0, 0) }
func small() []uint64 { return words(16, 1, 1) }
func large() []uint64 { return words(16, 0xfedcba9876543210, 0x0123456789abcdef) }
func full() []uint64  { return words(16, most, 0) }

// wrongTables returns tables that do not have 16 words, also as parts of longer ones.
func wrongTables() [][]uint64 {
	l := [][]uint64{nil, {}}
	for _, n := range []int{1, 2, 8, 14, 15, 17, 18, 31, 32, 64, 256, 1000} {
		l = append(l, words(n, 3, 5))
	}
	return append(l, words(16, 3, 5)[:15], words(32, 3, 5)[:17])
}

// keys returns keys of every length up to a little more than the greatest that a configuration may have, and keys that show the value of each byte.
func keys() []string {
	l := []string{"", "ab", "ba", "aab", "aba", "a\x00", "\x00a", "\x00\x00", "é", "\xc3", "\xff\xfe\x00", "日本", twoTags}
	for c := range 256 {
		l = append(l, string([]byte{byte(c)}), string([]byte{byte(c), 'x'}), string([]byte{'x', byte(c)}))
	}
	long := make([]byte, 300)
	for i := range long {
		long[i] = byte(i*37 + i/256)
		l = append(l, string(long[:i+1]))
	}
	return l
}

func seeds() []uint64 {
	l := []uint64{0, 1, 9, most, 0xdeadbeefcafef00d}
	for i := range 64 {
		l = append(l, uint64(1)<<i)
	}
	return l
}

func rows() []int {
	l := []int{-1, -2, -3, -1000, math.MinInt, math.MinInt + 1, math.MaxInt - 1, math.MaxInt, 1 << 32, -1 << 32}
	for n := range 20 {
		l = append(l, n)
	}
	return l
}

func number(n uint64) *big.Int { return new(big.Int).SetUint64(n) }

// wrapped returns n modulo 2^64, which is never negative.
func wrapped(n *big.Int) *big.Int {
	return n.Mod(n, new(big.Int).Lsh(big.NewInt(1), 64))
}

// turned is a rotation to the left as the digits of the base 2: k of them move from the front to the end.
func turned(h *big.Int, k int) *big.Int {
	digits := h.Text(2)
	digits = strings.Repeat("0", 64-len(digits)) + digits
	n, _ := new(big.Int).SetString(digits[k:]+digits[:k], 2)
	return n
}

// expected is P7.2 in its own words, with numbers of any size.
func expected(table []uint64, seed uint64, key string) uint64 {
	if len(table) != 16 {
		return 0
	}
	factor, _ := new(big.Int).SetString("11400714819323198485", 10)
	h := number(seed)
	for _, b := range []byte(key) {
		h = turned(h, 5)
		h.Xor(h, number(table[b/16]))
		h = turned(h, 7)
		h = wrapped(h.Add(h, number(table[b%16])))
		h = wrapped(h.Mul(h, factor))
	}
	high := new(big.Int).Div(h, number(1<<32))
	return h.Xor(h, high).Uint64()
}

// seedOf is the s of P7.3, with numbers of any size.
func seedOf(seed uint64, row int) uint64 {
	step, _ := new(big.Int).SetString("15111065706836454659", 10)
	n := big.NewInt(int64(row))
	n.Add(n, big.NewInt(1)).Mul(n, step).Add(n, number(seed))
	return wrapped(n).Uint64()
}

func checkKey(t *testing.T, table []uint64, seed uint64, key string, want uint64) {
	t.Helper()
	if got := hash.Key(table, seed, key); got != want {
		t.Fatalf("Key(%v, %d, %q) = %d, want %d", table, seed, key, got, want)
	}
}

func checkRow(t *testing.T, table []uint64, seed uint64, row int, key string, want uint64) {
	t.Helper()
	if got := hash.Row(table, seed, row, key); got != want {
		t.Fatalf("Row(%v, %d, %d, %q) = %d, want %d", table, seed, row, key, got, want)
	}
}

// P7.1: a table has 16 words, whatever they are.
func TestCheck(t *testing.T) {
	for n := range 300 {
		want := api.ErrConfig
		if n == 16 {
			want = api.OK
		}
		if got := hash.Check(words(n, 7, 3)); got != want {
			t.Errorf("Check of %d words = %d, want %d", n, got, want)
		}
	}
	for _, table := range wrongTables() {
		if got := hash.Check(table); got != api.ErrConfig {
			t.Errorf("Check of %d words = %d, want %d", len(table), got, api.ErrConfig)
		}
	}
	for _, table := range [][]uint64{zeros(), small(), large(), full(), words(64, 1, 1)[5:21]} {
		if got := hash.Check(table); got != api.OK {
			t.Errorf("Check(%v) = %d, want %d", table, got, api.OK)
		}
	}
}

// P7.2: numbers that were computed apart from the package and its tests.
func TestKey(t *testing.T) {
	for _, x := range []struct {
		table []uint64
		seed  uint64
		key   string
		want  uint64
	}{
		{zeros(), 0, "", 0},
		{zeros(), 0, "a", 0},
		{zeros(), 0, twoTags, 0},
		{zeros(), 1 << 32, "", 1<<32 + 1},
		{zeros(), 1, "", 1},
		{zeros(), 1 << 63, "", 1<<63 + 1<<31},
		{zeros(), most, "", most - (1<<32 - 1)},
		{large(), 1 << 32, "", 1<<32 + 1},
		{zeros(), 1, "a", 8618649389627000820},
		{zeros(), 1, "ab", 8023975831514897260},
		{zeros(), 1, twoTags, 8534700008535149517},
		{zeros(), 1 << 63, "a", 13532696733815759866},
		{zeros(), most, "a", 7046029256010040749},
		{small(), 0, "a", 18345690917049974042},
		{small(), 0, "\x00", 13399429871667302636},
		{small(), 0, "\x01", 6353400616730546840},
		{small(), 0, "\x10", 15398144917045223981},
		{small(), 0, "\xff", 11476693105807003330},
		{small(), 0, "ab", 13717267191570755849},
		{small(), 0, "ba", 11958030872087411139},
		{small(), 0, "\xc3\xa9", 4939049214094620450},
		{large(), 0, twoTags, 17520056646957233804},
		{large(), 0xdeadbeefcafef00d, twoTags, 6371199859076805182},
		{large(), 1 << 63, "\xff\xfe\x00", 11374151516937505897},
		{large(), most, "\xff", 3622789693202240821},
		{full(), 0, "a", 14092058512020081499},
		{full(), most, "a", 7046029256010040749},
		{full(), 1, "\xff\xfe\x00", 8668857576953405510},
	} {
		checkKey(t, x.table, x.seed, x.key, x.want)
	}
}

// P7.2: with zeros in the table, a seed of 0 stays 0 for every key.
func TestKeyOfZeros(t *testing.T) {
	for _, key := range keys() {
		checkKey(t, zeros(), 0, key, 0)
	}
}

// P7.2: the definition for all bytes, all lengths of keys, and all bits of the seed.
func TestKeyByDefinition(t *testing.T) {
	for _, key := range keys() {
		for _, table := range [][]uint64{zeros(), small(), large(), full()} {
			checkKey(t, table, 9, key, expected(table, 9, key))
		}
	}
	for _, seed := range seeds() {
		for _, key := range []string{"", "a", "ab", "\x00", "\xff", twoTags} {
			checkKey(t, large(), seed, key, expected(large(), seed, key))
		}
	}
}

// P7.2: the definition for tables of fixed pseudo-random words.
func TestKeyOfRandomTables(t *testing.T) {
	r := rand.New(rand.NewSource(7))
	for range 3000 {
		table := make([]uint64, 16)
		for i := range table {
			table[i] = r.Uint64() >> r.Intn(64)
		}
		key := make([]byte, r.Intn(40))
		r.Read(key)
		seed := r.Uint64() >> r.Intn(64)
		checkKey(t, table, seed, string(key), expected(table, seed, string(key)))
	}
}

// P7.2: the only word that is not 0 counts for the bytes whose high or low half is its place, and for no others.
func TestKeyUsesTheWordsOfItsBytes(t *testing.T) {
	for i := range 16 {
		table := zeros()
		table[i] = 1
		for c := range 256 {
			got := hash.Key(table, 0, string([]byte{byte(c)}))
			if want := c/16 == i || c%16 == i; (got != 0) != want {
				t.Errorf("with the word %d, the byte %d has the number %d", i, c, got)
			}
		}
	}
}

// P7.2: a key far beyond the greatest one of a configuration is hashed as any other.
func TestKeyThatIsLong(t *testing.T) {
	long := strings.Repeat(twoTags, 400)
	checkKey(t, large(), 3, long, expected(large(), 3, long))
	table := small()
	for _, key := range []string{strings.Repeat("a", 1<<20), strings.Repeat("\xff", 1<<20)} {
		if hash.Key(table, 3, key) == hash.Key(table, 3, key[1:]) {
			t.Errorf("the last of %d bytes does not count", len(key))
		}
	}
}

// P7.2 and P7.3: a table that is not valid gives 0 for every key.
func TestWrongTables(t *testing.T) {
	for _, table := range wrongTables() {
		for _, key := range []string{"", "a", "\xff", twoTags} {
			for _, seed := range []uint64{0, 5, 1 << 32, most} {
				checkKey(t, table, seed, key, 0)
				for _, row := range []int{0, 3, -1, math.MinInt, math.MaxInt} {
					checkRow(t, table, seed, row, key, 0)
				}
			}
		}
	}
}

// P7.3: numbers that were computed apart from the package and its tests.
func TestRow(t *testing.T) {
	const host = "\x04host\x01a"
	for _, x := range []struct {
		table []uint64
		seed  uint64
		row   int
		key   string
		want  uint64
	}{
		{large(), 9, 0, host, 18403312895252559442},
		{large(), 9, 1, host, 7775092335964612302},
		{large(), 9, 2, host, 2445538749917158975},
		{large(), 9, 3, host, 13803657307788168123},
		{large(), 9, -1, host, 467615297799030220},
		{large(), 9, -2, host, 4880447413442436364},
		{large(), 9, math.MaxInt, host, 5788820230463770256},
		{large(), 9, math.MinInt, host, 8919649573791750856},
		{small(), most, 0, "a", 12029283382643476321},
		{small(), most, 3, "a", 18013472319254589241},
		{small(), most, math.MaxInt, "a", 2323756808961273364},
		{large(), 9, 0, "", 15111065703322986302},
		{large(), 9, 1, "", 11775387337231388266},
		{large(), 9, -1, "", 9},
	} {
		checkRow(t, x.table, x.seed, x.row, x.key, x.want)
	}
}

// P7.3: the seed of a row, for ordinary and for extreme rows and seeds.
func TestRowByDefinition(t *testing.T) {
	for _, row := range rows() {
		for _, seed := range seeds() {
			s := seedOf(seed, row)
			for _, key := range []string{"", "a", twoTags} {
				checkRow(t, large(), seed, row, key, hash.Key(large(), s, key))
			}
			checkRow(t, small(), seed, row, "ab", expected(small(), s, "ab"))
		}
	}
}

// P7.4: the remainder, or 0 if there is no place.
func TestSlot(t *testing.T) {
	for _, x := range []struct {
		h    uint64
		n    int
		want int
	}{
		{10, 3, 1},
		{9, 3, 0},
		{2, 3, 2},
		{0, 3, 0},
		{5, 5, 0},
		{4, 5, 4},
		{0, 1, 0},
		{5, 1, 0},
		{most, 1, 0},
		{most, 2, 1},
		{most, 10, 5},
		{most, 256, 255},
		{1 << 63, 10, 8},
		{1 << 63, 7, 1},
		{most, math.MaxInt, 1},
		{1<<63 - 1, math.MaxInt, 0},
		{1<<63 - 2, math.MaxInt, math.MaxInt - 1},
		{0, 0, 0},
		{5, 0, 0},
		{most, 0, 0},
		{5, -1, 0},
		{5, -2, 0},
		{5, -3, 0},
		{most, -1, 0},
		{most, -10, 0},
		{5, math.MinInt, 0},
		{most, math.MinInt, 0},
		{1 << 63, math.MinInt, 0},
	} {
		if got := hash.Slot(x.h, x.n); got != x.want {
			t.Errorf("Slot(%d, %d) = %d, want %d", x.h, x.n, got, x.want)
		}
	}
}

// P7.4: for all magnitudes, the remainder of big numbers.
func TestSlotOfAllMagnitudes(t *testing.T) {
	r := rand.New(rand.NewSource(8))
	for range 20000 {
		h, n := r.Uint64()>>r.Intn(64), int(r.Uint64()>>r.Intn(64))
		var want uint64
		if n > 0 {
			want = new(big.Int).Mod(number(h), big.NewInt(int64(n))).Uint64()
		}
		if got := hash.Slot(h, n); uint64(got) != want {
			t.Fatalf("Slot(%d, %d) = %d, want %d", h, n, got, want)
		}
	}
}

// sample returns results of all functions for one key.
func sample(table []uint64, seed uint64, key string) [5]uint64 {
	h := hash.Key(table, seed, key)
	return [5]uint64{
		uint64(hash.Check(table)),
		h,
		hash.Row(table, seed, 0, key),
		hash.Row(table, seed, 3, key),
		uint64(hash.Slot(h, 10)),
	}
}

// P7.5: neither the calls before, nor where the arguments lie, nor what lies beside them counts.
func TestResultsDependOnTheArgumentsOnly(t *testing.T) {
	want := sample(large(), 9, twoTags)
	for _, key := range keys() {
		sample(small(), 5, key)
		sample(nil, 5, key)
		if got := sample(large(), 9, twoTags); got != want {
			t.Fatalf("after the key %q: %d, want %d", key, got, want)
		}
	}
	memory := slices.Concat(full(), large(), full())
	text := strings.Repeat(twoTags, 3)
	part := text[len(twoTags) : 2*len(twoTags)]
	if got := sample(memory[16:32], 9, part); got != want {
		t.Errorf("parts of longer arguments: %d, want %d", got, want)
	}
}

// P7.5 with R4: the table is not changed, and what it becomes after a call counts in the next call only.
func TestTheTableIsNotKept(t *testing.T) {
	table := large()
	want := sample(table, 9, twoTags)
	if !slices.Equal(table, large()) {
		t.Fatalf("the table is %v", table)
	}
	copy(table, small())
	if got := sample(table, 9, twoTags); got != sample(small(), 9, twoTags) || got == want {
		t.Errorf("with another table: %d", got)
	}
	copy(table, large())
	if got := sample(table, 9, twoTags); got != want {
		t.Errorf("with the first table again: %d, want %d", got, want)
	}
}

// P7.5: calls at the same time do not disturb one another.
func TestCallsAtTheSameTime(t *testing.T) {
	l := keys()
	var all sync.WaitGroup
	for worker := range 8 {
		all.Go(func() {
			table, seed := words(16, uint64(worker), 77), uint64(worker)
			for _, key := range l {
				if got, want := hash.Key(table, seed, key), expected(table, seed, key); got != want {
					t.Errorf("Key(%v, %d, %q) = %d, want %d", table, seed, key, got, want)
				}
			}
		})
	}
	all.Wait()
}

// P7.2, P7.3 and P7.4: any table, seed, row, key and number of places.
func FuzzByDefinition(f *testing.F) {
	f.Add([]byte{}, uint64(0), 0, "", 0)
	f.Add(bytes.Repeat([]byte{255}, 128), most, -1, "\xff", 1)
	f.Add(bytes.Repeat([]byte{1, 200, 3}, 43), uint64(9), math.MaxInt, twoTags, math.MinInt)
	f.Add(bytes.Repeat([]byte{9}, 120), uint64(9), 2, "a", math.MaxInt)
	f.Fuzz(func(t *testing.T, memory []byte, seed uint64, row int, key string, n int) {
		table := make([]uint64, len(memory)/8)
		for i := range table {
			table[i] = binary.LittleEndian.Uint64(memory[8*i:])
		}
		h := expected(table, seed, key)
		checkKey(t, table, seed, key, h)
		checkRow(t, table, seed, row, key, expected(table, seedOf(seed, row), key))
		want := 0
		if n > 0 {
			want = int(h % uint64(n))
		}
		if got := hash.Slot(h, n); got != want {
			t.Errorf("Slot(%d, %d) = %d, want %d", h, n, got, want)
		}
	})
}
