package router_test

import (
	"encoding/binary"
	"math"
	"math/rand"
	"slices"
	"strings"
	"testing"

	"heavykeys/api"
	"heavykeys/hash"
	"heavykeys/router"
)

// words returns a table of n words: first, and each of the others step more than the one before it.
func words(n int, first, step uint64) []uint64 {
	l := make([]uint64, n)
	for i := range l {
		l[i] = first + uint64(i)*step
	}
	return l
}

func zeros() []uint64 { return words(16, 0, 0) }
func small() []uint64 { return words(16, 1, 1) }
func large() []uint64 { return words(16, 0xfedcba9876543210, 0x0123456789abcdef) }

// config returns a configuration of which the router knows everything; the other fields have no valid values.
func config(shards, spread int, table []uint64, seed uint64) api.Config {
	return api.Config{Length: -1, Queue: -1, Mode: 9, Slots: -1, Shards: shards, Spread: spread, Table: table, Seed: seed}
}

// sizes returns every number of shards with every spread that it permits.
func sizes() [][2]int {
	var l [][2]int
	for shards := 1; shards <= 8; shards++ {
		for spread := 1; spread <= shards; spread++ {
			l = append(l, [2]int{shards, spread})
		}
	}
	return l
}

// valid returns configurations of all sizes, with several tables and seeds.
func valid() []api.Config {
	var l []api.Config
	for _, s := range sizes() {
		for _, seed := range []uint64{0, 9, 1 << 63, math.MaxUint64} {
			l = append(l, config(s[0], s[1], small(), seed), config(s[0], s[1], large(), seed), config(s[0], s[1], zeros(), seed))
		}
	}
	return l
}

// invalid returns configurations that differ from a valid one in what Check looks at.
func invalid() []api.Config {
	l := []api.Config{{}, config(0, 0, large(), 9), config(9, 9, nil, 9), config(-3, -5, large(), 9)}
	for _, n := range []int{math.MinInt, math.MinInt + 1, -8, -1, 0, 9, 10, 16, 1 << 32, 1<<32 + 4, math.MaxInt} {
		l = append(l, config(n, 1, large(), 9), config(n, n, large(), 9), config(4, n, large(), 9), config(8, n, large(), 9))
	}
	for shards := 1; shards <= 7; shards++ {
		l = append(l, config(shards, shards+1, large(), 9), config(shards, 8, large(), 9))
	}
	for _, n := range []int{0, 1, 8, 15, 17, 32, 64} {
		l = append(l, config(4, 3, words(n, 3, 5), 9))
	}
	return append(l, config(4, 3, words(16, 3, 5)[:15], 9), config(4, 3, words(32, 3, 5)[:17], 9))
}

// keys returns keys of many lengths, also those that no event has.
func keys() []string {
	l := []string{"", "\x00", "\x00\x00", "a", "b", "ab", "ba", "é", "\xff", "\x03app\x02x1\x04host\x01a", strings.Repeat("k", 255), strings.Repeat("k", 256), strings.Repeat("k", 5000)}
	for c := range 40 {
		l = append(l, "key"+string([]byte{byte(c * 7), byte(c)}))
	}
	return l
}

// numbers returns numbers of events, up to the greatest one.
func numbers() []int {
	l := []int{1 << 32, 1<<32 + 1, math.MaxInt - 2, math.MaxInt - 1, math.MaxInt}
	for n := range 40 {
		l = append(l, n)
	}
	return l
}

// around walks from the home over the shards as long as the set has room: the shard 0 comes after the last one.
func around(home, shards, spread int) []int {
	l := []int{home}
	for at := home; len(l) < spread; l = append(l, at) {
		at++
		if at == shards {
			at = 0
		}
	}
	return l
}

func checkCheck(t *testing.T, c api.Config, want api.Errno) {
	t.Helper()
	if e := router.Check(c); e != want {
		t.Errorf("Check(%d shards, spread %d, %d words) = %d, want %d", c.Shards, c.Spread, len(c.Table), e, want)
	}
}

func checkHome(t *testing.T, c api.Config, key string, want int) {
	t.Helper()
	if got := router.Home(c, key); got != want {
		t.Errorf("Home(%d shards, spread %d, seed %d, %.20q) = %d, want %d", c.Shards, c.Spread, c.Seed, key, got, want)
	}
}

func checkSet(t *testing.T, c api.Config, key string, want []int) {
	t.Helper()
	if got := router.Set(c, key); !slices.Equal(got, want) {
		t.Errorf("Set(%d shards, spread %d, seed %d, %.20q) = %v, want %v", c.Shards, c.Spread, c.Seed, key, got, want)
	}
}

func checkRoute(t *testing.T, c api.Config, key string, n, want int) {
	t.Helper()
	if got := router.Route(c, key, n); got != want {
		t.Errorf("Route(%d shards, spread %d, seed %d, %.20q, %d) = %d, want %d", c.Shards, c.Spread, c.Seed, key, n, got, want)
	}
}

// checkKey compares all results for a key with the words of P20.2.
func checkKey(t *testing.T, c api.Config, key string, numbers ...int) {
	t.Helper()
	home := int(hash.Key(c.Table, c.Seed, key) % uint64(c.Shards))
	set := around(home, c.Shards, c.Spread)
	checkHome(t, c, key, home)
	checkSet(t, c, key, set)
	for _, n := range numbers {
		want := home
		if n >= 0 {
			want = set[n%c.Spread]
		}
		checkRoute(t, c, key, n, want)
	}
}

// P20.1: every number of shards and every spread, next to the limits and far from them.
func TestCheckOfNumbers(t *testing.T) {
	l := []int{math.MinInt, math.MinInt + 1, -1 << 32, 1 << 32, 1<<32 + 1, math.MaxInt - 1, math.MaxInt}
	for n := -10; n <= 20; n++ {
		l = append(l, n)
	}
	for _, shards := range l {
		for _, spread := range l {
			want := api.ErrConfig
			if shards >= 1 && shards <= 8 && spread >= 1 && spread <= shards {
				want = api.OK
			}
			checkCheck(t, config(shards, spread, large(), 9), want)
			checkCheck(t, config(shards, spread, words(15, 3, 5), 9), api.ErrConfig)
		}
	}
}

// P20.1: the table has exactly TableSize words, whatever they are and whatever the seed is.
func TestCheckOfTables(t *testing.T) {
	for n := range 100 {
		want := api.ErrConfig
		if n == 16 {
			want = api.OK
		}
		checkCheck(t, config(4, 3, words(n, 3, 5), 9), want)
		checkCheck(t, config(1, 1, words(n, 0, 0), math.MaxUint64), want)
	}
	checkCheck(t, config(4, 3, words(32, 3, 5)[7:23], 9), api.OK)
}

// P20.1: all other fields may have any values.
func TestCheckOfOtherFields(t *testing.T) {
	for _, n := range []int{math.MinInt, -1, 0, 1, 9, math.MaxInt} {
		c := config(8, 8, small(), 0)
		c.Length, c.Lateness, c.Windows, c.Queue, c.Mode, c.Slots, c.Exact = n, n, n, n, n, n, n
		c.Depth, c.Width, c.Top, c.Key, c.Classes = n, n, n, n, []api.Class{{Size: n, Count: n}}
		checkCheck(t, c, api.OK)
	}
}

// P20.1 and P20.2: all of the invalid configurations, and the zero values that they lead to.
func TestInvalid(t *testing.T) {
	for _, c := range invalid() {
		checkCheck(t, c, api.ErrConfig)
		for _, key := range keys() {
			checkHome(t, c, key, 0)
			checkSet(t, c, key, nil)
			for _, n := range []int{math.MinInt, -1, 0, 1, 2, 3, 7, math.MaxInt} {
				checkRoute(t, c, key, n, 0)
			}
		}
	}
}

// P20.2: the chapter's example: with zeros in the table and the seed 2, the empty key has the number 2.
func TestExample(t *testing.T) {
	c := config(4, 3, zeros(), 2)
	checkHome(t, c, "", 2)
	checkSet(t, c, "", []int{2, 3, 0})
	for n, want := range map[int]int{0: 2, 1: 3, 2: 0, 3: 2, 7: 3, 8: 0, -1: 2, -2: 2, -3: 2, math.MinInt: 2} {
		checkRoute(t, c, "", n, want)
	}
}

// P20.2: every home with every size, by a seed that is the number of the empty key.
func TestEveryHome(t *testing.T) {
	for _, s := range sizes() {
		for home := range s[0] {
			c := config(s[0], s[1], zeros(), uint64(home))
			set := around(home, s[0], s[1])
			checkHome(t, c, "", home)
			checkSet(t, c, "", set)
			for n := range 3 * s[1] {
				checkRoute(t, c, "", n, set[n%s[1]])
				checkRoute(t, c, "", -n-1, home)
			}
		}
	}
}

// P20.2: the set goes on with the shard 0 exactly behind the last shard.
func TestAroundTheEnd(t *testing.T) {
	for _, x := range []struct {
		shards, spread int
		home           uint64
		want           []int
	}{
		{1, 1, 0, []int{0}},
		{2, 1, 1, []int{1}},
		{2, 2, 0, []int{0, 1}},
		{2, 2, 1, []int{1, 0}},
		{3, 2, 1, []int{1, 2}},
		{3, 2, 2, []int{2, 0}},
		{3, 3, 2, []int{2, 0, 1}},
		{8, 1, 7, []int{7}},
		{8, 2, 6, []int{6, 7}},
		{8, 2, 7, []int{7, 0}},
		{8, 8, 0, []int{0, 1, 2, 3, 4, 5, 6, 7}},
		{8, 8, 1, []int{1, 2, 3, 4, 5, 6, 7, 0}},
		{8, 8, 7, []int{7, 0, 1, 2, 3, 4, 5, 6}},
		{8, 5, 5, []int{5, 6, 7, 0, 1}},
	} {
		checkSet(t, config(x.shards, x.spread, zeros(), x.home), "", x.want)
	}
}

// P20.2: homes by numbers that were computed apart from package hash: its table, its seed and all 64 bits of the number count.
func TestHome(t *testing.T) {
	for _, x := range []struct {
		table []uint64
		seed  uint64
		key   string
		hash  uint64
	}{
		{zeros(), 0, "a", 0},
		{zeros(), 1 << 32, "", 1<<32 + 1},
		{zeros(), 1 << 63, "", 1<<63 + 1<<31},
		{zeros(), 1, "a", 8618649389627000820},
		{zeros(), 1, "ab", 8023975831514897260},
		{small(), 0, "a", 18345690917049974042},
		{small(), 0, "ab", 13717267191570755849},
		{small(), 0, "ba", 11958030872087411139},
		{small(), 0, "\xff", 11476693105807003330},
		{large(), 0, "\x03app\x02x1\x04host\x01a", 17520056646957233804},
		{large(), 0xdeadbeefcafef00d, "\x03app\x02x1\x04host\x01a", 6371199859076805182},
		{large(), 1 << 63, "\xff\xfe\x00", 11374151516937505897},
		{large(), math.MaxUint64, "\xff", 3622789693202240821},
	} {
		for _, s := range sizes() {
			checkHome(t, config(s[0], s[1], x.table, x.seed), x.key, int(x.hash%uint64(s[0])))
		}
	}
}

// P20.2: the words of the chapter for configurations and keys of all kinds.
func TestByDefinition(t *testing.T) {
	all := append(numbers(), math.MinInt, math.MinInt+1, -1<<32, -8, -3, -2, -1)
	for _, c := range valid() {
		checkCheck(t, c, api.OK)
		for _, key := range keys() {
			checkKey(t, c, key, all...)
		}
	}
	r := rand.New(rand.NewSource(20))
	for range 5000 {
		table := make([]uint64, 16)
		for i := range table {
			table[i] = r.Uint64() >> r.Intn(64)
		}
		shards := 1 + r.Intn(8)
		key := make([]byte, r.Intn(60))
		r.Read(key)
		checkKey(t, config(shards, 1+r.Intn(shards), table, r.Uint64()), string(key), int(r.Uint64()>>r.Intn(64)), r.Int())
	}
}

// checkApart checks P20.3 for one key: every shard of its set is there once, and is the target of one of Spread numbers from first on.
func checkApart(t *testing.T, c api.Config, key string, first int) {
	t.Helper()
	inSet, routed := make(map[int]int), make(map[int]int)
	for _, shard := range router.Set(c, key) {
		inSet[shard]++
	}
	for n := range c.Spread {
		routed[router.Route(c, key, first+n)]++
	}
	if len(inSet) != c.Spread || len(routed) != c.Spread {
		t.Errorf("%d shards, spread %d: a set of %d shards, and %d targets", c.Shards, c.Spread, len(inSet), len(routed))
	}
	for shard, times := range routed {
		if shard < 0 || shard >= c.Shards || times != 1 || inSet[shard] != 1 {
			t.Errorf("%d shards, spread %d: the shard %d is %d times in the set, and %d times a target", c.Shards, c.Spread, shard, inSet[shard], times)
		}
	}
}

// P20.3: the shards of a set differ, and consecutive numbers lead to each of them once.
func TestApart(t *testing.T) {
	for _, c := range valid() {
		for _, key := range keys()[:20] {
			for _, first := range numbers() {
				checkApart(t, c, key, min(first, math.MaxInt-c.Spread+1))
			}
		}
	}
}

// P20.2 and R5: keys have homes on all shards, and the homes do not depend on Spread, on the other fields or on earlier calls.
func TestHomesDependOnTableAndSeed(t *testing.T) {
	homes := make(map[int]bool)
	for _, key := range keys() {
		home := router.Home(config(8, 1, large(), 9), key)
		homes[home] = true
		checkHome(t, config(8, 8, large(), 9), key, home)
		checkHome(t, api.Config{Shards: 8, Spread: 3, Table: large(), Seed: 9, Top: 7}, key, home)
	}
	if len(homes) != 8 {
		t.Errorf("%d of 8 shards are homes", len(homes))
	}
}

// R4: the table is not changed, and a set shares no memory with another one, also if it grows.
func TestMemoryIsNotShared(t *testing.T) {
	c := config(8, 5, large(), 9)
	want := slices.Clone(router.Set(c, "a"))
	first, second := router.Set(c, "a"), router.Set(c, "a")
	for i := range first {
		first[i] = 99
	}
	_ = append(first, 98, 97, 96)
	if !slices.Equal(second, want) {
		t.Errorf("the set is %v after a change of another one, and was %v", second, want)
	}
	checkSet(t, c, "a", want)
	for n := range 5 {
		checkRoute(t, c, "a", n, want[n])
	}
	if !slices.Equal(c.Table, large()) {
		t.Error("the table was changed")
	}
	for _, c := range valid() {
		if set := router.Set(c, "a"); cap(set) != len(set) {
			t.Errorf("a set of %d shards has room for %d", len(set), cap(set))
		}
	}
}

// P20.1 to P20.3: configurations, keys and numbers that the fuzzer finds.
func FuzzByDefinition(f *testing.F) {
	f.Add(4, 3, 1, []byte("\x01\x02\x03"), uint64(2), "", 7)
	f.Add(8, 9, 0, []byte{}, uint64(0), "a", -1)
	f.Add(8, 8, 1, []byte("abcdefgh"), uint64(math.MaxUint64), "\x03app\x02x1", math.MaxInt)
	f.Fuzz(func(t *testing.T, shards, spread, size int, seeds []byte, seed uint64, key string, n int) {
		// Small numbers only, so that many of the configurations are valid.
		shards, spread = shards%11, spread%11
		table := make([]uint64, 15+uint(size)%3)
		for i := range table {
			table[i] = binary.LittleEndian.Uint64(slices.Concat(seeds[min(i, len(seeds)):], make([]byte, 8)))
		}
		c := config(shards, spread, table, seed)
		if shards < 1 || shards > 8 || spread < 1 || spread > shards || len(table) != 16 {
			checkCheck(t, c, api.ErrConfig)
			checkHome(t, c, key, 0)
			checkSet(t, c, key, nil)
			checkRoute(t, c, key, n, 0)
			return
		}
		checkCheck(t, c, api.OK)
		checkKey(t, c, key, n)
		checkApart(t, c, key, min(max(n, 0), math.MaxInt-spread+1))
	})
}
