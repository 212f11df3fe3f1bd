package sat_test

import (
	"math"
	"math/big"
	"math/rand"
	"testing"

	"heavykeys/api"
	"heavykeys/sat"
)

const most uint64 = math.MaxUint64

func number(n uint64) *big.Int { return new(big.Int).SetUint64(n) }

// samples returns ordinary numbers and those next to each power of two, where results begin to be out of range.
func samples() []uint64 {
	l := []uint64{10, 100, 12345, 6700417, 641, 274177, 67280421310721, most / 3, most / 3 * 2, most / 5, most / 10}
	for i := 0; i < 64; i++ {
		l = append(l, uint64(1)<<i-1, uint64(1)<<i, uint64(1)<<i+1)
	}
	return append(l, most-2, most-1, most)
}

// pairs calls f with all pairs of samples and with fixed pseudo-random pairs of all magnitudes.
func pairs(f func(a, b uint64)) {
	l := samples()
	for _, a := range l {
		for _, b := range l {
			f(a, b)
		}
	}
	r := rand.New(rand.NewSource(1))
	for range 20000 {
		f(r.Uint64()>>r.Intn(64), r.Uint64()>>r.Intn(64))
	}
}

// capped returns what a checked operation has to return for its exact result.
func capped(exact *big.Int) (uint64, bool) {
	if exact.Sign() < 0 {
		return 0, false
	}
	if !exact.IsUint64() {
		return most, false
	}
	return exact.Uint64(), true
}

type result struct {
	n  uint64
	ok bool
}

func of(n uint64, ok bool) result { return result{n, ok} }

func check(t *testing.T, name string, a, b uint64, got, want result) {
	t.Helper()
	if got != want {
		t.Fatalf("%s(%d, %d) = %v, want %v", name, a, b, got, want)
	}
}

// P1.1: sums.
func TestAdd(t *testing.T) {
	for _, x := range []struct {
		a, b uint64
		want result
	}{
		{0, 0, result{0, true}},
		{2, 3, result{5, true}},
		{most, 0, result{most, true}},
		{0, most, result{most, true}},
		{most - 1, 1, result{most, true}},
		{most, 1, result{most, false}},
		{1, most, result{most, false}},
		{most, most, result{most, false}},
		{1 << 63, 1<<63 - 1, result{most, true}},
		{1 << 63, 1 << 63, result{most, false}},
	} {
		check(t, "Add", x.a, x.b, of(sat.Add(x.a, x.b)), x.want)
	}
}

// P1.1: differences.
func TestSub(t *testing.T) {
	for _, x := range []struct {
		a, b uint64
		want result
	}{
		{0, 0, result{0, true}},
		{5, 3, result{2, true}},
		{5, 5, result{0, true}},
		{3, 5, result{0, false}},
		{0, 1, result{0, false}},
		{0, most, result{0, false}},
		{most - 1, most, result{0, false}},
		{most, most, result{0, true}},
		{most, 0, result{most, true}},
	} {
		check(t, "Sub", x.a, x.b, of(sat.Sub(x.a, x.b)), x.want)
	}
}

// P1.1: products.
func TestMul(t *testing.T) {
	for _, x := range []struct {
		a, b uint64
		want result
	}{
		{0, 0, result{0, true}},
		{0, most, result{0, true}},
		{most, 0, result{0, true}},
		{6, 7, result{42, true}},
		{1, most, result{most, true}},
		{most, 1, result{most, true}},
		{2, 1<<63 - 1, result{most - 1, true}},
		{2, 1 << 63, result{most, false}},
		{1 << 32, 1<<32 - 1, result{most - 1<<32 + 1, true}},
		{1 << 32, 1 << 32, result{most, false}},
		{641, most / 641, result{most, true}},
		{641, most/641 + 1, result{most, false}},
		{274177, 67280421310721, result{most, false}},
		{most, most, result{most, false}},
	} {
		check(t, "Mul", x.a, x.b, of(sat.Mul(x.a, x.b)), x.want)
	}
}

// P1.2.
func TestFits(t *testing.T) {
	for _, x := range []struct {
		total, w uint64
		want     bool
	}{
		{0, 0, true},
		{3, 4, true},
		{0, api.MaxTotal, true},
		{0, api.MaxTotal + 1, false},
		{api.MaxTotal, 0, true},
		{api.MaxTotal, 1, false},
		{api.MaxTotal - 1, 1, true},
		{api.MaxTotal - 1, 2, false},
		{api.MaxTotal + 1, 0, false},
		{api.MaxTotal, api.MaxTotal, false},
		{api.MaxTotal + 1, api.MaxTotal - 1, false},
		{most, 0, false},
		{most, 1, false},
		{0, most, false},
		{1, most, false},
		{most, most, false},
	} {
		if got := sat.Fits(x.total, x.w); got != x.want {
			t.Errorf("Fits(%d, %d) = %v, want %v", x.total, x.w, got, x.want)
		}
	}
}

// P1.3.
func TestShare(t *testing.T) {
	for _, x := range []struct {
		total uint64
		parts int
		want  uint64
	}{
		{0, 1, 0},
		{0, 7, 0},
		{12, 4, 3},
		{11, 4, 2},
		{3, 4, 0},
		{7, 1, 7},
		{7, 0, 7},
		{7, -1, 7},
		{7, -7, 7},
		{0, 0, 0},
		{most, 0, most},
		{most, math.MinInt, most},
		{most, 1, most},
		{most, 2, 1<<63 - 1},
		{most, math.MaxInt, 2},
		{math.MaxInt - 1, math.MaxInt, 0},
	} {
		if got := sat.Share(x.total, x.parts); got != x.want {
			t.Errorf("Share(%d, %d) = %d, want %d", x.total, x.parts, got, x.want)
		}
	}
}

// P1.4: no result differs from the exact one without being reported.
func TestNothingWrapsAround(t *testing.T) {
	limit := number(api.MaxTotal)
	pairs(func(a, b uint64) {
		sum := new(big.Int).Add(number(a), number(b))
		check(t, "Add", a, b, of(sat.Add(a, b)), of(capped(sum)))
		check(t, "Sub", a, b, of(sat.Sub(a, b)), of(capped(new(big.Int).Sub(number(a), number(b)))))
		check(t, "Mul", a, b, of(sat.Mul(a, b)), of(capped(new(big.Int).Mul(number(a), number(b)))))
		if got, want := sat.Fits(a, b), sum.Cmp(limit) <= 0; got != want {
			t.Fatalf("Fits(%d, %d) = %v, want %v", a, b, got, want)
		}
	})
}

// P1.3: for all magnitudes, a share is the quotient rounded down, or the total if there are no parts.
func TestShareOfAllMagnitudes(t *testing.T) {
	pairs(func(total, n uint64) {
		parts := int(n)
		want := number(total)
		if parts > 0 {
			want.Div(want, number(n))
		}
		if got := sat.Share(total, parts); got != want.Uint64() {
			t.Fatalf("Share(%d, %d) = %d, want %d", total, parts, got, want)
		}
	})
}
