package varint_test

import (
	"bytes"
	"math"
	"math/big"
	"math/rand"
	"slices"
	"testing"

	"heavykeys/api"
	"heavykeys/varint"
)

const most uint64 = math.MaxUint64

// numbers returns small numbers, those next to each power of two, where the number of groups changes, and fixed pseudo-random ones of all magnitudes.
func numbers() []uint64 {
	l := []uint64{300, 12345, most - 1, most}
	for n := range uint64(1000) {
		l = append(l, n)
	}
	for i := range 64 {
		l = append(l, uint64(1)<<i-1, uint64(1)<<i, uint64(1)<<i+1)
	}
	r := rand.New(rand.NewSource(2))
	for range 20000 {
		l = append(l, r.Uint64()>>r.Intn(64))
	}
	return l
}

// groups returns the bytes of n by division of big numbers, without the package.
func groups(n uint64) []byte {
	var out []byte
	rest, base, digit := new(big.Int).SetUint64(n), big.NewInt(128), new(big.Int)
	for {
		rest.DivMod(rest, base, digit)
		if rest.Sign() == 0 {
			return append(out, byte(digit.Int64()))
		}
		out = append(out, byte(digit.Int64()+128))
	}
}

// expected returns what Read has to return, from the words of P2.2.
func expected(b []byte) result {
	head := b[:min(len(b), 10)]
	last := slices.IndexFunc(head, func(c byte) bool { return c < 128 })
	if last < 0 && len(b) < 10 {
		return result{e: api.ErrShort}
	}
	if last < 0 {
		return result{e: api.ErrForm}
	}
	n := new(big.Int)
	for i := last; i >= 0; i-- {
		n.Mul(n, big.NewInt(128)).Add(n, big.NewInt(int64(head[i]%128)))
	}
	if !n.IsUint64() || last > 0 && head[last] == 0 {
		return result{e: api.ErrForm}
	}
	return result{n.Uint64(), last + 1, api.OK}
}

type result struct {
	n    uint64
	used int
	e    api.Errno
}

func of(n uint64, used int, e api.Errno) result { return result{n, used, e} }

func check(t *testing.T, b []byte, want result) {
	t.Helper()
	if got := of(varint.Read(b)); got != want {
		t.Fatalf("Read(%v) = %v, want %v", b, got, want)
	}
}

// row returns n times the byte c, and then the bytes of tail.
func row(n int, c byte, tail ...byte) []byte {
	return append(bytes.Repeat([]byte{c}, n), tail...)
}

var table = []struct {
	n     uint64
	bytes []byte
}{
	{0, []byte{0}},
	{1, []byte{1}},
	{127, []byte{127}},
	{128, []byte{128, 1}},
	{129, []byte{129, 1}},
	{255, []byte{255, 1}},
	{256, []byte{128, 2}},
	{300, []byte{172, 2}},
	{1<<14 - 1, []byte{255, 127}},
	{1 << 14, []byte{128, 128, 1}},
	{1<<21 - 1, []byte{255, 255, 127}},
	{1 << 21, []byte{128, 128, 128, 1}},
	{1<<63 - 1, row(8, 255, 127)},
	{1 << 63, row(9, 128, 1)},
	{1<<64 - 1, row(9, 255, 1)},
}

// P2.1: the bytes of a number, and how many there are.
func TestBytes(t *testing.T) {
	for _, x := range table {
		if got := varint.Append(nil, x.n); !bytes.Equal(got, x.bytes) {
			t.Errorf("Append(nil, %d) = %v, want %v", x.n, got, x.bytes)
		}
		if got := varint.Size(x.n); got != len(x.bytes) {
			t.Errorf("Size(%d) = %d, want %d", x.n, got, len(x.bytes))
		}
	}
}

// P2.1: for numbers of all magnitudes, the groups are the digits of the base 128.
func TestBytesOfAllMagnitudes(t *testing.T) {
	for _, n := range numbers() {
		want := groups(n)
		if got := varint.Append(nil, n); !bytes.Equal(got, want) {
			t.Fatalf("Append(nil, %d) = %v, want %v", n, got, want)
		}
		if got := varint.Size(n); got != len(want) {
			t.Fatalf("Size(%d) = %d, want %d", n, got, len(want))
		}
	}
}

// P2.1: a number follows what is there already, whatever that is.
func TestAppendKeepsWhatIsThere(t *testing.T) {
	for _, b := range [][]byte{nil, {}, {7}, {0, 0}, {128, 255}, row(300, 200)} {
		for _, x := range table {
			want := slices.Concat(b, x.bytes)
			if got := varint.Append(b, x.n); !bytes.Equal(got, want) {
				t.Errorf("Append(%v, %d) = %v, want %v", b, x.n, got, want)
			}
		}
	}
}

// P2.1 with R4: neither the argument, nor what lies behind it, nor an earlier result is changed by a call or through its result.
func TestAppendSharesNoMemory(t *testing.T) {
	memory := bytes.Repeat([]byte{9}, 32)
	first := varint.Append(memory[:2], 1<<63)
	second := varint.Append(memory[:2], 300)
	if !bytes.Equal(first, slices.Concat([]byte{9, 9}, row(9, 128, 1))) {
		t.Errorf("the second call changed the first result to %v", first)
	}
	for _, out := range [][]byte{first, second} {
		out = out[:cap(out)]
		for i := range out {
			out[i] = 77
		}
	}
	if !bytes.Equal(memory, bytes.Repeat([]byte{9}, 32)) {
		t.Errorf("the memory of the argument is %v", memory)
	}

	whole := varint.Append(nil, 5)
	a, b := varint.Append(whole, 1), varint.Append(whole, 2)
	if !bytes.Equal(a, []byte{5, 1}) || !bytes.Equal(b, []byte{5, 2}) {
		t.Errorf("two numbers after the same bytes give %v and %v", a, b)
	}
}

// P2.2: numbers at the beginning of bytes, alone and with others behind them.
func TestRead(t *testing.T) {
	for _, x := range table {
		want := result{n: x.n, used: len(x.bytes)}
		check(t, x.bytes, want)
		for _, tail := range [][]byte{{0}, {1}, {128}, {255, 255}, row(12, 128), row(12, 0)} {
			check(t, slices.Concat(x.bytes, tail), want)
		}
	}
}

// P2.2: bytes that are not a number.
func TestReadErrors(t *testing.T) {
	for _, x := range []struct {
		b []byte
		e api.Errno
	}{
		{nil, api.ErrShort},
		{[]byte{}, api.ErrShort},
		{[]byte{128}, api.ErrShort},
		{[]byte{255}, api.ErrShort},
		{[]byte{172, 130}, api.ErrShort},
		{row(8, 128), api.ErrShort},
		{row(9, 128), api.ErrShort},
		{row(9, 255), api.ErrShort},
		{row(10, 128), api.ErrForm},
		{row(10, 255), api.ErrForm},
		{row(10, 128, 0), api.ErrForm},
		{row(10, 128, 1), api.ErrForm},
		{row(11, 255), api.ErrForm},
		{row(200, 128), api.ErrForm},
		{[]byte{128, 0}, api.ErrForm},
		{[]byte{255, 0}, api.ErrForm},
		{[]byte{128, 0, 5}, api.ErrForm},
		{[]byte{129, 128, 0}, api.ErrForm},
		{row(8, 255, 0), api.ErrForm},
		{row(9, 255, 0), api.ErrForm},
		{row(9, 128, 0), api.ErrForm},
		{row(9, 128, 2), api.ErrForm},
		{row(9, 255, 2), api.ErrForm},
		{row(9, 128, 3), api.ErrForm},
		{row(9, 128, 64), api.ErrForm},
		{row(9, 255, 127), api.ErrForm},
		{row(9, 128, 127, 1), api.ErrForm},
	} {
		check(t, x.b, result{e: x.e})
	}
}

// P2.2: every beginning of a number lacks bytes.
func TestReadOfBeginnings(t *testing.T) {
	for _, n := range numbers() {
		b := varint.Append(nil, n)
		for i := range b {
			check(t, b[:i], result{e: api.ErrShort})
		}
	}
}

// P2.2: all pieces of up to two bytes, and longer ones of bytes at the edges, as the words of the promise say.
func TestReadOfAllForms(t *testing.T) {
	for i := range 256 {
		check(t, []byte{byte(i)}, expected([]byte{byte(i)}))
		for j := range 256 {
			b := []byte{byte(i), byte(j)}
			check(t, b, expected(b))
		}
	}
	edges := []byte{0, 1, 2, 126, 127, 128, 129, 130, 254, 255}
	r := rand.New(rand.NewSource(3))
	for range 50000 {
		b := row(r.Intn(13), edges[5+r.Intn(5)])
		for range r.Intn(5) {
			b = append(b, edges[r.Intn(len(edges))])
		}
		check(t, b, expected(b))
	}
}

// P2.2 with R4: bytes are read, not changed, and none behind the slice is looked at.
func TestReadKeepsItsArgument(t *testing.T) {
	b := row(9, 255, 1, 200)
	before := slices.Clone(b)
	varint.Read(b)
	check(t, b[:3], result{e: api.ErrShort})
	if !bytes.Equal(b, before) {
		t.Errorf("Read changed its argument to %v", b)
	}
}

// P2.3: a number is read back from what Append wrote, whatever follows it.
func TestNumbersAreReadBack(t *testing.T) {
	r := rand.New(rand.NewSource(4))
	for _, n := range numbers() {
		b := varint.Append(nil, n)
		want := result{n: n, used: len(b)}
		check(t, b, want)
		tail := make([]byte, r.Intn(20))
		r.Read(tail)
		check(t, append(b, tail...), want)
	}
}

// P2.3: many numbers, one after another, are read back one by one.
func TestSequencesAreReadBack(t *testing.T) {
	var b []byte
	l := numbers()[:1200]
	for _, n := range l {
		b = varint.Append(b, n)
	}
	for i, n := range l {
		got, used, e := varint.Read(b)
		if got != n || e != api.OK {
			t.Fatalf("number %d is %d with the error %d, want %d", i, got, e, n)
		}
		b = b[used:]
	}
	if len(b) != 0 {
		t.Errorf("%d bytes are left", len(b))
	}
}

// P2.3: bytes that are read as a number are the only ones that are read as this number.
func FuzzOneEncodingOnly(f *testing.F) {
	for _, x := range table {
		f.Add(x.bytes)
		// The same number with a group too many, and the number with its highest bits lost.
		long := slices.Clone(x.bytes)
		long[len(long)-1] |= 128
		f.Add(append(long, 0))
		f.Add(append(long, 2))
	}
	f.Add([]byte(nil))
	f.Add(row(12, 128))
	f.Fuzz(func(t *testing.T, b []byte) {
		check(t, b, expected(b))
		n, used, e := varint.Read(b)
		if e == api.OK && !bytes.Equal(varint.Append(nil, n), b[:used]) {
			t.Fatalf("%v is read as %d, which has the bytes %v", b[:used], n, varint.Append(nil, n))
		}
	})
}

// P2.3: of all pieces of up to two bytes, and many of three, each number is read from one only.
func TestOneEncodingOfEachNumber(t *testing.T) {
	seen := map[uint64]bool{}
	note := func(b []byte) {
		n, used, e := varint.Read(b)
		if e != api.OK || used != len(b) {
			return
		}
		if seen[n] {
			t.Fatalf("%v is a second encoding of %d", b, n)
		}
		seen[n] = true
	}
	for i := range 1 << 8 {
		note([]byte{byte(i)})
	}
	for i := range 1 << 16 {
		note([]byte{byte(i), byte(i >> 8)})
	}
	for i := range 1 << 17 {
		note([]byte{byte(i) | 128, byte(i>>7) | 128, byte(i >> 14)})
	}
	if !seen[0] || !seen[127] || !seen[128] || !seen[1<<14-1] || !seen[1<<14] {
		t.Error("a number has no encoding")
	}
}
