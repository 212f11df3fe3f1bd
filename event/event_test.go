package event_test

import (
	"bytes"
	"math"
	"math/rand"
	"slices"
	"strings"
	"testing"

	"heavykeys/api"
	"heavykeys/event"
	"heavykeys/varint"
)

const most uint64 = math.MaxUint64

func text(n int) string { return strings.Repeat("x", n) }

// of returns tags from names and values in turn.
func of(x ...string) []api.Tag {
	var l []api.Tag
	for i := 0; i+1 < len(x); i += 2 {
		l = append(l, api.Tag{Name: x[i], Value: x[i+1]})
	}
	return l
}

// empty returns n tags without names and values.
func empty(n int) []api.Tag { return make([]api.Tag, n) }

// row returns bytes from numbers below 256, characters, strings and other bytes.
func row(parts ...any) []byte {
	var b []byte
	for _, p := range parts {
		switch x := p.(type) {
		case int:
			b = append(b, byte(x))
		case rune:
			b = append(b, byte(x))
		case string:
			b = append(b, x...)
		case []byte:
			b = append(b, x...)
		}
	}
	return b
}

// bytesOf returns the bytes of a number.
func bytesOf(n uint64) []byte { return varint.Append(nil, n) }

func same(a, b api.Event) bool {
	return a.Time == b.Time && a.Weight == b.Weight && slices.Equal(a.Tags, b.Tags)
}

func checkEncode(t *testing.T, what string, x api.Event, want []byte, e api.Errno) {
	t.Helper()
	if got, f := event.Encode(x); f != e || !bytes.Equal(got, want) {
		t.Errorf("%s: Encode gives %v, %d, want %v, %d", what, got, f, want, e)
	}
}

func checkDecode(t *testing.T, what string, b []byte, want api.Event, used int, e api.Errno) {
	t.Helper()
	got, n, f := event.Decode(b)
	if f != e || n != used || !same(got, want) {
		t.Errorf("%s: Decode gives %+v, %d, %d, want %+v, %d, %d", what, got, n, f, want, used, e)
	}
}

// table has events and their bytes.
var table = []struct {
	what  string
	x     api.Event
	bytes []byte
}{
	{"the example", api.Event{Time: 5, Weight: 300, Tags: of("a", "b")}, row(5, 172, 2, 1, 1, 'a', 1, 'b')},
	{"nothing", api.Event{}, row(0, 0, 0)},
	{"no tags", api.Event{Time: 1, Weight: 2, Tags: empty(0)}, row(1, 2, 0)},
	{"long numbers", api.Event{Time: 300, Weight: 1 << 14}, row(172, 2, 128, 128, 1, 0)},
	{"the last time", api.Event{Time: 1 << 40, Weight: 1}, row(128, 128, 128, 128, 128, 32, 1, 0)},
	{"the greatest valid weight", api.Event{Weight: 1 << 63}, row(0, bytes.Repeat(row(128), 9), 1, 0)},
	{"the greatest weight", api.Event{Weight: most}, row(0, bytes.Repeat(row(255), 9), 1, 0)},
	{"the order of the tags", api.Event{Time: 1, Weight: 1, Tags: of("host", "a", "app", "x1")}, row(1, 1, 2, 4, "host", 1, 'a', 3, "app", 2, "x1")},
	{"the same tags twice", api.Event{Tags: of("b", "", "a", "", "b", "")}, row(0, 0, 3, 1, 'b', 0, 1, 'a', 0, 1, 'b', 0)},
	{"empty tags", api.Event{Tags: empty(8)}, row(0, 0, 8, make([]byte, 16))},
	{"tags that are not valid", api.Event{Tags: of("B", "", "", "x", "\x00\xff", "\xfe")}, row(0, 0, 3, 1, 'B', 0, 0, 1, 'x', 2, 0, 255, 1, 254)},
	{"a long name and value", api.Event{Tags: of(text(127), text(128))}, row(0, 0, 1, 127, text(127), 128, 1, text(128))},
	{"the longest name and value", api.Event{Tags: of(text(4096), text(4096))}, row(0, 0, 1, 128, 32, text(4096), 128, 32, text(4096))},
}

// P4.1: the bytes of an event.
func TestEncode(t *testing.T) {
	for _, x := range table {
		checkEncode(t, x.what, x.x, x.bytes, api.OK)
	}
}

// P4.1: the first error of an event that cannot be encoded.
func TestEncodeErrors(t *testing.T) {
	long := text(4097)
	for _, x := range []struct {
		what string
		x    api.Event
		e    api.Errno
	}{
		{"before time", api.Event{Time: -1}, api.ErrRange},
		{"long before time", api.Event{Time: math.MinInt}, api.ErrRange},
		{"after the last time", api.Event{Time: 1<<40 + 1}, api.ErrRange},
		{"long after the last time", api.Event{Time: math.MaxInt}, api.ErrRange},
		{"nine tags", api.Event{Tags: empty(9)}, api.ErrTags},
		{"many tags", api.Event{Tags: empty(1000)}, api.ErrTags},
		{"a long name", api.Event{Tags: of(long, "")}, api.ErrLong},
		{"a long value", api.Event{Tags: of("", long)}, api.ErrLong},
		{"a long name behind others", api.Event{Tags: append(empty(7), of(long, "")...)}, api.ErrLong},
		{"a long value behind others", api.Event{Tags: append(empty(7), of("", long)...)}, api.ErrLong},
		{"a very long value", api.Event{Tags: of("a", text(100000))}, api.ErrLong},
		{"the time before the tags", api.Event{Time: -1, Tags: empty(9)}, api.ErrRange},
		{"the time before the lengths", api.Event{Time: 1<<40 + 1, Tags: of(long, "")}, api.ErrRange},
		{"the tags before the lengths", api.Event{Tags: append(of(long, ""), empty(8)...)}, api.ErrTags},
		{"all", api.Event{Time: -1, Tags: append(of(long, ""), empty(8)...)}, api.ErrRange},
	} {
		checkEncode(t, x.what, x.x, nil, x.e)
	}
}

// P4.2, P4.5: the event at the beginning of bytes, alone and with others behind it.
func TestDecode(t *testing.T) {
	for _, x := range table {
		for _, tail := range [][]byte{nil, row(0), row(128), row(255, 255), row(5, 172, 2, 1, 1, 'a', 1, 'b'), make([]byte, 5000)} {
			checkDecode(t, x.what, row(x.bytes, tail), x.x, len(x.bytes), api.OK)
		}
	}
}

// P4.2: bytes that are not an event.
func TestDecodeErrors(t *testing.T) {
	tooLate, endless := bytesOf(1<<40+1), bytes.Repeat(row(255), 10)
	for _, x := range []struct {
		what string
		b    []byte
		e    api.Errno
	}{
		{"nothing", nil, api.ErrShort},
		{"no weight", row(5), api.ErrShort},
		{"no tags", row(5, 1), api.ErrShort},
		{"no name", row(5, 1, 1), api.ErrShort},
		{"no value", row(5, 1, 1, 1, 'a'), api.ErrShort},
		{"no second tag", row(5, 1, 2, 1, 'a', 0), api.ErrShort},
		{"half a time", row(128), api.ErrShort},
		{"half a weight", row(5, 128), api.ErrShort},
		{"half a number of tags", row(5, 1, 128), api.ErrShort},
		{"half a length of a name", row(5, 1, 1, 128), api.ErrShort},
		{"half a length of a value", row(5, 1, 1, 0, 128), api.ErrShort},
		{"a time of a wrong form", row(128, 0, 1, 0), api.ErrForm},
		{"an endless time", row(endless, 1, 0), api.ErrForm},
		{"a weight of a wrong form", row(5, 128, 0, 0), api.ErrForm},
		{"an endless weight", row(5, endless, 0), api.ErrForm},
		{"a weight of more than 64 bits", row(5, bytes.Repeat(row(255), 9), 2, 0), api.ErrForm},
		{"a number of tags of a wrong form", row(5, 1, 129, 0), api.ErrForm},
		{"a length of a name of a wrong form", row(5, 1, 1, 129, 0, 'a', 0), api.ErrForm},
		{"a length of a value of a wrong form", row(5, 1, 1, 1, 'a', 129, 0, 'a'), api.ErrForm},
		{"after the last time", row(tooLate, 1, 0), api.ErrRange},
		{"long after the last time", row(bytesOf(most), 1, 0), api.ErrRange},
		{"a time that is negative as an int", row(bytesOf(1<<63), 1, 0), api.ErrRange},
		{"a late time before a missing weight", tooLate, api.ErrRange},
		{"a late time before a weight of a wrong form", row(tooLate, 128, 0), api.ErrRange},
		{"a late time before too many tags", row(tooLate, 1, 9), api.ErrRange},
		{"nine tags", row(5, 1, 9, make([]byte, 18)), api.ErrTags},
		{"nine tags that are not there", row(5, 1, 9), api.ErrTags},
		{"many tags", row(5, 1, bytesOf(most), make([]byte, 18)), api.ErrTags},
		{"many tags, and the low bits few", row(5, 1, bytesOf(1<<32), make([]byte, 18)), api.ErrTags},
		{"a weight of a wrong form before too many tags", row(5, 128, 0, 9), api.ErrForm},
		{"too many tags before a long name", row(5, 1, 9, 129, 32), api.ErrTags},
		{"a long name", row(5, 1, 1, 129, 32, text(4097), 0), api.ErrLong},
		{"a long name that is not there", row(5, 1, 1, 129, 32), api.ErrLong},
		{"a very long name", row(5, 1, 1, bytesOf(most)), api.ErrLong},
		{"a name whose length is negative as an int", row(5, 1, 1, bytesOf(1<<63), 0), api.ErrLong},
		{"a long value", row(5, 1, 1, 1, 'a', 129, 32, text(4097)), api.ErrLong},
		{"a long value that is not there", row(5, 1, 1, 1, 'a', 129, 32), api.ErrLong},
		{"a short name", row(5, 1, 1, 2, 'a'), api.ErrShort},
		{"a short name of the greatest length", row(5, 1, 1, 128, 32, text(4095)), api.ErrShort},
		{"a short value", row(5, 1, 1, 1, 'a', 2, 'b'), api.ErrShort},
		{"a short value of the greatest length", row(5, 1, 1, 0, 128, 32, text(4095)), api.ErrShort},
		{"a short name before a long value", row(5, 1, 1, 3, 129, 32), api.ErrShort},
		{"a long value before a short name", row(5, 1, 2, 0, 129, 32, 5), api.ErrLong},
		{"a long last value", row(5, 1, 8, make([]byte, 15), 129, 32), api.ErrLong},
		{"a missing last value", row(5, 1, 8, make([]byte, 15)), api.ErrShort},
	} {
		checkDecode(t, x.what, x.b, api.Event{}, 0, x.e)
	}
}

// P4.2: every beginning of an event lacks bytes.
func TestDecodeOfBeginnings(t *testing.T) {
	for _, x := range table {
		for i := range x.bytes {
			checkDecode(t, x.what, x.bytes[:i], api.Event{}, 0, api.ErrShort)
		}
	}
}

// P4.3: items, whose keys do not depend on the order of the tags.
func TestItem(t *testing.T) {
	for _, x := range []struct {
		x    api.Event
		want api.Item
	}{
		{api.Event{Time: 5, Weight: 300, Tags: of("a", "b")}, api.Item{Key: "\x01a\x01b", Time: 5, Weight: 300}},
		{api.Event{Time: 0, Weight: 1, Tags: of("a", "")}, api.Item{Key: "\x01a\x00", Time: 0, Weight: 1}},
		{api.Event{Time: 1 << 40, Weight: 1 << 63, Tags: of("a", "")}, api.Item{Key: "\x01a\x00", Time: 1 << 40, Weight: 1 << 63}},
		{api.Event{Time: 7, Weight: 9, Tags: of("host", "a", "app", "x1")}, api.Item{Key: "\x03app\x02x1\x04host\x01a", Time: 7, Weight: 9}},
		{api.Event{Time: 7, Weight: 9, Tags: of("app", "x1", "host", "a")}, api.Item{Key: "\x03app\x02x1\x04host\x01a", Time: 7, Weight: 9}},
	} {
		if got, e := event.Item(x.x); e != api.OK || got != x.want {
			t.Errorf("Item(%+v) = %+v, %d, want %+v", x.x, got, e, x.want)
		}
	}
}

// P4.3: the first error of an event that has no item.
func TestItemErrors(t *testing.T) {
	good, bad := of("a", "b"), of("A", "b")
	wide := of("a", text(64), "b", text(64), "c", text(64), "d", text(64))
	for _, x := range []struct {
		what string
		x    api.Event
		e    api.Errno
	}{
		{"before time", api.Event{Time: -1, Weight: 1, Tags: good}, api.ErrRange},
		{"long before time", api.Event{Time: math.MinInt, Weight: 1, Tags: good}, api.ErrRange},
		{"after the last time", api.Event{Time: 1<<40 + 1, Weight: 1, Tags: good}, api.ErrRange},
		{"long after the last time", api.Event{Time: math.MaxInt, Weight: 1, Tags: good}, api.ErrRange},
		{"no weight", api.Event{Time: 5, Tags: good}, api.ErrRange},
		{"too much weight", api.Event{Time: 5, Weight: 1<<63 + 1, Tags: good}, api.ErrRange},
		{"the greatest weight", api.Event{Time: 5, Weight: most, Tags: good}, api.ErrRange},
		{"the time before the tags", api.Event{Time: -1, Weight: 1, Tags: bad}, api.ErrRange},
		{"the weight before the tags", api.Event{Time: 5, Tags: bad}, api.ErrRange},
		{"the weight before their number", api.Event{Time: 5}, api.ErrRange},
		{"no tags", api.Event{Time: 5, Weight: 1}, api.ErrTags},
		{"nine tags", api.Event{Time: 5, Weight: 1, Tags: empty(9)}, api.ErrTags},
		{"two of the same name", api.Event{Time: 5, Weight: 1, Tags: of("a", "1", "a", "2")}, api.ErrTags},
		{"a wrong name", api.Event{Time: 5, Weight: 1, Tags: bad}, api.ErrForm},
		{"no name", api.Event{Time: 5, Weight: 1, Tags: of("", "b")}, api.ErrForm},
		{"a long name", api.Event{Time: 5, Weight: 1, Tags: of(text(33), "b")}, api.ErrLong},
		{"a long value", api.Event{Time: 5, Weight: 1, Tags: of("a", text(65))}, api.ErrLong},
		{"a long key", api.Event{Time: 5, Weight: 1, Tags: wide}, api.ErrLong},
	} {
		if got, e := event.Item(x.x); e != x.e || got != (api.Item{}) {
			t.Errorf("%s: Item gives %+v, %d, want the error %d", x.what, got, e, x.e)
		}
	}
}

// P4.4: a verdict for every number that an error may be.
func TestVerdict(t *testing.T) {
	for e := api.Errno(-300); e < 300; e++ {
		want := api.Malformed
		if e == api.OK {
			want = api.Accepted
		} else if e == api.ErrLong {
			want = api.Oversize
		}
		if got := event.Verdict(e); got != want {
			t.Errorf("Verdict(%d) = %d, want %d", e, got, want)
		}
	}
	for _, e := range []api.Errno{math.MinInt, math.MaxInt} {
		if got := event.Verdict(e); got != api.Malformed {
			t.Errorf("Verdict(%d) = %d, want %d", e, got, api.Malformed)
		}
	}
}

// someText returns up to 9 of any bytes, and at times more.
func someText(r *rand.Rand) string {
	size := r.Intn(10)
	if r.Intn(50) == 0 {
		size = r.Intn(api.MaxFrame + 1)
	}
	b := make([]byte, size)
	r.Read(b)
	return string(b)
}

// some returns an event with numbers of all magnitudes and any tags.
func some(r *rand.Rand) api.Event {
	x := api.Event{Time: r.Intn(api.MaxTime+1) >> r.Intn(41), Weight: r.Uint64() >> r.Intn(64)}
	for range r.Intn(9) {
		x.Tags = append(x.Tags, api.Tag{Name: someText(r), Value: someText(r)})
	}
	return x
}

// P4.5: an event that was encoded is decoded as it was, whatever follows it.
func TestEncodedEventsAreDecoded(t *testing.T) {
	r := rand.New(rand.NewSource(5))
	for range 10000 {
		x := some(r)
		b, e := event.Encode(x)
		if e != api.OK {
			t.Fatalf("Encode(%+v) has the error %d", x, e)
		}
		checkDecode(t, "alone", b, x, len(b), api.OK)
		checkDecode(t, "with bytes behind it", row(b, someText(r)), x, len(b), api.OK)
	}
}

// P4.5: events one after another are decoded one after another.
func TestRowOfEvents(t *testing.T) {
	r := rand.New(rand.NewSource(6))
	var l []api.Event
	var b []byte
	for range 500 {
		x := some(r)
		piece, _ := event.Encode(x)
		l, b = append(l, x), append(b, piece...)
	}
	for i, want := range l {
		got, used, e := event.Decode(b)
		if e != api.OK || !same(got, want) {
			t.Fatalf("the event %d is %+v, %d, want %+v", i, got, e, want)
		}
		b = b[used:]
	}
	if len(b) != 0 {
		t.Errorf("%d bytes are left", len(b))
	}
}

// expected returns what Decode has to return, from the words of P4.2: its numbers are gone through in one row.
func expected(b []byte) (x api.Event, used int, e api.Errno) {
	fail := func(e api.Errno) (api.Event, int, api.Errno) { return api.Event{}, 0, e }
	var texts []string
	for i, count := 0, 3; i < count; i++ {
		n, size, e := varint.Read(b[used:])
		used += size
		switch {
		case e != api.OK:
			return fail(e)
		case i == 0 && n > 1<<40:
			return fail(api.ErrRange)
		case i == 0:
			x.Time = int(n)
		case i == 1:
			x.Weight = n
		case i == 2 && n > 8:
			return fail(api.ErrTags)
		case i == 2:
			count += 2 * int(n)
		case n > 4096:
			return fail(api.ErrLong)
		case used+int(n) > len(b):
			return fail(api.ErrShort)
		default:
			texts = append(texts, string(b[used:used+int(n)]))
			used += int(n)
		}
	}
	x.Tags = of(texts...)
	return x, used, api.OK
}

// checkBytes holds Decode against the words of P4.2 for any bytes, and Encode against what was decoded: an event has no other bytes.
func checkBytes(t *testing.T, b []byte) {
	t.Helper()
	x, used, e := event.Decode(b)
	want, n, f := expected(b)
	if e != f || used != n || !same(x, want) {
		t.Fatalf("Decode(%v) = %+v, %d, %d, want %+v, %d, %d", b, x, used, e, want, n, f)
	}
	if e == api.OK {
		checkEncode(t, "decoded", x, b[:used], api.OK)
	}
}

// P4.2, P4.5: all rows of up to seven bytes that numbers and lengths are made of.
func TestDecodeOfAllForms(t *testing.T) {
	var extend func(b []byte, more int)
	extend = func(b []byte, more int) {
		checkBytes(t, b)
		if more == 0 {
			return
		}
		for _, c := range []byte{0, 1, 2, 8, 9, 32, 128, 129} {
			extend(row(b, int(c)), more-1)
		}
	}
	extend(nil, 6)
	for _, head := range [][]byte{row(0, 0, 1), row(1, 1, 2, 0), row(bytesOf(1<<40), bytesOf(most), 1)} {
		extend(head, 5)
	}
}

// P4.2, P4.5: events in which a byte is changed, missing or added.
func TestDecodeOfChangedEvents(t *testing.T) {
	r := rand.New(rand.NewSource(7))
	for range 10000 {
		b, _ := event.Encode(some(r))
		at := r.Intn(len(b))
		other := r.Intn(256)
		checkBytes(t, b)
		checkBytes(t, b[:at])
		checkBytes(t, b[at:])
		checkBytes(t, row(b[:at], b[at+1:]))
		checkBytes(t, row(b[:at], other, b[at:]))
		checkBytes(t, row(b[:at], other, b[at+1:]))
	}
}

// P4.1 to P4.3 with R4: an argument stays as it is, and no result shares memory with it or with another result.
func TestResultsAreNew(t *testing.T) {
	x := api.Event{Time: 5, Weight: 300, Tags: of("c", "1", "b", "2", "a", "3")}
	before := slices.Clone(x.Tags)
	first, _ := event.Encode(x)
	second, _ := event.Encode(x)
	want := slices.Clone(second)
	spoil(first)
	if !bytes.Equal(second, want) {
		t.Errorf("a result became %v", second)
	}

	one, used, _ := event.Decode(second)
	two, _, _ := event.Decode(second)
	if used != len(second) || !bytes.Equal(second, want) {
		t.Errorf("the bytes %v became %v", want, second)
	}
	for i := range one.Tags {
		one.Tags[i] = api.Tag{Name: "spoilt"}
	}
	spoil(second)
	if !same(two, x) {
		t.Errorf("a result became %+v", two)
	}

	event.Item(x)
	if !slices.Equal(x.Tags, before) {
		t.Errorf("%q became %q", before, x.Tags)
	}
}

// spoil writes to all memory of b.
func spoil(b []byte) {
	b = b[:cap(b)]
	for i := range b {
		b[i] = 77
	}
}

// P4.2, P4.5: any bytes are refused as the words say, or are the bytes of the event that is read from them.
func FuzzDecode(f *testing.F) {
	for _, x := range table {
		f.Add(x.bytes)
	}
	f.Add(row(bytesOf(1<<40+1), 1, 0))
	f.Add(row(5, 1, 9))
	f.Add(row(5, 1, 1, 129, 32))
	f.Add(row(5, 1, 1, 128, 0))
	f.Fuzz(func(t *testing.T, b []byte) { checkBytes(t, b) })
}
