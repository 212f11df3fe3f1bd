package frame_test

import (
	"bytes"
	"math"
	"math/rand"
	"slices"
	"strings"
	"testing"

	"heavykeys/api"
	"heavykeys/event"
	"heavykeys/frame"
	"heavykeys/varint"
)

// anyKey is a limit that no key exceeds.
const anyKey = api.MaxKey

func text(n int) string { return strings.Repeat("x", n) }

// one returns an event with one tag.
func one(name, value string) api.Event {
	return api.Event{Time: 5, Weight: 2, Tags: []api.Tag{{Name: name, Value: value}}}
}

// many returns the same event n times.
func many(n int, x api.Event) []api.Event { return slices.Repeat([]api.Event{x}, n) }

// good returns the input of one(name, value).
func good(name, value string) api.Input {
	key := string(row(len(name), name, len(value), value))
	return api.Input{Item: api.Item{Key: key, Time: 5, Weight: 2}}
}

// bad returns inputs with verdicts other than Accepted.
func bad(verdicts ...int) []api.Input {
	var l []api.Input
	for _, v := range verdicts {
		l = append(l, api.Input{Verdict: v})
	}
	return l
}

// row returns bytes from numbers below 256, characters, strings and other bytes.
func row(parts ...any) []byte {
	var b []byte
	for _, p := range parts {
		switch x := p.(type) {
		case int:
			b = append(b, byte(x))
		case rune:
			b = append(b, byte(x))
		case string:
			b = append(b, x...)
		case []byte:
			b = append(b, x...)
		default:
			panic("row has a part of another type")
		}
	}
	return b
}

// body returns the bytes of a body with any number in front of its events.
func body(count uint64, l ...api.Event) []byte {
	b := varint.Append(nil, count)
	for _, x := range l {
		piece, e := event.Encode(x)
		if e != api.OK {
			panic("an event cannot be encoded")
		}
		b = append(b, piece...)
	}
	return b
}

// checkFrame checks what Body and Encode return: a frame is the length of the body, and the body.
func checkFrame(t *testing.T, what string, l []api.Event, want []byte, e api.Errno) {
	t.Helper()
	if got, f := frame.Body(l); f != e || !bytes.Equal(got, want) {
		t.Errorf("%s: Body gives %v, %d, want %v, %d", what, got, f, want, e)
	}
	if e == api.OK {
		want = append(varint.Append(nil, uint64(len(want))), want...)
	}
	if got, f := frame.Encode(l); f != e || !bytes.Equal(got, want) {
		t.Errorf("%s: Encode gives %v, %d, want %v, %d", what, got, f, want, e)
	}
}

func checkRead(t *testing.T, what string, b []byte, most int, want []api.Input) {
	t.Helper()
	if got := frame.Read(b, most); !slices.Equal(got, want) {
		t.Errorf("%s: Read gives %+v, want %+v", what, got, want)
	}
}

// P5.1: the bytes of bodies and frames, written out.
func TestBytes(t *testing.T) {
	a := row(5, 2, 1, 1, 'a', 1, 'v')
	for _, x := range []struct {
		what string
		l    []api.Event
		body []byte
	}{
		{"one event", many(1, one("a", "v")), row(1, a)},
		{"an event twice", many(2, one("a", "v")), row(2, a, a)},
		{"events in their order", []api.Event{one("b", ""), one("a", "v"), {Time: 300, Weight: 1}}, row(3, 5, 2, 1, 1, 'b', 0, a, 172, 2, 1, 0)},
		{"an event that is not valid", []api.Event{one("A", "v"), {}}, row(2, 5, 2, 1, 1, 'A', 1, 'v', 0, 0, 0)},
		{"the most events", make([]api.Event, 64), row(64, make([]byte, 192))},
		{"a length of two bytes", many(1, one("a", text(200))), row(1, 5, 2, 1, 1, 'a', 200, 1, text(200))},
		{"the longest body", many(1, one("", text(4089))), row(1, 5, 2, 1, 0, 249, 31, text(4089))},
		{"the longest body of two events", []api.Event{one("", text(4086)), {}}, row(2, 5, 2, 1, 0, 246, 31, text(4086), 0, 0, 0)},
	} {
		checkFrame(t, x.what, x.l, x.body, api.OK)
	}
	got, _ := frame.Encode(many(1, one("a", "v")))
	if !bytes.Equal(got, row(8, 1, a)) {
		t.Errorf("a frame is %v", got)
	}
	got, _ = frame.Encode(many(1, one("", text(4089))))
	if !bytes.HasPrefix(got, row(128, 32, 1, 5)) || len(got) != 4098 {
		t.Errorf("the longest frame has %d bytes, and begins with %v", len(got), got[:4])
	}
}

// P5.1: the first error of events that have no frame.
func TestErrors(t *testing.T) {
	big := one("", text(3000))
	early, tagged, wide := api.Event{Time: -1}, api.Event{Tags: make([]api.Tag, 9)}, one("", text(4097))
	for _, x := range []struct {
		what string
		l    []api.Event
		e    api.Errno
	}{
		{"nil", nil, api.ErrRange},
		{"no events", []api.Event{}, api.ErrRange},
		{"an event too many", make([]api.Event, 65), api.ErrRange},
		{"very many events", make([]api.Event, 10000), api.ErrRange},
		{"before time", many(1, early), api.ErrRange},
		{"after the last time", many(1, api.Event{Time: 1<<40 + 1}), api.ErrRange},
		{"nine tags", many(1, tagged), api.ErrTags},
		{"a long value", many(1, wide), api.ErrLong},
		{"a byte too many", many(1, one("", text(4090))), api.ErrLong},
		{"a byte too many in two events", []api.Event{one("", text(4087)), {}}, api.ErrLong},
		{"a body that is twice as long", many(3, big), api.ErrLong},
		{"the longest value", many(1, one("", text(4096))), api.ErrLong},
		{"many events that are too long together", many(64, one("a", text(60))), api.ErrLong},
		{"too many events before a wrong one", many(65, tagged), api.ErrRange},
		{"too many events before a long body", many(65, big), api.ErrRange},
		{"the first of two wrong events, time", []api.Event{{}, early, tagged, wide}, api.ErrRange},
		{"the first of two wrong events, tags", []api.Event{{}, tagged, wide, early}, api.ErrTags},
		{"the first of two wrong events, value", []api.Event{{}, wide, early, tagged}, api.ErrLong},
		{"a wrong event before a long body", []api.Event{early, big, big}, api.ErrRange},
		{"a wrong event behind what is too long", []api.Event{big, big, early}, api.ErrRange},
		{"a wrong event with tags behind what is too long", []api.Event{big, big, tagged}, api.ErrTags},
		{"a wrong last event", append(many(63, big), tagged), api.ErrTags},
	} {
		checkFrame(t, x.what, x.l, nil, x.e)
	}
}

// P5.2: a body whose number of events is missing, wrong or out of range has one input, whatever follows.
func TestReadOfWrongNumbers(t *testing.T) {
	tail := body(1, many(64, one("a", "v"))...)[1:]
	for _, head := range [][]byte{
		nil, row(0), row(65), row(66), row(127), row(128, 1), row(255, 1), row(129, 0), row(128, 0), row(193, 0),
		bytes.Repeat(row(128), 10), bytes.Repeat(row(255), 10), row(bytes.Repeat(row(255), 9), 2),
		varint.Append(nil, 1<<8+1), varint.Append(nil, 1<<32+1), varint.Append(nil, 1<<63), varint.Append(nil, 1<<63+1), varint.Append(nil, math.MaxUint64),
	} {
		checkRead(t, "a number alone", head, anyKey, bad(api.Malformed))
		if head != nil {
			checkRead(t, "a number before events", row(head, tail), anyKey, bad(api.Malformed))
		}
	}
	for n := range 9 {
		checkRead(t, "half a number", bytes.Repeat(row(129), n), anyKey, bad(api.Malformed))
	}
}

// P5.2: bodies whose events are all decoded.
func TestRead(t *testing.T) {
	a, b := one("a", "v"), one("b", "v")
	goodA, goodB := good("a", "v"), good("b", "v")
	malformed, oversize := bad(api.Malformed)[0], bad(api.Oversize)[0]
	for _, x := range []struct {
		what string
		b    []byte
		want []api.Input
	}{
		{"one event", body(1, a), []api.Input{goodA}},
		{"one event, written out", row(1, 5, 2, 1, 1, 'a', 1, 'v'), []api.Input{goodA}},
		{"the order of the events", body(3, b, a, b), []api.Input{goodB, goodA, goodB}},
		{"the most events", body(64, many(64, a)...), slices.Repeat([]api.Input{goodA}, 64)},
		{"the example", body(3, a, one("A", "v"), b), []api.Input{goodA, malformed, goodB}},
		{"an event without tags", body(2, api.Event{Weight: 1}, b), []api.Input{malformed, goodB}},
		{"an event without weight", body(2, api.Event{Tags: a.Tags}, b), []api.Input{malformed, goodB}},
		{"an event with too much weight", body(2, api.Event{Weight: 1<<63 + 1, Tags: a.Tags}, b), []api.Input{malformed, goodB}},
		{"an event with the greatest weight", body(1, api.Event{Weight: 1 << 63, Tags: a.Tags}), []api.Input{{Item: api.Item{Key: goodA.Item.Key, Weight: 1 << 63}}}},
		{"the last time", body(1, api.Event{Time: 1 << 40, Weight: 1, Tags: a.Tags}), []api.Input{{Item: api.Item{Key: goodA.Item.Key, Time: 1 << 40, Weight: 1}}}},
		{"the same name twice", body(2, api.Event{Weight: 1, Tags: append(a.Tags, a.Tags...)}, b), []api.Input{malformed, goodB}},
		{"a long name", body(2, one(text(33), ""), b), []api.Input{oversize, goodB}},
		{"a long value", body(2, one("a", text(65)), b), []api.Input{oversize, goodB}},
		{"a long value and no weight", body(2, api.Event{Tags: one("a", text(65)).Tags}, b), []api.Input{malformed, goodB}},
		{"no good event", body(3, one("A", ""), one("a", text(65)), api.Event{}), []api.Input{malformed, oversize, malformed}},
		{"a body that is longer than one may be", body(2, one("a", text(4090)), a), []api.Input{oversize, goodA}},
	} {
		checkRead(t, x.what, x.b, anyKey, x.want)
		for _, tail := range [][]byte{row(0), row(128), body(1, a), body(1, a)[1:], make([]byte, 5000)} {
			checkRead(t, x.what+", and more bytes", row(x.b, tail), anyKey, append(slices.Clone(x.want), malformed))
		}
	}
}

// P5.2: what follows an event that cannot be decoded is not read, and each event that is missing is malformed.
func TestReadOfBodiesThatEndEarly(t *testing.T) {
	a := one("a", "v")
	goodA := good("a", "v")
	piece := row(5, 2, 1, 1, 'a', 1, 'v')
	for _, x := range []struct {
		what  string
		b     []byte
		good  int
		wrong int
	}{
		{"a number and no events", row(1), 0, 1},
		{"the greatest number and no events", row(64), 0, 64},
		{"the first one is cut", row(3, 5, 2, 1), 0, 3},
		{"the second one is cut", row(3, piece, piece[:5]), 1, 2},
		{"the third one is missing", row(3, piece, piece), 2, 1},
		{"one of the most is missing", body(64, many(63, a)...), 63, 1},
		{"the number is too great", row(5, piece, piece, piece), 3, 2},
		{"the number is too small", row(2, piece, piece, piece), 2, 1},
		{"a time that is too great, before good events", row(3, piece, varint.Append(nil, 1<<40+1), 2, 0, piece), 1, 2},
		{"a number of a wrong form, before good events", row(4, piece, 133, 0, 2, 1, 1, 'a', 1, 'v', piece, piece), 1, 3},
		{"too many tags, before good events", row(3, 5, 2, 9, make([]byte, 18), piece, piece), 0, 3},
		{"a length that is too great, before good events", row(3, piece, 5, 2, 1, 1, 'a', 129, 32, text(4097), piece), 1, 2},
		{"a length that is too great, in the last event", row(2, piece, 5, 2, 1, 1, 'a', 129, 32, text(4097)), 1, 1},
		{"a wrong last event, and bytes behind it", row(2, piece, 128, 0, 1, 2, 3), 1, 1},
	} {
		want := append(slices.Repeat([]api.Input{goodA}, x.good), slices.Repeat(bad(api.Malformed), x.wrong)...)
		checkRead(t, x.what, x.b, anyKey, want)
	}
	// The bytes behind the third event would be one more input if they were read.
	checkRead(t, "a rejected event before one that is cut", row(3, 5, 2, 1, 1, 'A', 0, 5, 2, 1, 1, 'a', 65, text(65), 5), anyKey, bad(api.Malformed, api.Oversize, api.Malformed))
}

// P5.2: a body that is cut anywhere has as many inputs as its number says.
func TestReadOfBeginnings(t *testing.T) {
	b := body(3, one("a", "v"), one("b", "v"), one("c", "v"))
	for i := range b {
		want := bad(api.Malformed)
		if i > 0 {
			all := []api.Input{good("a", "v"), good("b", "v"), good("c", "v")}
			whole := (i - 1) / 7
			want = append(all[:whole], slices.Repeat(bad(api.Malformed), 3-whole)...)
		}
		checkRead(t, "a beginning", b[:i], anyKey, want)
	}
}

// P5.2: a key is measured after the other errors of its event.
func TestReadOfLongKeys(t *testing.T) {
	wide := api.Event{Time: 5, Weight: 2}
	for _, name := range []string{"a", "b", "c", "d"} {
		wide.Tags = append(wide.Tags, api.Tag{Name: name, Value: text(60)})
	}
	// The keys have 4, 5 and 252 bytes.
	b := body(4, one("a", "v"), one("b", "vw"), one("B", "v"), wide)
	for _, x := range []struct {
		most int
		want []int
	}{
		{math.MaxInt, []int{0, 0, 1, 0}},
		{api.MaxKey, []int{0, 0, 1, 0}},
		{252, []int{0, 0, 1, 0}},
		{251, []int{0, 0, 1, 2}},
		{5, []int{0, 0, 1, 2}},
		{4, []int{0, 2, 1, 2}},
		{3, []int{2, 2, 1, 2}},
		{0, []int{2, 2, 1, 2}},
		{-1, []int{2, 2, 1, 2}},
		{math.MinInt, []int{2, 2, 1, 2}},
	} {
		want := bad(x.want...)
		for i, y := range []api.Event{one("a", "v"), one("b", "vw"), {}, wide} {
			if x.want[i] == api.Accepted {
				want[i] = itemOf(y)
			}
		}
		checkRead(t, "long keys", b, x.most, want)
	}
	// Whatever most is, a key of more than MaxKey bytes is no key.
	wide.Tags[0].Value = text(64)
	checkRead(t, "a key that is too long for all", body(1, wide), math.MaxInt, bad(api.Oversize))
}

// itemOf returns the input of an event that is valid.
func itemOf(x api.Event) api.Input {
	item, e := event.Item(x)
	if e != api.OK {
		panic("an event is not valid")
	}
	return api.Input{Item: item}
}

// some returns an event that is valid, or wrong in one of several ways, with a short key or a long one.
func some(r *rand.Rand) api.Event {
	x := api.Event{Time: r.Intn(api.MaxTime+1) >> r.Intn(41), Weight: 1 + r.Uint64()>>(1+r.Intn(63))}
	for i := range 1 + r.Intn(8) {
		value := make([]byte, r.Intn(4+60*r.Intn(2)))
		r.Read(value)
		x.Tags = append(x.Tags, api.Tag{Name: string(rune('a'+i)) + text(r.Intn(3)), Value: string(value)})
	}
	switch r.Intn(12) {
	case 0:
		x.Weight = 0
	case 1:
		x.Weight = 1<<63 + 1
	case 2:
		x.Tags = nil
	case 3:
		x.Tags[0].Name = "A"
	case 4:
		x.Tags[0].Value = text(65)
	case 5:
		x.Tags = append(x.Tags[:1], x.Tags[0])
	}
	r.Shuffle(len(x.Tags), func(i, j int) { x.Tags[i], x.Tags[j] = x.Tags[j], x.Tags[i] })
	return x
}

// verdictOf returns the input that an event has by itself.
func verdictOf(x api.Event, most int) api.Input {
	item, e := event.Item(x)
	switch {
	case e == api.ErrLong, e == api.OK && len(item.Key) > most:
		return api.Input{Verdict: api.Oversize}
	case e != api.OK:
		return api.Input{Verdict: api.Malformed}
	}
	return api.Input{Item: item, Verdict: api.Accepted}
}

// P5.3: the inputs of a frame that was encoded are its events, each with a verdict of its own.
func TestEncodedFramesAreRead(t *testing.T) {
	r := rand.New(rand.NewSource(8))
	seen := [3]int{}
	for range 5000 {
		most := r.Intn(300) - 10
		var l []api.Event
		var want []api.Input
		for range 1 + r.Intn(64>>r.Intn(6)) {
			x := some(r)
			l, want = append(l, x), append(want, verdictOf(x, most))
		}
		b, e := frame.Encode(l)
		if e == api.ErrLong {
			continue
		}
		size, used, f := varint.Read(b)
		if e != api.OK || f != api.OK || int(size) != len(b)-used {
			t.Fatalf("a frame of %d events has the error %d, and the length %d with the error %d", len(l), e, size, f)
		}
		checkRead(t, "a frame", b[used:], most, want)
		for _, x := range want {
			seen[x.Verdict]++
		}
	}
	if slices.Min(seen[:]) < 1000 {
		t.Errorf("the verdicts are %v, which is too few of one", seen)
	}
}

// expected returns what Read has to return, from the words of P5.2.
func expected(b []byte, most int) []api.Input {
	n, used, e := varint.Read(b)
	if e != api.OK || n == 0 || n > 64 {
		return bad(api.Malformed)
	}
	var l []api.Input
	failed := false
	for i := uint64(0); i < n; i++ {
		x, size, e := event.Decode(b[used:])
		failed = failed || e != api.OK
		if failed {
			l = append(l, bad(api.Malformed)...)
			continue
		}
		l = append(l, verdictOf(x, most))
		used += size
	}
	if !failed && used < len(b) {
		l = append(l, bad(api.Malformed)...)
	}
	return l
}

// P5.2: bodies in which a byte is changed, missing or added.
func TestReadOfChangedBodies(t *testing.T) {
	r := rand.New(rand.NewSource(9))
	for range 5000 {
		var l []api.Event
		for range 1 + r.Intn(5) {
			l = append(l, some(r))
		}
		b := body(uint64(len(l)), l...)
		at, other, most := r.Intn(len(b)), r.Intn(256), r.Intn(300)-10
		for _, c := range [][]byte{b[:at], b[at:], row(b[:at], b[at+1:]), row(b[:at], other, b[at:]), row(b[:at], other, b[at+1:])} {
			checkRead(t, "a changed body", c, most, expected(c, most))
		}
	}
}

// P5.1, P5.2 with R4: an argument stays as it is, and no result shares memory with it or with another result.
func TestResultsAreNew(t *testing.T) {
	l := []api.Event{{Time: 5, Weight: 2, Tags: []api.Tag{{Name: "b", Value: "1"}, {Name: "a", Value: "2"}}}, one("A", "v")}
	before := slices.Clone(l[0].Tags)
	for _, write := range []func([]api.Event) ([]byte, api.Errno){frame.Body, frame.Encode} {
		first, _ := write(l)
		second, _ := write(l)
		want := slices.Clone(second)
		spoil(first)
		if !bytes.Equal(second, want) {
			t.Errorf("a result became %v", second)
		}
	}
	if !slices.Equal(l[0].Tags, before) || len(l) != 2 {
		t.Errorf("the events became %+v", l)
	}

	b, _ := frame.Body(l)
	kept := slices.Clone(b)
	first, second := frame.Read(b, anyKey), frame.Read(b, anyKey)
	if !bytes.Equal(b, kept) {
		t.Errorf("the bytes %v became %v", kept, b)
	}
	for i := range first {
		first[i] = api.Input{Verdict: 77}
	}
	spoil(b)
	want := []api.Input{{Item: api.Item{Key: "\x01a\x012\x01b\x011", Time: 5, Weight: 2}}, {Verdict: api.Malformed}}
	if !slices.Equal(second, want) {
		t.Errorf("a result became %+v", second)
	}
}

// P5.2: bytes behind the slice are not read.
func TestReadStaysInItsBody(t *testing.T) {
	b := body(2, one("a", "v"), one("b", "v"))
	half := len(body(2, one("a", "v")))
	checkRead(t, "a part of a body", b[:half], anyKey, []api.Input{good("a", "v"), {Verdict: api.Malformed}})
	checkRead(t, "nothing of a body", b[:0], anyKey, bad(api.Malformed))
}

// spoil writes to all memory of b.
func spoil(b []byte) {
	b = b[:cap(b)]
	for i := range b {
		b[i] = 77
	}
}

// P5.2: any bytes have the inputs that the words say.
func FuzzRead(f *testing.F) {
	f.Add(body(3, one("a", "v"), one("A", "v"), one("b", "v")), anyKey)
	f.Add(body(2, one("a", "v"), one("b", "vw"), one("c", "v")), 4)
	f.Add(body(64, one("a", text(65)), api.Event{}), 0)
	f.Add(row(1, 5, 2, 1, 1, 'a', 129, 32), -1)
	f.Add(row(129, 0, 0, 0, 0), 1)
	f.Fuzz(func(t *testing.T, b []byte, most int) {
		checkRead(t, "any bytes", b, most, expected(b, most))
	})
}
