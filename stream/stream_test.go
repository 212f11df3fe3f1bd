package stream_test

import (
	"bytes"
	"fmt"
	"math"
	"math/rand"
	"slices"
	"testing"

	"heavykeys/api"
	"heavykeys/event"
	"heavykeys/frame"
	"heavykeys/stream"
	"heavykeys/varint"
)

// row returns n bytes that look like anything: lengths of one byte and of more.
func row(n int) []byte {
	b := make([]byte, n)
	for i := range b {
		b[i] = byte(i*37 + i/256)
	}
	return b
}

// whole returns the frame of a body.
func whole(body []byte) []byte {
	return append(varint.Append(nil, uint64(len(body))), body...)
}

// wrong returns beginnings of a stream that are no length, each up to the byte that shows it.
func wrong() [][]byte {
	var l [][]byte
	for n := 1; n < 10; n++ {
		l = append(l, append(bytes.Repeat([]byte{128}, n), 0), append(bytes.Repeat([]byte{255}, n), 0))
	}
	nine := bytes.Repeat([]byte{255}, 9)
	for _, last := range []byte{2, 3, 64, 127, 128, 129, 255} {
		l = append(l, append(slices.Clone(nine), last))
	}
	return l
}

func good(body ...byte) api.Chunk { return api.Chunk{Body: body, Verdict: api.Accepted} }

var (
	oversize  = api.Chunk{Verdict: api.Oversize}
	malformed = api.Chunk{Verdict: api.Malformed}
	broken    = api.Stream{Broken: true}
)

func held(buffer ...byte) api.Stream { return api.Stream{Buffer: buffer} }

func sameStream(a, b api.Stream) bool {
	return bytes.Equal(a.Buffer, b.Buffer) && a.Skip == b.Skip && a.Broken == b.Broken
}

func sameChunk(a, b api.Chunk) bool {
	return bytes.Equal(a.Body, b.Body) && a.Verdict == b.Verdict
}

// check checks what Feed returns, and returns the stream.
func check(t *testing.T, what string, s api.Stream, piece []byte, want api.Stream, chunks ...api.Chunk) api.Stream {
	t.Helper()
	got, c := stream.Feed(s, piece)
	if !sameStream(got, want) {
		t.Fatalf("%s: the stream is %s, want %s", what, short(got), short(want))
	}
	if !slices.EqualFunc(c, chunks, sameChunk) {
		t.Fatalf("%s: the chunks are %s, want %s", what, short(c), short(chunks))
	}
	return got
}

// short formats a value, of which a failed test shows the beginning.
func short(x any) string {
	s := fmt.Sprintf("%+v", x)
	return s[:min(len(s), 300)]
}

// expected is P6.1 in its own words: every byte by itself.
func expected(s api.Stream, piece []byte) (api.Stream, []api.Chunk) {
	s.Buffer = slices.Clone(s.Buffer)
	var chunks []api.Chunk
	for _, c := range piece {
		if s.Broken {
			continue
		}
		if s.Skip != 0 {
			s.Skip--
			continue
		}
		s.Buffer = append(s.Buffer, c)
		length, used, e := varint.Read(s.Buffer)
		if e == api.ErrForm {
			chunks = append(chunks, malformed)
			s.Buffer, s.Broken = nil, true
		} else if e == api.OK && length > 4096 {
			chunks = append(chunks, oversize)
			s.Buffer, s.Skip = nil, length
		} else if e == api.OK && uint64(len(s.Buffer)-used) == length {
			chunks = append(chunks, good(s.Buffer[used:]...))
			s.Buffer = nil
		}
	}
	return s, chunks
}

// P6.1: single pieces, written out.
func TestPieces(t *testing.T) {
	for _, x := range []struct {
		what   string
		s      api.Stream
		piece  []byte
		want   api.Stream
		chunks []api.Chunk
	}{
		{"nothing", api.Stream{}, nil, api.Stream{}, nil},
		{"nothing, not nil", api.Stream{}, []byte{}, api.Stream{}, nil},
		{"the example, first", api.Stream{}, []byte{2, 7}, held(2, 7), nil},
		{"the example, second", held(2, 7), []byte{9, 0}, api.Stream{}, []api.Chunk{good(7, 9), good()}},
		{"the example, 4097", api.Stream{}, []byte{129, 32}, api.Stream{Skip: 4097}, []api.Chunk{oversize}},
		{"a body without bytes", api.Stream{}, []byte{0}, api.Stream{}, []api.Chunk{good()}},
		{"many of them", api.Stream{}, []byte{0, 0, 0}, api.Stream{}, []api.Chunk{good(), good(), good()}},
		{"a frame", api.Stream{}, []byte{3, 5, 6, 7}, api.Stream{}, []api.Chunk{good(5, 6, 7)}},
		{"frames in their order", api.Stream{}, []byte{1, 5, 2, 6, 7, 1, 8}, api.Stream{}, []api.Chunk{good(5), good(6, 7), good(8)}},
		{"a frame and a beginning", api.Stream{}, []byte{1, 5, 2, 6}, held(2, 6), []api.Chunk{good(5)}},
		{"a frame and half a length", api.Stream{}, []byte{1, 5, 130}, held(130), []api.Chunk{good(5)}},
		{"half a length", api.Stream{}, []byte{255, 255}, held(255, 255), nil},
		{"most of a length", api.Stream{}, bytes.Repeat([]byte{128}, 9), held(bytes.Repeat([]byte{128}, 9)...), nil},
		{"no byte more", held(2, 7), nil, held(2, 7), nil},
		{"a body that looks like lengths", api.Stream{}, []byte{4, 128, 0, 255, 9}, api.Stream{}, []api.Chunk{good(128, 0, 255, 9)}},
		{"the end of a length", held(130), []byte{1, 9}, held(130, 1, 9), nil},
		{"the end of a length that is too great", held(129), []byte{32}, api.Stream{Skip: 4097}, []api.Chunk{oversize}},
		{"the end of a wrong length", held(129), []byte{0}, broken, []api.Chunk{malformed}},
		{"behind a length that is too great", api.Stream{}, []byte{129, 32, 1, 5, 129, 0}, api.Stream{Skip: 4093}, []api.Chunk{oversize}},
		{"nothing is skipped", api.Stream{Skip: 5}, nil, api.Stream{Skip: 5}, nil},
		{"not all is skipped", api.Stream{Skip: 5}, []byte{0, 128, 0, 1}, api.Stream{Skip: 1}, nil},
		{"all is skipped", api.Stream{Skip: 5}, []byte{0, 128, 0, 1, 0}, api.Stream{}, nil},
		{"what follows it", api.Stream{Skip: 5}, []byte{0, 128, 0, 1, 0, 1, 6, 2}, held(2), []api.Chunk{good(6)}},
		{"another that is too long follows it", api.Stream{Skip: 1}, []byte{7, 130, 32, 7}, api.Stream{Skip: 4097}, []api.Chunk{oversize}},
		{"a wrong length follows it", api.Stream{Skip: 1}, []byte{7, 128, 0, 7}, broken, []api.Chunk{malformed}},
		{"a wrong length", api.Stream{}, []byte{128, 0}, broken, []api.Chunk{malformed}},
		{"frames around it", api.Stream{}, []byte{1, 5, 128, 0, 1, 6, 0, 129, 32, 128, 0}, broken, []api.Chunk{good(5), malformed}},
		{"for ever", broken, []byte{1, 5, 0, 129, 32, 128, 0}, broken, nil},
		{"nothing for it", broken, nil, broken, nil},
	} {
		check(t, x.what, x.s, x.piece, x.want, x.chunks...)
	}
}

// P6.1: every length that a body may have; its chunk comes with its last byte, and not earlier.
func TestLengthsOfBodies(t *testing.T) {
	for n := range 4097 {
		body := row(n)
		f := whole(body)
		last := len(f) - 1
		check(t, "a frame", api.Stream{}, f, api.Stream{}, good(body...))
		check(t, "a frame and more", api.Stream{}, append(slices.Clone(f), 1, 9, 2), held(2), good(body...), good(9))
		s := check(t, "all but a byte", api.Stream{}, f[:last], held(f[:last]...))
		check(t, "this byte", s, f[last:], api.Stream{}, good(body...))
	}
}

// P6.1: lengths that are too great: each is skipped as such, and not only by its lowest bits.
func TestLengthsThatAreTooGreat(t *testing.T) {
	l := []uint64{4097, 4098, 8191, 8192, 16383, 16384, 65536, math.MaxUint64 - 1, math.MaxUint64}
	for i := 13; i < 64; i++ {
		l = append(l, 1<<i, 1<<i+1, 1<<i-1, 1<<i+4096)
	}
	for _, n := range l {
		b := varint.Append(nil, n)
		last := len(b) - 1
		check(t, "a length", api.Stream{}, b, api.Stream{Skip: n}, oversize)
		s := check(t, "all but a byte", api.Stream{}, b[:last], held(b[:last]...))
		s = check(t, "this byte", s, b[last:], api.Stream{Skip: n}, oversize)
		s = check(t, "bytes to be skipped", s, row(4000), api.Stream{Skip: n - 4000})
		check(t, "more in one piece with the length", api.Stream{}, append(b, row(4000)...), s, oversize)
	}
}

// P6.1: a length of a wrong form breaks the stream with its last byte, and for ever.
func TestWrongLengths(t *testing.T) {
	for _, b := range wrong() {
		last := len(b) - 1
		s := check(t, "all but a byte", api.Stream{}, b[:last], held(b[:last]...))
		s = check(t, "this byte", s, b[last:], broken, malformed)
		s = check(t, "a frame behind it", s, whole(row(9)), broken)
		s = check(t, "another wrong length", s, b, broken)
		check(t, "many frames", s, make([]byte, 10000), broken)
		check(t, "all at once", api.Stream{}, slices.Concat([]byte{1, 5}, b, []byte{1, 6}, b), broken, good(5), malformed)
	}
}

// P6.2
func TestIdle(t *testing.T) {
	for _, x := range []struct {
		s    api.Stream
		want bool
	}{
		{api.Stream{}, true},
		{api.Stream{Buffer: []byte{}}, true},
		{api.Stream{Buffer: make([]byte, 0, 9)}, true},
		{held(0), false},
		{held(128), false},
		{held(2, 7), false},
		{api.Stream{Skip: 1}, false},
		{api.Stream{Skip: 4097}, false},
		{api.Stream{Skip: 1 << 63}, false},
		{api.Stream{Skip: math.MaxUint64}, false},
		{broken, false},
		{api.Stream{Buffer: []byte{2, 7}, Skip: 1}, false},
		{api.Stream{Buffer: []byte{2, 7}, Broken: true}, false},
		{api.Stream{Skip: 1, Broken: true}, false},
	} {
		if got := stream.Idle(x.s); got != x.want {
			t.Errorf("Idle(%+v) = %t", x.s, got)
		}
	}
}

// P6.2: a stream is idle between two frames, and nowhere else.
func TestIdleBetweenFrames(t *testing.T) {
	var s api.Stream
	for i, c := range []byte{2, 7, 9, 0, 1, 128} {
		s, _ = stream.Feed(s, []byte{c})
		if got, want := stream.Idle(s), i == 2 || i == 3 || i == 5; got != want {
			t.Errorf("after %d bytes, Idle is %t", i+1, got)
		}
	}
	s, _ = stream.Feed(s, varint.Append(nil, 5000))
	for i := range 5000 {
		if stream.Idle(s) {
			t.Fatalf("the stream is idle when %d bytes of 5000 are skipped", i)
		}
		s, _ = stream.Feed(s, []byte{0})
	}
	if !stream.Idle(s) {
		t.Error("the stream is not idle behind a frame that is too long")
	}
}

// mixed returns frames of all sorts one after another, and the chunks that they have.
func mixed(r *rand.Rand, count int) (b []byte, chunks []api.Chunk) {
	sizes := []int{0, 1, 2, 127, 128, 129, 300, 4095, 4096, 4097, 4098, 9000}
	for range count {
		body := make([]byte, sizes[r.Intn(len(sizes))]>>(r.Intn(3)*r.Intn(3)))
		r.Read(body)
		b = append(b, whole(body)...)
		if len(body) > 4096 {
			chunks = append(chunks, oversize)
		} else {
			chunks = append(chunks, good(body...))
		}
	}
	return b, chunks
}

// feedIn feeds pieces whose sizes next returns, and checks the buffer after each.
func feedIn(t *testing.T, b []byte, next func() int) (s api.Stream, chunks []api.Chunk) {
	t.Helper()
	for len(b) > 0 {
		n := min(next(), len(b))
		var more []api.Chunk
		s, more = stream.Feed(s, b[:n])
		chunks, b = append(chunks, more...), b[n:]
		if len(s.Buffer) > 4096+2 {
			t.Fatalf("the buffer has %d bytes", len(s.Buffer))
		}
	}
	return s, chunks
}

// P6.3: frames that are cut into any pieces have the same chunks and leave the same stream, and those that are too long cost no other.
func TestCuts(t *testing.T) {
	r := rand.New(rand.NewSource(6))
	wrongs := wrong()
	for round := range 300 {
		b, chunks := mixed(r, 1+r.Intn(12))
		var want api.Stream
		switch r.Intn(4) {
		case 0:
			b, chunks, want = slices.Concat(b, wrongs[r.Intn(len(wrongs))], row(50)), append(chunks, malformed), broken
		case 1:
			b, want = append(b, 200, 1, 7, 7), held(200, 1, 7, 7)
		case 2:
			b, chunks, want = append(b, 255, 127, 7, 7), append(chunks, oversize), api.Stream{Skip: 16381}
		}
		most := 1 << r.Intn(14)
		for _, next := range []func() int{
			func() int { return len(b) },
			func() int { return 1 + r.Intn(most) },
			func() int { return r.Intn(3) },
		} {
			s, c := feedIn(t, b, next)
			if !sameStream(s, want) || !slices.EqualFunc(c, chunks, sameChunk) {
				t.Fatalf("round %d: %s and %s, want %s and %s", round, short(s), short(c), short(want), short(chunks))
			}
		}
	}
}

// P6.3: every cut into two pieces, and into single bytes.
func TestTwoPieces(t *testing.T) {
	b := slices.Concat([]byte{3, 1, 2, 3, 0, 2, 128, 0}, whole(row(200)), whole(row(4500)), []byte{1, 5, 0}, whole(row(130)), []byte{200, 128, 0, 1, 1})
	chunks := []api.Chunk{good(1, 2, 3), good(), good(128, 0), good(row(200)...), oversize, good(5), good(), good(row(130)...), malformed}
	check(t, "at once", api.Stream{}, b, broken, chunks...)
	for i := range b {
		s, first := stream.Feed(api.Stream{}, b[:i])
		n := len(first)
		if n > len(chunks) || !slices.EqualFunc(first, chunks[:n], sameChunk) {
			t.Fatalf("the first %d bytes have the chunks %s", i, short(first))
		}
		check(t, "the other bytes", s, b[i:], broken, chunks[n:]...)
	}
	s, c := feedIn(t, b, func() int { return 1 })
	if !sameStream(s, broken) || !slices.EqualFunc(c, chunks, sameChunk) {
		t.Errorf("byte by byte: %s and %s", short(s), short(c))
	}
}

// P6.3: the longest body is all that the buffer has room for.
func TestBufferOfTheLongestFrame(t *testing.T) {
	var s api.Stream
	body := row(4096)
	f := whole(body)
	for i, c := range f[:4097] {
		s = check(t, "a byte", s, []byte{c}, held(f[:i+1]...))
	}
	check(t, "the last byte", s, f[4097:], api.Stream{}, good(body...))
	check(t, "the last byte and many", s, append(f[4097:], make([]byte, 9000)...), api.Stream{}, append([]api.Chunk{good(body...)}, make([]api.Chunk, 9000)...)...)
}

// P6.3: of three frames with events, the one that is too long is the only one that is lost.
func TestFramesOfEvents(t *testing.T) {
	x := api.Event{Time: 5, Weight: 2, Tags: []api.Tag{{Name: "a", Value: "v"}}}
	one, e := frame.Encode([]api.Event{x})
	two, f := frame.Encode([]api.Event{x, x})
	item, g := event.Item(x)
	if e != api.OK || f != api.OK || g != api.OK {
		t.Fatalf("the errors are %d, %d and %d", e, f, g)
	}
	_, c := feedIn(t, slices.Concat(one, whole(make([]byte, 4097)), two), func() int { return 100 })
	if len(c) != 3 || !sameChunk(c[1], oversize) {
		t.Fatalf("the chunks are %s", short(c))
	}
	want := []api.Input{{Item: item}, {Item: item}}
	if !slices.Equal(frame.Read(c[0].Body, api.MaxKey), want[:1]) || !slices.Equal(frame.Read(c[2].Body, api.MaxKey), want) {
		t.Errorf("the chunks %s do not have the events that were sent", short(c))
	}
}

// spoil writes to all memory of b.
func spoil(b []byte) {
	b = b[:cap(b)]
	for i := range b {
		b[i] = 77
	}
}

// P6.1 with R4: an argument, and what lies behind it, stays as it is.
func TestArgumentsStay(t *testing.T) {
	memory := []byte{9, 3, 1, 9, 9, 9, 9, 9}
	kept := slices.Clone(memory)
	piece := []byte{2, 3, 2, 8}
	s := api.Stream{Buffer: memory[1:3]}
	check(t, "a piece", s, piece, held(2, 8), good(1, 2, 3))
	check(t, "the same again", s, piece, held(2, 8), good(1, 2, 3))
	check(t, "another one", s, []byte{5}, held(3, 1, 5))
	check(t, "none", s, nil, held(3, 1))
	if !bytes.Equal(memory, kept) || !bytes.Equal(piece, []byte{2, 3, 2, 8}) {
		t.Errorf("the arguments became %v and %v", memory, piece)
	}
	if !sameStream(s, held(3, 1)) {
		t.Errorf("the stream became %+v", s)
	}
}

// P6.1 with R4: to write into one result, or into an argument, changes no other result.
func TestResultsAreNew(t *testing.T) {
	before := append(make([]byte, 0, 64), 2, 7)
	piece := []byte{9, 3, 4, 5, 6, 0, 200, 1, 8, 8}
	s, first := stream.Feed(held(before...), piece)
	later, _ := stream.Feed(s, []byte{8})
	again, second := stream.Feed(held(before...), piece)
	spoil(before)
	spoil(piece)
	for _, b := range [][]byte{s.Buffer, first[0].Body, first[2].Body, second[0].Body, later.Buffer} {
		spoil(b)
	}
	if !sameStream(again, held(200, 1, 8, 8)) || !bytes.Equal(second[1].Body, []byte{4, 5, 6}) || !bytes.Equal(first[1].Body, []byte{4, 5, 6}) {
		t.Errorf("results became %+v, %+v and %+v", again, first, second)
	}

	for _, empty := range [][]byte{nil, {}} {
		buffer := append(make([]byte, 0, 64), 2, 7)
		s, _ := stream.Feed(api.Stream{Buffer: buffer}, empty)
		spoil(buffer)
		if !sameStream(s, held(2, 7)) {
			t.Errorf("a stream that was fed nothing became %+v", s)
		}
	}
}

// R1: streams that no Feed returned do not have to mean anything, but the call ends, and an ignored byte stays ignored.
func TestStreamsThatWereNotReturned(t *testing.T) {
	buffers := append(wrong(), nil, []byte{0}, []byte{0, 0, 0}, []byte{1, 5, 6}, []byte{129, 32}, []byte{129, 32, 5}, whole(row(4096)), whole(row(5000)), row(20000), bytes.Repeat([]byte{128}, 30))
	for _, b := range buffers {
		for _, skip := range []uint64{0, 1, 5, math.MaxUint64} {
			for _, piece := range [][]byte{nil, {0}, {128}, {255, 1, 0, 0, 0, 0, 0}, row(9000)} {
				stream.Feed(api.Stream{Buffer: b, Skip: skip}, piece)
				s := api.Stream{Buffer: b, Skip: skip, Broken: true}
				check(t, "a broken stream", s, piece, s)
			}
		}
	}
}

// P6.1, P6.3: any bytes in any two pieces are handled as each byte by itself.
func FuzzFeed(f *testing.F) {
	f.Add([]byte{2, 7, 9, 0}, uint16(2))
	f.Add(slices.Concat([]byte{1, 5}, whole(row(4097)), []byte{2, 6}), uint16(4099))
	f.Add(append(whole(row(4096)), 130, 1), uint16(1))
	f.Add([]byte{1, 6, 128, 0, 1, 7}, uint16(3))
	f.Add(append(bytes.Repeat([]byte{255}, 9), 1, 1), uint16(10))
	f.Add(append(bytes.Repeat([]byte{128}, 9), 2, 0), uint16(9))
	f.Fuzz(func(t *testing.T, b []byte, cut uint16) {
		i := min(int(cut), len(b))
		s, chunks := expected(api.Stream{}, b[:i])
		check(t, "the first piece", api.Stream{}, b[:i], s, chunks...)
		next, more := expected(s, b[i:])
		check(t, "the second piece", s, b[i:], next, more...)
		check(t, "at once", api.Stream{}, b, next, append(chunks, more...)...)
	})
}
