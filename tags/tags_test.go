package tags_test

import (
	"math/rand"
	"regexp"
	"slices"
	"strings"
	"testing"

	"heavykeys/api"
	"heavykeys/tags"
)

// all is a name of MaxName bytes.
const all = "abcdefghijklmnopqrstuvwxyz012345"

var nameForm = regexp.MustCompile(`^[a-z0-9_.-]+$`)

func text(n int) string { return strings.Repeat("x", n) }

// of returns tags from names and values in turn.
func of(x ...string) []api.Tag {
	var l []api.Tag
	for i := 0; i+1 < len(x); i += 2 {
		l = append(l, api.Tag{Name: x[i], Value: x[i+1]})
	}
	return l
}

// lengths returns tags with the names a, b and so on, and values of these lengths.
func lengths(n ...int) []api.Tag {
	var l []api.Tag
	for i, size := range n {
		l = append(l, api.Tag{Name: string(rune('a' + i)), Value: text(size)})
	}
	return l
}

func checkSort(t *testing.T, l, want []api.Tag, e api.Errno) {
	t.Helper()
	if got, f := tags.Sort(l); f != e || !slices.Equal(got, want) {
		t.Errorf("Sort(%q) = %q, %d, want %q, %d", l, got, f, want, e)
	}
}

func checkKey(t *testing.T, l []api.Tag, want string, e api.Errno) {
	t.Helper()
	if got, f := tags.Key(l); f != e || got != want {
		t.Errorf("Key(%q) = %q, %d, want %q, %d", l, got, f, want, e)
	}
}

func checkSplit(t *testing.T, key string, want []api.Tag, e api.Errno) {
	t.Helper()
	if got, f := tags.Split(key); f != e || !slices.Equal(got, want) {
		t.Errorf("Split(%q) = %q, %d, want %q, %d", key, got, f, want, e)
	}
}

// P3.1: the first error of a tag.
func TestValid(t *testing.T) {
	for _, x := range []struct {
		name, value string
		e           api.Errno
	}{
		{"a", "", api.OK},
		{"host", "web-1", api.OK},
		{"0", "x", api.OK},
		{"_.-", "x", api.OK},
		{"-", "-", api.OK},
		{all, "", api.OK},
		{all, text(64), api.OK},
		{"a", text(64), api.OK},
		{"a", strings.Repeat("\x00", 64), api.OK},
		{"", "", api.ErrForm},
		{"", "x", api.ErrForm},
		{"App", "x", api.ErrForm},
		{"a b", "x", api.ErrForm},
		{"a\x00", "x", api.ErrForm},
		{"a\n", "x", api.ErrForm},
		{"\u00e4", "x", api.ErrForm},
		{"a,b", "x", api.ErrForm},
		{"a/b", "x", api.ErrForm},
		{"a:b", "x", api.ErrForm},
		{all + "6", "", api.ErrLong},
		{all + all, "", api.ErrLong},
		{text(5000), "", api.ErrLong},
		{"a", text(65), api.ErrLong},
		{"a", text(70000), api.ErrLong},
		{all + "6", text(65), api.ErrLong},
		// The form comes first, even where the wrong byte is behind what is too long.
		{"", text(65), api.ErrForm},
		{"A", text(65), api.ErrForm},
		{all + "A", "", api.ErrForm},
		{text(5000) + " ", text(65), api.ErrForm},
	} {
		if got := tags.Valid(api.Tag{Name: x.name, Value: x.value}); got != x.e {
			t.Errorf("Valid(%q, %q) = %d, want %d", x.name, x.value, got, x.e)
		}
	}
}

// P3.1: every byte, at each place of a name, and in a value.
func TestValidBytes(t *testing.T) {
	for c := range 256 {
		b := string([]byte{byte(c)})
		for _, name := range []string{b, b + "a", "a" + b, "a" + b + "a", all[:31] + b, all + b} {
			want := api.OK
			if !nameForm.MatchString(name) {
				want = api.ErrForm
			} else if len(name) > 32 {
				want = api.ErrLong
			}
			if got := tags.Valid(api.Tag{Name: name}); got != want {
				t.Errorf("the name %q has the error %d, want %d", name, got, want)
			}
		}
		if got := tags.Valid(api.Tag{Name: "a", Value: b}); got != api.OK {
			t.Errorf("the value %q has the error %d", b, got)
		}
	}
}

// P3.2: tags in the order of the bytes of their names, whatever their values.
func TestSort(t *testing.T) {
	for _, x := range []struct{ l, want []api.Tag }{
		{of("a", ""), of("a", "")},
		{of("host", "a", "app", "x1"), of("app", "x1", "host", "a")},
		{of("app", "x1", "host", "a"), of("app", "x1", "host", "a")},
		{of("b", "1", "a", "2"), of("a", "2", "b", "1")},
		{of("ab", "", "a", "", "b", "", "aa", ""), of("a", "", "aa", "", "ab", "", "b", "")},
		{of("b", "", "aa", ""), of("aa", "", "b", "")},
		{of("a", "", "_", "", "0", "", ".", "", "-", ""), of("-", "", ".", "", "0", "", "_", "", "a", "")},
		{of("a10", "", "a9", ""), of("a10", "", "a9", "")},
		{of("b", "same", "a", "same"), of("a", "same", "b", "same")},
		{of(all, text(64), all[:31], ""), of(all[:31], "", all, text(64))},
	} {
		checkSort(t, x.l, x.want, api.OK)
	}
}

// P3.2, P3.3: the first error of tags, with and without the limit of a key.
func TestSortAndKeyErrors(t *testing.T) {
	eight := lengths(0, 0, 0, 0, 0, 0, 0, 0)
	nine := lengths(0, 0, 0, 0, 0, 0, 0, 0, 0)
	for _, x := range []struct {
		what string
		l    []api.Tag
		e    api.Errno
	}{
		{"nil", nil, api.ErrTags},
		{"none", []api.Tag{}, api.ErrTags},
		{"nine", nine, api.ErrTags},
		{"nine, one of the wrong form", append(of("A", ""), eight...), api.ErrTags},
		{"nine, one too long", append(of("z", text(65)), eight...), api.ErrTags},
		{"nine, two the same", append(of("a", ""), eight...), api.ErrTags},
		{"hundreds", slices.Repeat(eight, 100), api.ErrTags},
		{"one of the wrong form", of("App", "x"), api.ErrForm},
		{"one without a name", of("", "x"), api.ErrForm},
		{"one with a long name", of(all+"6", ""), api.ErrLong},
		{"one with a long value", of("a", text(65)), api.ErrLong},
		{"the last one wrong", append(eight[:7:7], of("B", "")...), api.ErrForm},
		{"the form before the length", of("A", "", "b", text(65)), api.ErrForm},
		{"the length before the form", of("b", text(65), "A", ""), api.ErrLong},
		{"the length in front, though its name is greater", of("z", text(65), "A", ""), api.ErrLong},
		{"two the same", of("app", "1", "app", "2"), api.ErrTags},
		{"two the same in all", of("app", "1", "app", "1"), api.ErrTags},
		{"two the same, apart", of("a", "1", "b", "", "a", "2"), api.ErrTags},
		{"two the same, apart, the greatest", of("c", "", "a", "", "b", "", "c", ""), api.ErrTags},
		{"two the same of eight", append(eight[:7:7], of("a", "")...), api.ErrTags},
		{"two the same, then a wrong form", of("a", "", "a", "", "B", ""), api.ErrForm},
		{"two the same, then a length", of("a", "", "a", "", "b", text(65)), api.ErrLong},
		{"two without names", of("", "", "", ""), api.ErrForm},
		{"two long names that are the same", of(all+"6", "", all+"6", ""), api.ErrLong},
		{"two the same, and too long for a key", append(lengths(64, 64, 64, 64), of("a", "")...), api.ErrTags},
	} {
		if got, e := tags.Sort(x.l); e != x.e || len(got) != 0 {
			t.Errorf("%s: Sort gives %q, %d, want the error %d", x.what, got, e, x.e)
		}
		if got, e := tags.Key(x.l); e != x.e || got != "" {
			t.Errorf("%s: Key gives %q, %d, want the error %d", x.what, got, e, x.e)
		}
	}
	checkSort(t, eight, eight, api.OK)
}

// P3.3: the bytes of a key.
func TestKey(t *testing.T) {
	for _, x := range []struct {
		l    []api.Tag
		want string
	}{
		{of("host", "a", "app", "x1"), "\x03app\x02x1\x04host\x01a"},
		{of("app", "x1", "host", "a"), "\x03app\x02x1\x04host\x01a"},
		{of("a", ""), "\x01a\x00"},
		{of("a", "\x00\xff\n"), "\x01a\x03\x00\xff\n"},
		{of("b", "", "a", ""), "\x01a\x00\x01b\x00"},
		{of("aa", "1", "a", "2"), "\x01a\x012\x02aa\x011"},
		{of("b", "1", "aa", "2"), "\x02aa\x012\x01b\x011"},
		{of(all, text(64)), "\x20" + all + "\x40" + text(64)},
		{lengths(0, 1, 0, 0, 0, 0, 0, 2), "\x01a\x00\x01b\x01x\x01c\x00\x01d\x00\x01e\x00\x01f\x00\x01g\x00\x01h\x02xx"},
	} {
		checkKey(t, x.l, x.want, api.OK)
	}
}

// P3.3: a key has up to MaxKey bytes, and longer ones are refused, though their tags can be sorted.
func TestKeyLimit(t *testing.T) {
	full := lengths(64, 64, 64, 51)
	if key, e := tags.Key(full); e != api.OK || len(key) != 255 {
		t.Errorf("tags of 255 bytes have a key of %d bytes and the error %d", len(key), e)
	}
	wide := of(all, text(64), all[:31], text(64), "a", text(57))
	if key, e := tags.Key(wide); e != api.OK || len(key) != 255 {
		t.Errorf("tags of 255 bytes with long names have a key of %d bytes and the error %d", len(key), e)
	}
	for _, l := range [][]api.Tag{
		lengths(64, 64, 64, 52),
		lengths(64, 64, 64, 64),
		lengths(64, 64, 64, 64, 64, 64, 64, 64),
		of("a", text(58), all[:31], text(64), all, text(64)),
	} {
		checkKey(t, l, "", api.ErrLong)
		checkSort(t, l, l, api.OK)
	}
}

// P3.4: keys, and strings that are none.
func TestSplit(t *testing.T) {
	checkSplit(t, "\x03app\x02x1\x04host\x01a", of("app", "x1", "host", "a"), api.OK)
	checkSplit(t, "\x01a\x00", of("a", ""), api.OK)
	checkSplit(t, "\x01a\x02\x00\xff\x01b\x00", of("a", "\x00\xff", "b", ""), api.OK)
	checkSplit(t, "\x20"+all+"\x40"+text(64), of(all, text(64)), api.OK)

	for what, key := range map[string]string{
		"empty":                           "",
		"one byte":                        "\x00",
		"one length":                      "\x01",
		"no name":                         "\x00\x00",
		"a value without a name":          "\x00\x01x",
		"no value":                        "\x01a",
		"a short name":                    "\x02a",
		"a name that takes all":           "\x02a\x01",
		"a short value":                   "\x01a\x01",
		"a shorter value":                 "\x01a\x05xxxx",
		"another length":                  "\x01a\x00\x01",
		"another byte":                    "\x01a\x00x",
		"a second tag without a value":    "\x01a\x00\x01b",
		"a second tag with a short value": "\x01a\x00\x01b\x02x",
		"a byte 0 behind it":              "\x01a\x00\x00",
		"a wrong name":                    "\x01A\x00",
		"a second tag with a wrong name":  "\x01a\x00\x01 \x00",
		"descending":                      "\x01b\x00\x01a\x00",
		"descending later":                "\x01a\x00\x01c\x00\x01b\x00",
		"the same name":                   "\x01a\x00\x01a\x00",
		"the same name, other values":     "\x01a\x011\x01a\x012",
		"a longer name first":             "\x02aa\x00\x01a\x00",
		"a long name":                     "\x21" + all + "6\x00",
		"a long value":                    "\x01a\x41" + text(65),
		"a name of 252 bytes":             "\xfc" + text(252) + "\x00",
		"a length of 255":                 "\x01a\xff" + text(252),
		"a length of 255 alone":           "\xff",
		"nine tags":                       "\x01a\x00\x01b\x00\x01c\x00\x01d\x00\x01e\x00\x01f\x00\x01g\x00\x01h\x00\x01i\x00",
		"only lengths of 0":               strings.Repeat("\x00", 255),
		"85 tags":                         strings.Repeat("\x01a\x00", 85),
	} {
		if got, e := tags.Split(key); e != api.ErrForm || len(got) != 0 {
			t.Errorf("%s: Split gives %q, %d, want the error %d", what, got, e, api.ErrForm)
		}
	}
}

// P3.4: the limit of a key comes first, whatever the bytes are.
func TestSplitLimit(t *testing.T) {
	full := lengths(64, 64, 64, 51)
	key, _ := tags.Key(full)
	checkSplit(t, key, full, api.OK)

	long := key[:len(key)-52] + "\x34" + text(52)
	checkSplit(t, long, nil, api.ErrLong)
	checkSplit(t, key+"x", nil, api.ErrLong)
	checkSplit(t, strings.Repeat("\x00", 256), nil, api.ErrLong)
	checkSplit(t, text(100000), nil, api.ErrLong)
	checkSplit(t, text(255), nil, api.ErrForm)
}

// P3.2, P3.4 with R4: an argument stays as it is, and no result shares memory with it or with another result.
func TestResultsAreNew(t *testing.T) {
	for _, l := range [][]api.Tag{
		of("c", "3", "b", "2", "a", "1"),
		of("a", "1", "b", "2", "c", "3"),
		of("a", "1"),
	} {
		before := slices.Clone(l)
		first, _ := tags.Sort(l)
		second, _ := tags.Sort(l)
		key, _ := tags.Key(l)
		third, _ := tags.Split(key)
		fourth, _ := tags.Split(key)
		want := slices.Clone(third)
		spoil(first)
		spoil(third)
		if !slices.Equal(l, before) {
			t.Errorf("%q became %q", before, l)
		}
		if !slices.Equal(second, want) || !slices.Equal(fourth, want) {
			t.Errorf("results became %q and %q", second, fourth)
		}
	}
}

// spoil writes to all memory of l.
func spoil(l []api.Tag) {
	l = l[:cap(l)]
	for i := range l {
		l[i] = api.Tag{Name: "spoilt"}
	}
}

// P3.2 with R4: where there is an error, the argument stays as it is, too.
func TestArgumentsStayAtErrors(t *testing.T) {
	for _, l := range [][]api.Tag{
		of("b", "", "a", "", "b", ""),
		of("b", "", "a", "", "C", ""),
		append(of("z", ""), lengths(64, 64, 64, 64)...),
	} {
		before := slices.Clone(l)
		tags.Sort(l)
		tags.Key(l)
		if !slices.Equal(l, before) {
			t.Errorf("%q became %q", before, l)
		}
	}
}

// some returns n tags with different valid names, in pseudo-random order.
func some(r *rand.Rand, n int) []api.Tag {
	const bytes = "abz019_.-"
	names := map[string]bool{}
	var l []api.Tag
	for len(l) < n {
		name := ""
		for range 1 + r.Intn(4) {
			name += string(bytes[r.Intn(len(bytes))])
		}
		if !names[name] {
			names[name] = true
			value := make([]byte, r.Intn(20))
			r.Read(value)
			l = append(l, api.Tag{Name: name, Value: string(value)})
		}
	}
	return l
}

// P3.5: the key is the same for all orders of the tags, and Split returns them.
func TestKeyOfAllOrders(t *testing.T) {
	r := rand.New(rand.NewSource(3))
	for i := range 3000 {
		l := some(r, 1+i%8)
		key, e := tags.Key(l)
		if e != api.OK {
			t.Fatalf("Key(%q) has the error %d", l, e)
		}
		want := slices.SortedFunc(slices.Values(l), func(a, b api.Tag) int { return strings.Compare(a.Name, b.Name) })
		for range 5 {
			r.Shuffle(len(l), func(i, j int) { l[i], l[j] = l[j], l[i] })
			checkSort(t, l, want, api.OK)
			checkKey(t, l, key, api.OK)
		}
		checkSplit(t, key, want, api.OK)
	}
}

// P3.5: values that look like parts of a key do not make two sets of tags alike.
func TestKeysDiffer(t *testing.T) {
	names := []string{"a", "b", "aa", "ab"}
	values := []string{"", "a", "b", "\x00", "\x01", "\x01b\x00", "\x00\x01b", "a\x00\x01b", "\x01a\x01b\x00"}
	// At first the set without tags, which has no key, then those with each name in turn.
	sets := [][]api.Tag{nil}
	for _, name := range names {
		for _, l := range slices.Clone(sets) {
			for _, value := range values {
				sets = append(sets, append(slices.Clone(l), api.Tag{Name: name, Value: value}))
			}
		}
	}
	seen := map[string][]api.Tag{}
	for _, l := range sets[1:] {
		key, e := tags.Key(l)
		if e != api.OK {
			t.Fatalf("Key(%q) has the error %d", l, e)
		}
		if other, ok := seen[key]; ok {
			t.Fatalf("%q and %q have the same key %q", l, other, key)
		}
		seen[key] = l
	}
}

// canonical reports whether a string is a key, from the words of P3.1 to P3.3, without the package.
func canonical(key string) bool {
	last, count := "", 0
	for rest := key; rest != ""; count++ {
		n := int(rest[0])
		if n > 32 || len(rest) < n+2 || !nameForm.MatchString(rest[1:1+n]) || rest[1:1+n] <= last {
			return false
		}
		last, rest = rest[1:1+n], rest[1+n:]
		n = int(rest[0])
		if n > 64 || len(rest) < n+1 {
			return false
		}
		rest = rest[1+n:]
	}
	return count >= 1 && count <= 8
}

// checkForm holds Split against the words of P3.4 for any string.
func checkForm(t *testing.T, key string) {
	t.Helper()
	l, e := tags.Split(key)
	want := api.ErrForm
	if len(key) > 255 {
		want = api.ErrLong
	} else if canonical(key) {
		want = api.OK
	}
	if e != want {
		t.Fatalf("Split(%q) has the error %d, want %d", key, e, want)
	}
	if e != api.OK {
		if len(l) != 0 {
			t.Fatalf("Split(%q) gives %q with an error", key, l)
		}
		return
	}
	slices.Reverse(l)
	checkKey(t, l, key, api.OK)
}

// P3.4, P3.5: all strings of some lengths over bytes that lengths and names are made of.
func TestSplitOfAllForms(t *testing.T) {
	bytes := []byte{0, 1, 2, 'a', 'b', 'A'}
	forms := []string{""}
	for range 6 {
		var longer []string
		for _, s := range forms {
			checkForm(t, s)
			for _, c := range bytes {
				longer = append(longer, s+string(c))
			}
		}
		forms = longer
	}
	for _, s := range forms {
		checkForm(t, s)
	}
}

// P3.4, P3.5: keys in which a byte is changed, missing or added.
func TestSplitOfChangedKeys(t *testing.T) {
	r := rand.New(rand.NewSource(4))
	for i := range 20000 {
		key, _ := tags.Key(some(r, 1+i%8))
		at := r.Intn(len(key))
		other := string([]byte{byte(r.Intn(256))})
		checkForm(t, key)
		checkForm(t, key[:at])
		checkForm(t, key[at:])
		checkForm(t, key[:at]+key[at+1:])
		checkForm(t, key[:at]+other+key[at:])
		checkForm(t, key[:at]+other+key[at+1:])
	}
}

// P3.4, P3.5: any string is refused, or is the key of the tags that are read from it.
func FuzzSplit(f *testing.F) {
	for _, key := range []string{
		"",
		"\x03app\x02x1\x04host\x01a",
		"\x01b\x00\x01a\x00",
		"\x01a\x00\x01a\x00",
		"\x20" + all + "\x40" + text(64),
		"\x21" + all + "6\x00",
		text(256),
	} {
		f.Add(key)
	}
	f.Fuzz(func(t *testing.T, key string) { checkForm(t, key) })
}
