package root

import (
	"bytes"
	"encoding/hex"
	"math/rand"
	"slices"
	"strings"
	"testing"
	"unicode/utf8"

	"areopagus/api"
)

// filled is a root of the same byte throughout.
func filled(b byte) api.Root {
	var r api.Root
	for i := range r {
		r[i] = b
	}
	return r
}

// with is r, but for one byte.
func with(r api.Root, place int, b byte) api.Root {
	r[place] = b
	return r
}

// mixed is a root in which no two bytes are the same, and in which digits of both kinds stand.
func mixed() api.Root {
	var r api.Root
	for i := range r {
		r[i] = byte(i*41 + 7)
	}
	return r
}

// samples are roots around the edges: the least and the greatest one, and those that differ from another one at one place only.
func samples() []api.Root {
	l := []api.Root{{}, filled(255), filled(1), filled(16), filled(127), filled(128), mixed()}
	for _, r := range slices.Clone(l) {
		for _, place := range []int{0, 1, 15, 16, 30, 31} {
			for _, b := range []byte{0, 1, 9, 10, 15, 16, 127, 128, 159, 160, 254, 255} {
				l = append(l, with(r, place, b))
			}
		}
	}
	return l
}

// someRoots are roots by chance, the same ones each time, of few values where few is so.
func someRoots(n int, few bool) []api.Root {
	chance := rand.New(rand.NewSource(2))
	l := make([]api.Root, n)
	for i := range l {
		if few {
			l[i] = with(filled(0), chance.Intn(32), byte(chance.Intn(3)))
		} else {
			chance.Read(l[i][:])
		}
	}
	return l
}

// P2.1
func TestLess(t *testing.T) {
	low, high := filled(0), filled(255)
	for _, c := range []struct {
		name string
		a, b api.Root
		want bool
	}{
		{"the first byte", api.Root{1}, api.Root{2}, true},
		{"the first byte, turned round", api.Root{2}, api.Root{1}, false},
		{"a later byte", api.Root{1, 0, 4}, api.Root{1, 0, 5}, true},
		{"a later byte, turned round", api.Root{1, 0, 5}, api.Root{1, 0, 4}, false},
		{"the first that differs, against all others", api.Root{1, 255, 255}, api.Root{2}, true},
		{"the first that differs, against the last", with(api.Root{1}, 31, 255), with(api.Root{2}, 31, 0), true},
		{"the first that differs, against the last, turned round", with(api.Root{2}, 31, 0), with(api.Root{1}, 31, 255), false},
		{"only the first, 0 and 255", with(high, 0, 0), high, true},
		{"only the first, 255 and 0", high, with(high, 0, 0), false},
		{"only the last, 0 and 255", with(high, 31, 0), high, true},
		{"only the last, 255 and 0", high, with(high, 31, 0), false},
		{"only the last, 0 and 1", low, with(low, 31, 1), true},
		{"only the last, 1 and 0", with(low, 31, 1), low, false},
		{"127 and 128", filled(127), filled(128), true},
		{"128 and 127", filled(128), filled(127), false},
		{"the least and the greatest", low, high, true},
		{"the greatest and the least", high, low, false},
		{"the same, least", low, low, false},
		{"the same, greatest", high, high, false},
		{"the same, mixed", mixed(), mixed(), false},
	} {
		if got := Less(c.a, c.b); got != c.want {
			t.Errorf("%s: Less(%x, %x) = %v", c.name, c.a, c.b, got)
		}
	}
}

// P2.1
func TestLessAtEachPlace(t *testing.T) {
	for place := range 32 {
		for _, pair := range [][2]byte{{0, 1}, {0, 255}, {127, 128}, {254, 255}, {9, 10}, {15, 16}} {
			// What stands behind the place is turned round, and must not be seen.
			less, more := filled(100), filled(100)
			for behind := place + 1; behind < 32; behind++ {
				less[behind], more[behind] = 255, 0
			}
			less[place], more[place] = pair[0], pair[1]
			if !Less(less, more) || Less(more, less) {
				t.Errorf("place %d: %d and %d", place, pair[0], pair[1])
			}
		}
	}
}

// P2.1
func TestLessOfSamples(t *testing.T) {
	for _, a := range samples() {
		for _, b := range samples() {
			if got := Less(a, b); got != (bytes.Compare(a[:], b[:]) < 0) {
				t.Fatalf("Less(%x, %x) = %v", a, b, got)
			}
		}
	}
}

// risingOnce sorts by the library's own order of bytes.
func risingOnce(l []api.Root) []api.Root {
	out := slices.Clone(l)
	slices.SortFunc(out, func(a, b api.Root) int { return bytes.Compare(a[:], b[:]) })
	return slices.Compact(out)
}

// holdSort also holds that the list that was handed in stays as it was, beyond its end too.
func holdSort(t *testing.T, name string, l, want []api.Root) {
	t.Helper()
	room := append(slices.Clone(l), filled(77), filled(78))
	before := slices.Clone(room)
	got := Sort(room[:len(l)])
	if !slices.Equal(got, want) {
		t.Errorf("%s: Sort(%x) = %x, want %x", name, l, got, want)
	}
	if !slices.Equal(room, before) {
		t.Errorf("%s: what was handed in has changed: %x, was %x", name, room, before)
	}
}

// P2.1
func TestSort(t *testing.T) {
	a, b, c := api.Root{1}, api.Root{1, 0, 5}, api.Root{2}
	low, high := filled(0), filled(255)
	for _, x := range []struct {
		name    string
		l, want []api.Root
	}{
		{"nil", nil, nil},
		{"empty", []api.Root{}, nil},
		{"one", []api.Root{b}, []api.Root{b}},
		{"a zero one", []api.Root{{}}, []api.Root{{}}},
		{"two", []api.Root{b, a}, []api.Root{a, b}},
		{"two the same", []api.Root{b, b}, []api.Root{b}},
		{"in order", []api.Root{a, b, c}, []api.Root{a, b, c}},
		{"turned round", []api.Root{c, b, a}, []api.Root{a, b, c}},
		{"neither", []api.Root{b, c, a}, []api.Root{a, b, c}},
		{"the same beside each other", []api.Root{c, c, a, a, a, b}, []api.Root{a, b, c}},
		{"the same apart", []api.Root{b, c, a, b, a, c, b}, []api.Root{a, b, c}},
		{"zero ones among others", []api.Root{a, {}, c, {}}, []api.Root{{}, a, c}},
		{"first and last byte only", []api.Root{high, with(high, 31, 0), with(high, 0, 0)}, []api.Root{with(high, 0, 0), with(high, 31, 0), high}},
		{"0 and 255", []api.Root{high, low, with(low, 31, 255), with(low, 0, 255)}, []api.Root{low, with(low, 31, 255), with(low, 0, 255), high}},
		{"many the same", slices.Repeat([]api.Root{c}, 500), []api.Root{c}},
		{"many of two", slices.Repeat([]api.Root{c, a}, 500), []api.Root{a, c}},
	} {
		holdSort(t, x.name, x.l, x.want)
	}
}

// P2.1
func TestSortOfManyRoots(t *testing.T) {
	for _, few := range []bool{false, true} {
		for _, n := range []int{2, 3, 11, 12, 13, 50, 51, 1000} {
			l := someRoots(n, few)
			want := risingOnce(l)
			holdSort(t, "by chance", l, want)
			holdSort(t, "in order", want, want)
			round := slices.Clone(want)
			slices.Reverse(round)
			holdSort(t, "turned round", round, want)
		}
	}
	holdSort(t, "samples", samples(), risingOnce(samples()))
}

// P2.1: each order of a short list.
func TestSortOfEachOrder(t *testing.T) {
	from := []api.Root{{}, {1}, with(api.Root{1}, 31, 1), filled(255)}
	for i := range 4 * 4 * 4 * 4 * 4 {
		var l []api.Root
		for rest, n := i, 0; n < 5; rest, n = rest/4, n+1 {
			l = append(l, from[rest%4])
		}
		holdSort(t, "each order", l, risingOnce(l))
	}
}

// P2.1, R3: later changes to what was handed in or to what was answered change nothing of the other.
func TestSortAnswersWhatIsNew(t *testing.T) {
	for _, l := range [][]api.Root{
		{{1}},
		{{1}, {2}, {3}},
		{{3}, {2}, {1}},
		{{2}, {2}, {1}, {1}},
	} {
		want := risingOnce(l)
		given := slices.Clone(l)
		first, second := Sort(given), Sort(given)
		for i := range given {
			given[i] = filled(9)
		}
		if !slices.Equal(first, want) {
			t.Errorf("Sort(%x) goes with what was handed in: %x", l, first)
		}
		for i := range first {
			first[i] = filled(8)
		}
		if !slices.Equal(second, want) || slices.Contains(given, filled(8)) {
			t.Errorf("Sort(%x) shares what it answers", l)
		}
	}
}

// P2.2
func TestText(t *testing.T) {
	for _, c := range []struct {
		r    api.Root
		want string
	}{
		{api.Root{}, strings.Repeat("0", 64)},
		{filled(255), strings.Repeat("f", 64)},
		{filled(0x0f), strings.Repeat("0f", 32)},
		{filled(0xf0), strings.Repeat("f0", 32)},
		{filled(0x9a), strings.Repeat("9a", 32)},
		{api.Root{1, 0, 255}, "0100ff" + strings.Repeat("0", 58)},
		{with(api.Root{}, 31, 1), strings.Repeat("0", 63) + "1"},
		{with(api.Root{}, 31, 255), strings.Repeat("0", 62) + "ff"},
		{api.Root{0x01, 0x23, 0x45, 0x67, 0x89, 0xab, 0xcd, 0xef}, "0123456789abcdef" + strings.Repeat("0", 48)},
	} {
		if got := Text(c.r); got != c.want {
			t.Errorf("Text(%v) = %q, want %q", c.r, got, c.want)
		}
		if got, is := Of(c.want); got != c.r || !is {
			t.Errorf("Of(%q) = %v, %v, want %v", c.want, got, is, c.r)
		}
	}
}

// P2.2
func TestTextAndOfOfEachByteAtEachPlace(t *testing.T) {
	for place := range 32 {
		for b := range 256 {
			r := with(mixed(), place, byte(b))
			want := hex.EncodeToString(r[:])
			if got := Text(r); got != want {
				t.Fatalf("Text(%v) = %q, want %q", r, got, want)
			}
			if got, is := Of(want); got != r || !is {
				t.Fatalf("Of(%q) = %v, %v, want %v", want, got, is, r)
			}
		}
	}
}

func holdNone(t *testing.T, s string) {
	t.Helper()
	if r, is := Of(s); is || r != (api.Root{}) {
		t.Errorf("Of(%q) = %v, %v, want none", s, r, is)
	}
}

// P2.2: no other length than sixty-four.
func TestOfOfEachLength(t *testing.T) {
	whole := strings.Repeat(Text(mixed()), 4)
	for n := range len(whole) + 1 {
		for _, s := range []string{whole[:n], strings.Repeat("0", n)} {
			if n != 64 {
				holdNone(t, s)
			} else if r, is := Of(s); !is || Text(r) != s {
				t.Errorf("Of(%q) = %v, %v", s, r, is)
			}
		}
	}
	for _, around := range []string{" ", "0", "\n", "\x00", "0x"} {
		holdNone(t, around+whole[:64])
		holdNone(t, whole[:64]+around)
	}
	holdNone(t, "0x"+whole[:62])
}

// put lays a sign over s, at a place, as many bytes as it is long.
func put(s string, place int, sign string) string {
	return s[:place] + sign + s[place+len(sign):]
}

// P2.2: each byte, valid or not, at each place; all but the sixteen digits are none.
func TestOfOfEachByteAtEachPlace(t *testing.T) {
	text := Text(mixed())
	for place := range len(text) {
		for b := range 256 {
			s := put(text, place, string([]byte{byte(b)}))
			if !strings.Contains("0123456789abcdef", string([]byte{byte(b)})) {
				holdNone(t, s)
			} else if r, is := Of(s); !is || Text(r) != s {
				t.Errorf("Of(%q) = %v, %v", s, r, is)
			}
		}
	}
}

// P2.2: signs of more than one byte, among them those whose number ends as a digit's does.
func TestOfOfLongSigns(t *testing.T) {
	text := Text(mixed())
	signs := []rune{0xe4, 0x130, 0x139, 0x161, 0x166, 0x3030, 0xff10, 0xff41, 0x660, 0xfffd, 0x10030, 0x10061, 0x1d7ce, 0x10ffff}
	for _, sign := range signs {
		long := string(sign)
		for place := range len(text) - len(long) + 1 {
			holdNone(t, put(text, place, long))
		}
		// As many signs as there are digits, and as many bytes.
		holdNone(t, text[:63]+long)
		holdNone(t, long+text[1:])
		holdNone(t, strings.Repeat(long, 64))
		holdNone(t, strings.Repeat(long, 64/len(long))+text[:64%len(long)])
	}
	// The front of a long sign, with nothing behind it.
	for _, broken := range []string{"\xc3", "\xe2\x82", "\xf0\x9f\x98", "\xff\xfe"} {
		if utf8.ValidString(broken) {
			t.Fatalf("%q is whole", broken)
		}
		for place := range len(text) - len(broken) + 1 {
			holdNone(t, put(text, place, broken))
		}
	}
}

// P2.2: capital digits.
func TestOfOfCapitals(t *testing.T) {
	text := strings.Repeat("abcdef01", 8)
	holdNone(t, strings.ToUpper(text))
	for place := range len(text) {
		if text[place] >= 'a' {
			holdNone(t, put(text, place, strings.ToUpper(text[place:place+1])))
		}
	}
	holdNone(t, strings.Repeat("A", 64))
	holdNone(t, strings.Repeat("F", 64))
}

// P2.3
func TestTextsStandAsRoots(t *testing.T) {
	l := slices.Concat(samples(), someRoots(100, false), someRoots(100, true))
	for _, a := range l {
		for _, b := range l {
			if Less(a, b) != (Text(a) < Text(b)) || (a == b) != (Text(a) == Text(b)) {
				t.Fatalf("%x and %x stand otherwise than %q and %q", a, b, Text(a), Text(b))
			}
		}
	}
	var texts []string
	for _, r := range Sort(l) {
		texts = append(texts, Text(r))
	}
	if !slices.IsSorted(texts) {
		t.Error("sorted roots' texts are not in order")
	}
}

// P1 and P2.2: whatever the text, Of ends, and answers a root just if its Text is that text.
func FuzzOf(f *testing.F) {
	f.Add("")
	f.Add(Text(mixed()))
	f.Add(strings.ToUpper(Text(mixed())))
	f.Add(strings.Repeat("\u00e4", 32))
	f.Add(Text(mixed())[:63] + "\xff")
	f.Fuzz(func(t *testing.T, s string) {
		r, is := Of(s)
		b, err := hex.DecodeString(s)
		want := err == nil && len(b) == 32 && s == strings.ToLower(s)
		if is != want || is && Text(r) != s || !is && r != (api.Root{}) {
			t.Errorf("Of(%q) = %v, %v", s, r, is)
		}
	})
}

// P1 and P2.1: whatever the roots.
func FuzzSort(f *testing.F) {
	f.Add([]byte{})
	f.Add(bytes.Repeat([]byte{7}, 100))
	f.Fuzz(func(t *testing.T, all []byte) {
		var l []api.Root
		for chunk := range slices.Chunk(all, 32) {
			var r api.Root
			copy(r[:], chunk)
			l = append(l, r)
		}
		holdSort(t, "fuzz", l, risingOnce(l))
	})
}
