package box

import (
	"math"
	"math/rand"
	"slices"
	"testing"

	"areopagus/api"
)

const (
	least    = math.MinInt
	greatest = math.MaxInt
)

func rooms() []int { return []int{0, 1, 2, 3, 4, 5, 6, 7, 8} }

func noRooms() []int {
	return []int{least, least + 1, -9, -8, -2, -1, 9, 10, 16, 1 << 30, greatest - 1, greatest}
}

// note hangs on its version in each part, so that one at the wrong place, or half of one, is seen.
func note(ver int) api.Note {
	return api.Note{Ver: ver, Head: api.Root{1, byte(ver), byte(ver >> 8), 31: byte(ver)}, Fin: api.Check{Epoch: uint64(ver) + 7, Root: api.Root{2, byte(ver), 31: byte(ver >> 8)}}}
}

func notes(vers ...int) []api.Note {
	var l []api.Note
	for _, v := range vers {
		l = append(l, note(v))
	}
	return l
}

// rising are so many notes, not one behind the other without a gap.
func rising(n int) []api.Note {
	var l []api.Note
	for i := range n {
		l = append(l, note(i*i+i-3))
	}
	return l
}

// flagged are a box that is neither closed nor lags, one that lags, one that is closed, and one that is both.
func flagged(room int, l []api.Note) []api.Box {
	return []api.Box{{Cap: room, L: l}, {Cap: room, L: l, Lag: true}, {Cap: room, L: l, Closed: true}, {Cap: room, L: l, Lag: true, Closed: true}}
}

// mayBe are boxes that may be: each room, with each number of notes.
func mayBe() []api.Box {
	l := []api.Box{{}}
	for _, room := range rooms() {
		l = append(l, flagged(room, nil)...)
		l = append(l, flagged(room, []api.Note{})...)
		for n := 1; n <= room; n++ {
			l = append(l, flagged(room, rising(n))...)
		}
	}
	for _, vers := range [][]int{{least}, {greatest}, {0}, {-1}, {-1, 0, 1}, {least, greatest}, {least, least + 1}, {greatest - 1, greatest}, {least, 0, greatest}, {least, -1, 0, 1, greatest}} {
		l = append(l, flagged(len(vers), notes(vers...))...)
		l = append(l, flagged(8, notes(vers...))...)
	}
	return l
}

// mayNotBe are boxes that may not be: by Cap, by too many notes, by versions that do not rise, at each place.
func mayNotBe() []api.Box {
	var l []api.Box
	for _, room := range rooms() {
		for _, n := range []int{room + 1, room + 9, 500} {
			l = append(l, flagged(room, rising(n))...)
		}
	}
	for _, room := range noRooms() {
		for _, n := range []int{0, 1, 2, 7, 8, 9, 10} {
			l = append(l, flagged(room, rising(n))...)
		}
		l = append(l, flagged(room, []api.Note{})...)
	}
	for at := 1; at < 8; at++ {
		same, falls := rising(8), rising(8)
		same[at].Ver = same[at-1].Ver
		falls[at].Ver = falls[at-1].Ver - 1
		l = append(l, flagged(8, same)...)
		l = append(l, flagged(8, falls)...)
	}
	for _, vers := range [][]int{{0, 0}, {1, 0}, {-1, -1}, {-1, -2}, {greatest, least}, {least, least}, {greatest, greatest}, {0, least}, {greatest, 0}, {1, 3, 2}, {3, 1, 2}, {1, 2, 2}, {least, greatest, greatest}} {
		l = append(l, flagged(len(vers), notes(vers...))...)
		l = append(l, flagged(8, notes(vers...))...)
	}
	return l
}

func everyBox() []api.Box { return slices.Concat(mayBe(), mayNotBe()) }

// isSame is the tests' own, so that what Post answers is not held against itself by Same.
func isSame(a, b api.Box) bool {
	if a.Cap != b.Cap || a.Lag != b.Lag || a.Closed != b.Closed || len(a.L) != len(b.L) {
		return false
	}
	for i := range a.L {
		if a.L[i] != b.L[i] {
			return false
		}
	}
	return true
}

// P5.1: the edges of Cap and of how many notes there are, written out.
func TestMay(t *testing.T) {
	for _, c := range []struct {
		room, n int
		want    bool
	}{
		{least, 0, false}, {least, 1, false}, {-1, 0, false}, {-1, 1, false},
		{0, 0, true}, {0, 1, false},
		{1, 0, true}, {1, 1, true}, {1, 2, false},
		{2, 1, true}, {2, 2, true}, {2, 3, false},
		{8, 0, true}, {8, 7, true}, {8, 8, true}, {8, 9, false},
		{9, 0, false}, {9, 8, false}, {9, 9, false}, {9, 10, false},
		{greatest, 0, false}, {greatest, 8, false}, {greatest, 9, false},
	} {
		for _, b := range flagged(c.room, rising(c.n)) {
			if got := May(b); got != c.want {
				t.Errorf("May of Cap %d with %d notes, lag %v, closed %v = %v", c.room, c.n, b.Lag, b.Closed, got)
			}
		}
	}
	if !May(api.Box{}) {
		t.Error("May of the zero box = false")
	}
}

// P5.1: versions, written out.
func TestMayOfVersions(t *testing.T) {
	for _, c := range []struct {
		vers []int
		want bool
	}{
		{[]int{0}, true}, {[]int{-5}, true}, {[]int{least}, true}, {[]int{greatest}, true},
		{[]int{1, 2}, true}, {[]int{1, 9}, true}, {[]int{-1, 0}, true}, {[]int{least, greatest}, true}, {[]int{least, least + 1, greatest}, true},
		{[]int{1, 1}, false}, {[]int{2, 1}, false}, {[]int{0, -1}, false}, {[]int{greatest, least}, false}, {[]int{least, least}, false}, {[]int{greatest, greatest}, false},
		{[]int{1, 2, 3, 4, 5, 6, 7, 8}, true}, {[]int{1, 1, 3, 4, 5, 6, 7, 8}, false}, {[]int{1, 2, 3, 4, 5, 6, 7, 7}, false}, {[]int{1, 2, 3, 4, 5, 6, 8, 7}, false}, {[]int{1, 2, 3, 5, 4, 6, 7, 8}, false}, {[]int{1, 3, 2, 3}, false}, {[]int{1, 2, 1}, false},
	} {
		for _, b := range flagged(8, notes(c.vers...)) {
			if got := May(b); got != c.want {
				t.Errorf("May of versions %v, lag %v, closed %v = %v", c.vers, b.Lag, b.Closed, got)
			}
		}
	}
}

// P5.1: heads, and what is final, are nothing to it: notes that are otherwise the same may be, one that is otherwise another may not.
func TestMayIsByVersionsAlone(t *testing.T) {
	if !May(api.Box{Cap: 2, L: []api.Note{{Ver: 1}, {Ver: 2}}}) {
		t.Error("noughts but for rising versions: false")
	}
	if May(api.Box{Cap: 2, L: []api.Note{{Ver: 1, Head: api.Root{1}}, {Ver: 1, Head: api.Root{2}, Fin: api.Check{Epoch: 5}}}}) {
		t.Error("one version, two heads: true")
	}
}

// P5.1
func TestMayOfMany(t *testing.T) {
	for _, b := range mayBe() {
		if !May(b) {
			t.Errorf("May(%v) = false", b)
		}
	}
	for _, b := range mayNotBe() {
		if May(b) {
			t.Errorf("May(%v) = true", b)
		}
	}
}

// P5.1
func TestNew(t *testing.T) {
	for _, room := range rooms() {
		if b, is := New(room); !is || !isSame(b, api.Box{Cap: room}) || !May(b) {
			t.Errorf("New(%d) = %v, %v", room, b, is)
		}
	}
	for _, room := range noRooms() {
		if b, is := New(room); is || !isSame(b, api.Box{}) {
			t.Errorf("New(%d) = %v, %v, want a zero one", room, b, is)
		}
	}
}

func holdSame(t *testing.T, a, b api.Box, want bool) {
	t.Helper()
	if Same(a, b) != want || Same(b, a) != want {
		t.Errorf("Same of %v and %v = %v, and turned round %v, want %v", a, b, Same(a, b), Same(b, a), want)
	}
}

// changed is the box with one note of its own changed.
func changed(b api.Box, at int, change func(*api.Note)) api.Box {
	b.L = slices.Clone(b.L)
	change(&b.L[at])
	return b
}

// P5.1: each part is asked for, also of boxes that may not be.
func TestSameOfEachPart(t *testing.T) {
	for _, b := range everyBox() {
		twin := b
		twin.L = slices.Clone(b.L)
		holdSame(t, b, twin, true)
		room, lag, closed := twin, twin, twin
		room.Cap++
		lag.Lag = !lag.Lag
		closed.Closed = !closed.Closed
		holdSame(t, b, room, false)
		holdSame(t, b, lag, false)
		holdSame(t, b, closed, false)
		more := twin
		more.L = slices.Concat(b.L, []api.Note{{}})
		holdSame(t, b, more, false)
	}
}

// P5.1: each note, and of each note each part, each bit.
func TestSameOfEachNote(t *testing.T) {
	b := api.Box{Cap: 8, L: rising(5), Lag: true}
	for at := range b.L {
		for bit := range 64 {
			holdSame(t, b, changed(b, at, func(n *api.Note) { n.Ver ^= 1 << bit }), false)
			holdSame(t, b, changed(b, at, func(n *api.Note) { n.Fin.Epoch ^= 1 << bit }), false)
		}
		for place := range 32 {
			for bit := range 8 {
				holdSame(t, b, changed(b, at, func(n *api.Note) { n.Head[place] ^= 1 << bit }), false)
				holdSame(t, b, changed(b, at, func(n *api.Note) { n.Fin.Root[place] ^= 1 << bit }), false)
			}
		}
		fewer := b
		fewer.L = slices.Delete(slices.Clone(b.L), at, at+1)
		holdSame(t, b, fewer, false)
	}
}

// P5.1: the order of notes, and lists without any.
func TestSameOfLists(t *testing.T) {
	for _, c := range []struct {
		a, b []api.Note
		want bool
	}{
		{nil, []api.Note{}, true},
		{nil, nil, true},
		{nil, notes(0), false},
		{[]api.Note{}, []api.Note{{}}, false},
		{[]api.Note{{}}, []api.Note{{}, {}}, false},
		{notes(1, 2), notes(1, 2), true},
		{notes(1, 2), notes(2, 1), false},
		{notes(1, 2, 3), notes(1, 3, 2), false},
		{notes(1, 2, 3), notes(1, 2), false},
		{notes(1, 2, 3), notes(2, 3), false},
		{notes(1, 1), notes(1, 1), true},
		{notes(1, 1), notes(1), false},
		{notes(least, greatest), notes(least, greatest), true},
		{notes(least), notes(greatest), false},
	} {
		for i, a := range flagged(8, c.a) {
			holdSame(t, a, flagged(8, c.b)[i], c.want)
		}
	}
	whole := make([]api.Note, 3, 50)
	copy(whole, rising(3))
	holdSame(t, api.Box{Cap: 3, L: whole}, api.Box{Cap: 3, L: rising(3)}, true)
}

// P5.1: of any two boxes.
func TestSameOfMany(t *testing.T) {
	l := everyBox()
	for i := 0; i < len(l); i += 3 {
		for j := 0; j < len(l); j++ {
			if got := Same(l[i], l[j]); got != isSame(l[i], l[j]) {
				t.Errorf("Same(%v, %v) = %v", l[i], l[j], got)
			}
		}
	}
}

func holdPost(t *testing.T, b api.Box, n api.Note, want api.Box) {
	t.Helper()
	if got := Post(b, n); !isSame(got, want) {
		t.Errorf("Post(%v, %v) = %v, want %v", b, n, got, want)
	}
}

func holdTake(t *testing.T, b, want api.Box, n api.Note, is bool) {
	t.Helper()
	if got, first, ok := Take(b); ok != is || first != n || !isSame(got, want) {
		t.Errorf("Take(%v) = %v, %v, %v, want %v, %v, %v", b, got, first, ok, want, n, is)
	}
}

func holdClose(t *testing.T, b, want api.Box, is bool) {
	t.Helper()
	if got, ok := Close(b); ok != is || !isSame(got, want) {
		t.Errorf("Close(%v) = %v, %v, want %v, %v", b, got, ok, want, is)
	}
}

// P5.2: the chapter's example.
func TestExample(t *testing.T) {
	b, _ := New(1)
	b = Post(Post(b, note(1)), note(2))
	if !isSame(b, api.Box{Cap: 1, L: notes(1), Lag: true}) {
		t.Error(b)
	}
}

// P5.2: into a box that is open, written out.
func TestPost(t *testing.T) {
	eight := []int{1, 2, 3, 4, 5, 6, 7, 8}
	for _, c := range []struct {
		room int
		vers []int
		ver  int
		want []int
		lag  bool
	}{
		{1, nil, 5, []int{5}, false},
		{1, nil, 0, []int{0}, false},
		{1, nil, -4, []int{-4}, false},
		{1, nil, least, []int{least}, false},
		{8, nil, greatest, []int{greatest}, false},
		{2, []int{5}, 6, []int{5, 6}, false},
		{2, []int{5}, 9, []int{5, 9}, false},
		{2, []int{5}, 5, []int{5}, false},
		{2, []int{5}, 4, []int{5}, false},
		{3, []int{5, 7}, 6, []int{5, 7}, false},
		{3, []int{5, 7}, 5, []int{5, 7}, false},
		{3, []int{5, 7}, 4, []int{5, 7}, false},
		{3, []int{5, 7}, 8, []int{5, 7, 8}, false},
		{1, []int{5}, 6, []int{5}, true},
		{1, []int{5}, 5, []int{5}, false},
		{1, []int{5}, 4, []int{5}, false},
		{2, []int{5, 7}, 8, []int{5, 7}, true},
		{2, []int{5, 7}, 7, []int{5, 7}, false},
		{2, []int{5, 7}, 6, []int{5, 7}, false},
		{8, eight[:7], 8, eight, false},
		{8, eight, 9, eight, true},
		{8, eight, 8, eight, false},
		{0, nil, 1, nil, true},
		{0, nil, least, nil, true},
		{2, []int{least}, least, []int{least}, false},
		{2, []int{least}, least + 1, []int{least, least + 1}, false},
		{2, []int{least}, greatest, []int{least, greatest}, false},
		{2, []int{greatest}, least, []int{greatest}, false},
		{2, []int{greatest}, greatest, []int{greatest}, false},
		{2, []int{greatest - 1}, greatest, []int{greatest - 1, greatest}, false},
		{1, []int{least}, greatest, []int{least}, true},
		{1, []int{greatest}, least, []int{greatest}, false},
	} {
		b := api.Box{Cap: c.room, L: notes(c.vers...)}
		holdPost(t, b, note(c.ver), api.Box{Cap: c.room, L: notes(c.want...), Lag: c.lag})
		b.Lag = true
		holdPost(t, b, note(c.ver), api.Box{Cap: c.room, L: notes(c.want...), Lag: true})
		b.Closed = true
		holdPost(t, b, note(c.ver), b)
		b.Lag = false
		holdPost(t, b, note(c.ver), b)
	}
	holdPost(t, api.Box{}, api.Note{}, api.Box{Lag: true})
	holdPost(t, api.Box{Cap: 1}, api.Note{}, api.Box{Cap: 1, L: []api.Note{{}}})
}

// P5.2: boxes that may not be, and closed ones, stay, whatever the note; written out.
func TestPostInVain(t *testing.T) {
	for _, b := range []api.Box{
		{Cap: -1}, {Cap: 9}, {Cap: least}, {Cap: greatest},
		{Cap: 9, L: rising(2)}, {Cap: -1, L: rising(1)}, {Cap: 0, L: notes(1)}, {Cap: 1, L: notes(1, 2)}, {Cap: 8, L: rising(9)},
		{Cap: 3, L: notes(2, 2)}, {Cap: 3, L: notes(2, 1)}, {Cap: 2, L: notes(2, 1)}, {Cap: 2, L: notes(2, 2)},
		{Closed: true}, {Cap: 1, Closed: true}, {Cap: 2, L: notes(1), Closed: true}, {Cap: 1, L: notes(1), Closed: true},
	} {
		for _, ver := range []int{least, -1, 0, 1, 2, 3, 100, greatest} {
			holdPost(t, b, note(ver), b)
			lags := b
			lags.Lag = true
			holdPost(t, lags, note(ver), lags)
		}
	}
}

// P5.2: written out; whether a box lags or is closed is nothing to it, and stays.
func TestTake(t *testing.T) {
	for _, c := range []struct {
		room       int
		vers, want []int
	}{
		{1, []int{5}, nil},
		{1, []int{0}, nil},
		{2, []int{5}, nil},
		{2, []int{5, 6}, []int{6}},
		{3, []int{-9, 5, 6}, []int{5, 6}},
		{8, []int{1, 2, 3, 4, 5, 6, 7, 8}, []int{2, 3, 4, 5, 6, 7, 8}},
		{8, []int{1, 2, 3, 4, 5, 6, 7}, []int{2, 3, 4, 5, 6, 7}},
		{2, []int{least, greatest}, []int{greatest}},
		{1, []int{greatest}, nil},
		{1, []int{least}, nil},
	} {
		for i, b := range flagged(c.room, notes(c.vers...)) {
			holdTake(t, b, flagged(c.room, notes(c.want...))[i], note(c.vers[0]), true)
		}
	}
	holdTake(t, api.Box{Cap: 1, L: []api.Note{{}}}, api.Box{Cap: 1}, api.Note{}, true)
}

// P5.2: where there is none, or the box may not be, written out.
func TestTakeInVain(t *testing.T) {
	for _, c := range []struct {
		room int
		l    []api.Note
	}{
		{0, nil}, {0, []api.Note{}}, {1, nil}, {8, nil}, {8, []api.Note{}},
		{-1, nil}, {9, nil}, {least, notes(1)}, {greatest, notes(1)}, {9, notes(1)}, {-1, notes(1)},
		{0, notes(1)}, {1, notes(1, 2)}, {8, rising(9)},
		{2, notes(1, 1)}, {2, notes(2, 1)}, {8, notes(1, 2, 2)},
	} {
		for _, b := range flagged(c.room, c.l) {
			holdTake(t, b, b, api.Note{}, false)
		}
	}
}

// P5.2: written out.
func TestClose(t *testing.T) {
	for _, b := range []api.Box{{}, {Cap: 1}, {Cap: 8}, {Cap: 1, L: notes(5)}, {Cap: 3, L: notes(5, 7)}, {Cap: 8, L: rising(8)}, {Cap: 2, L: notes(least, greatest)}} {
		all := flagged(b.Cap, b.L)
		holdClose(t, all[0], all[2], true)
		holdClose(t, all[1], all[3], true)
		holdClose(t, all[2], all[2], false)
		holdClose(t, all[3], all[3], false)
	}
	for _, b := range []api.Box{{Cap: -1}, {Cap: 9}, {Cap: least}, {Cap: greatest, L: notes(1)}, {L: notes(1)}, {Cap: 1, L: notes(1, 2)}, {Cap: 8, L: rising(9)}, {Cap: 3, L: notes(2, 2)}, {Cap: 3, L: notes(2, 1)}} {
		for _, x := range flagged(b.Cap, b.L) {
			holdClose(t, x, x, false)
		}
	}
}

// plainPost, plainTake and plainClose rest on the tests' own word of whether the box may be.
func plainPost(b api.Box, may bool, n api.Note) api.Box {
	if may && !b.Closed && (len(b.L) == 0 || slices.Max(versions(b.L)) < n.Ver) {
		if len(b.L) < b.Cap {
			b.L = slices.Concat(b.L, []api.Note{n})
		} else {
			b.Lag = true
		}
	}
	return b
}

func plainTake(b api.Box, may bool) (api.Box, api.Note, bool) {
	if !may || len(b.L) == 0 {
		return b, api.Note{}, false
	}
	first := b.L[0]
	b.L = slices.Delete(slices.Clone(b.L), 0, 1)
	return b, first, true
}

func plainClose(b api.Box, may bool) (api.Box, bool) {
	is := may && !b.Closed
	b.Closed = b.Closed || may
	return b, is
}

func versions(l []api.Note) []int {
	var out []int
	for _, n := range l {
		out = append(out, n.Ver)
	}
	return out
}

// near are notes of the least and the greatest version, and of those around each one of the box.
func near(b api.Box) []api.Note {
	l := append(notes(least, -1, 0, 1, greatest), api.Note{})
	for _, v := range versions(b.L) {
		l = append(l, notes(v-1, v, v+1)...)
	}
	return l
}

func holdAll(t *testing.T, b api.Box, may bool) {
	t.Helper()
	for _, n := range near(b) {
		holdPost(t, b, n, plainPost(b, may, n))
	}
	left, first, is := plainTake(b, may)
	holdTake(t, b, left, first, is)
	shut, is := plainClose(b, may)
	holdClose(t, b, shut, is)
}

// P5.2: of each kind of box, by a plain way beside it.
func TestOfMany(t *testing.T) {
	for _, b := range mayBe() {
		holdAll(t, b, true)
	}
	for _, b := range mayNotBe() {
		if len(b.L) < 20 {
			holdAll(t, b, false)
		}
	}
}

// P5.1, P5.2: one after the other, by chance, the same each time: what comes of a box that may be may be.
func TestOneAfterTheOther(t *testing.T) {
	chance := rand.New(rand.NewSource(5))
	for run := range 600 {
		b, _ := New(run % 9)
		for range 60 {
			switch x := chance.Intn(30); {
			case x == 0:
				want, is := plainClose(b, true)
				holdClose(t, b, want, is)
				b, _ = Close(b)
			case x < 10:
				want, n, is := plainTake(b, true)
				holdTake(t, b, want, n, is)
				b, _, _ = Take(b)
			default:
				n := note(chance.Intn(40))
				holdPost(t, b, n, plainPost(b, true, n))
				b = Post(b, n)
			}
			if !May(b) {
				t.Fatalf("May(%v) = false", b)
			}
		}
	}
}

// P5.3: of notes that rise, what comes out, and what is left, is what was put, in order, but for what was lost, which Lag tells.
func TestInOrder(t *testing.T) {
	chance := rand.New(rand.NewSource(53))
	for run := range 600 {
		b, _ := New(run % 9)
		var put, out []api.Note
		for ver := 1; ver < 50; ver++ {
			b = Post(b, note(ver))
			put = append(put, note(ver))
			for range chance.Intn(3) {
				if after, n, is := Take(b); is {
					b, out = after, append(out, n)
				}
			}
		}
		got := slices.Concat(out, b.L)
		if !slices.IsSorted(versions(got)) || len(slices.Compact(versions(got))) != len(got) {
			t.Fatalf("out of order: %v", versions(got))
		}
		for _, n := range got {
			if !slices.Contains(put, n) {
				t.Fatalf("%v was never put", n)
			}
		}
		if b.Lag != (len(got) < len(put)) {
			t.Fatalf("Lag %v, %d put, %d there", b.Lag, len(put), len(got))
		}
	}
}

// P5.3: behind a Close nothing comes in, and what is there comes out.
func TestBehindClose(t *testing.T) {
	for n := range 9 {
		b, is := Close(api.Box{Cap: 8, L: rising(n)})
		if !is {
			t.Fatal(n)
		}
		for i := range n + 2 {
			b = Post(b, note(1000+i))
			after, first, is := Take(b)
			if is != (i < n) || is && first != rising(n)[i] {
				t.Errorf("of %d, taken %d: %v, %v", n, i, first, is)
			}
			b = after
		}
		if !isSame(b, api.Box{Cap: 8, Closed: true}) {
			t.Error(b)
		}
	}
}

// within lays notes into others, so that there is something ahead of them and behind them.
func within(l []api.Note) (all, piece []api.Note) {
	all = slices.Concat(notes(71, 72, 73), l, notes(81, 82, 83, 84, 85, 86, 87, 88, 89))
	return all, all[3 : 3+len(l)]
}

// spoil changes all that can be reached from a list.
func spoil(l []api.Note) {
	for whole, i := l[:cap(l)], 0; i < len(whole); i++ {
		whole[i] = api.Note{Ver: 424242}
	}
}

// answers are all lists that the calls answer of a box.
func answers(b api.Box) [][]api.Note {
	var out [][]api.Note
	for _, ver := range []int{least, greatest} {
		out = append(out, Post(b, note(ver)).L)
	}
	taken, _, _ := Take(b)
	shut, _ := Close(b)
	return append(out, taken.L, shut.L)
}

// R3: what is handed in stays as it was, around it too, also when what was answered is changed later.
func TestHandedInStays(t *testing.T) {
	for _, b := range everyBox() {
		all, piece := within(b.L)
		before := slices.Clone(all)
		b.L = piece
		twin := b
		got := answers(b)
		May(b)
		Same(b, twin)
		if !slices.Equal(all, before) {
			t.Errorf("Cap %d: handed in %v, now %v", b.Cap, versions(before), versions(all))
		}
		for _, l := range got {
			spoil(l)
		}
		if !slices.Equal(all, before) {
			t.Errorf("Cap %d: an answer was changed, and what was handed in is now %v", b.Cap, versions(all))
		}
	}
}

// R3: what is answered hangs no more on what was handed in, and no two answers on each other.
func TestAnsweredIsNew(t *testing.T) {
	for _, b := range everyBox() {
		want := answers(b)
		all, piece := within(b.L)
		b.L = piece
		got := answers(b)
		spoil(all)
		for i := range got {
			if !slices.Equal(got[i], want[i]) {
				t.Errorf("Cap %d: answer %d was %v, and is now %v", b.Cap, i, versions(want[i]), versions(got[i]))
			}
			spoil(got[i])
		}
	}
}

// R3: of one box two go on, each its own way.
func TestTwoGoOn(t *testing.T) {
	b := Post(api.Box{Cap: 4}, note(1))
	left, right := Post(b, note(2)), Post(b, note(3))
	taken, _, _ := Take(left)
	on := Post(taken, note(4))
	shut, _ := Close(left)
	for i, c := range []struct{ got, want api.Box }{
		{b, api.Box{Cap: 4, L: notes(1)}},
		{left, api.Box{Cap: 4, L: notes(1, 2)}},
		{right, api.Box{Cap: 4, L: notes(1, 3)}},
		{taken, api.Box{Cap: 4, L: notes(2)}},
		{on, api.Box{Cap: 4, L: notes(2, 4)}},
		{shut, api.Box{Cap: 4, L: notes(1, 2), Closed: true}},
	} {
		if !isSame(c.got, c.want) {
			t.Errorf("%d: %v, want %v", i, c.got, c.want)
		}
	}
}

// P1, P5.1 and P5.2: very many notes.
func TestVeryMany(t *testing.T) {
	l := make([]api.Note, 100000)
	for i := range l {
		l[i] = note(i)
	}
	for _, room := range []int{0, 8, len(l), greatest} {
		b := api.Box{Cap: room, L: l}
		_, _, takes := Take(b)
		_, shuts := Close(b)
		if May(b) || takes || shuts || !Same(b, api.Box{Cap: room, L: slices.Clone(l)}) || !isSame(Post(b, note(greatest)), b) {
			t.Errorf("Cap %d with very many notes", room)
		}
	}
}

// P1, P5.1 and P5.2: whatever the box and the note; each byte is a version, from -128 to 127.
func FuzzBox(f *testing.F) {
	f.Add(1, []byte{}, false, false, 5)
	f.Add(1, []byte{5}, false, false, 6)
	f.Add(8, []byte{200, 255, 0, 1, 2, 3, 4, 127}, true, false, greatest)
	f.Add(8, []byte{5, 5}, false, false, 9)
	f.Add(9, []byte{1}, false, true, 2)
	f.Add(-1, []byte{2, 1}, true, true, least)
	f.Fuzz(func(t *testing.T, room int, in []byte, lag, closed bool, ver int) {
		b := api.Box{Cap: room, Lag: lag, Closed: closed}
		rises := true
		for i, x := range in {
			b.L = append(b.L, note(int(int8(x))))
			rises = rises && (i == 0 || int8(in[i-1]) < int8(x))
		}
		may := 0 <= room && room <= 8 && len(in) <= room && rises
		if May(b) != may {
			t.Errorf("May(%v) = %v", b, May(b))
		}
		holdAll(t, b, may)
		holdPost(t, b, note(ver), plainPost(b, may, note(ver)))
		after := Post(b, note(ver))
		holdSame(t, b, after, isSame(b, after))
	})
}
