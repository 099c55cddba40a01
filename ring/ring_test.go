package ring

import (
	"math"
	"math/rand"
	"slices"
	"testing"

	"areopagus/api"
)

const (
	least    = math.MinInt
	greatest = math.MaxInt
)

func rooms() []int { return []int{0, 1, 2, 3, 4, 5, 6, 7, 8} }

func noRooms() []int {
	return []int{least, least + 1, -9, -8, -2, -1, 9, 10, 16, 1 << 30, greatest - 1, greatest}
}

// count are so many numbers, no two of them the same, each other one below 0, so that one at the wrong place is seen.
func count(n int) []int {
	var l []int
	for i := range n {
		l = append(l, (i+1)*11*(1-i%2*2))
	}
	return l
}

// odd are numbers at which a sign, a test for nought or a sum would go wrong.
func odd() []int { return []int{0, -1, 1, least, greatest, least + 1, greatest - 1, -2} }

// mayNot are rings that may not be: by Cap, by too many numbers, by both.
func mayNot() []api.Ring {
	var l []api.Ring
	for _, room := range rooms() {
		l = append(l, api.Ring{Cap: room, L: count(room + 1)}, api.Ring{Cap: room, L: count(room + 9)}, api.Ring{Cap: room, L: count(1000)})
	}
	for _, room := range noRooms() {
		l = append(l, api.Ring{Cap: room}, api.Ring{Cap: room, L: []int{}})
		for _, n := range []int{1, 2, 7, 8, 9, 10} {
			l = append(l, api.Ring{Cap: room, L: count(n)})
		}
	}
	return append(l, api.Ring{Cap: -1, L: odd()}, api.Ring{Cap: 9, L: odd()}, api.Ring{Cap: 7, L: odd()})
}

// may are rings that may be: each room, with each number of numbers.
func may() []api.Ring {
	l := []api.Ring{{}, {Cap: 8, L: odd()}, {Cap: 1, L: []int{least}}, {Cap: 2, L: []int{greatest, 0}}, {Cap: 8, L: []int{0, 0, 0, -1, -1}}}
	for _, room := range rooms() {
		l = append(l, api.Ring{Cap: room}, api.Ring{Cap: room, L: []int{}})
		for n := 1; n <= room; n++ {
			l = append(l, api.Ring{Cap: room, L: count(n)})
		}
	}
	return l
}

func isSame(a, b api.Ring) bool { return a.Cap == b.Cap && slices.Equal(a.L, b.L) }

// P4.1: the edges, written out.
func TestMay(t *testing.T) {
	for _, c := range []struct {
		room, n int
		want    bool
	}{
		{least, 0, false}, {-1, 0, false}, {-1, 1, false},
		{0, 0, true}, {0, 1, false},
		{1, 0, true}, {1, 1, true}, {1, 2, false},
		{2, 1, true}, {2, 2, true}, {2, 3, false},
		{8, 0, true}, {8, 7, true}, {8, 8, true}, {8, 9, false},
		{9, 0, false}, {9, 8, false}, {9, 9, false}, {9, 10, false},
		{greatest, 0, false}, {greatest, 8, false}, {greatest, 9, false},
	} {
		if got := May(api.Ring{Cap: c.room, L: count(c.n)}); got != c.want {
			t.Errorf("May of Cap %d with %d numbers = %v", c.room, c.n, got)
		}
		if got := May(api.Ring{Cap: c.room, L: make([]int, c.n, c.n+20)}); got != c.want {
			t.Errorf("May of Cap %d with %d noughts, and memory behind them = %v", c.room, c.n, got)
		}
	}
}

// P4.1: what the numbers are is nothing to it.
func TestMayOfMany(t *testing.T) {
	for _, r := range may() {
		if !May(r) {
			t.Errorf("May(%v) = false", r)
		}
	}
	for _, r := range mayNot() {
		if May(r) {
			t.Errorf("May(%v) = true", r)
		}
	}
}

// P4.1
func TestNew(t *testing.T) {
	for _, room := range rooms() {
		r, is := New(room)
		if !is || r.Cap != room || len(r.L) != 0 || !May(r) {
			t.Errorf("New(%d) = %v, %v", room, r, is)
		}
	}
	for _, room := range noRooms() {
		r, is := New(room)
		if is || r.Cap != 0 || len(r.L) != 0 {
			t.Errorf("New(%d) = %v, %v, want a zero one", room, r, is)
		}
	}
}

func holdPush(t *testing.T, r api.Ring, x int, want api.Ring, is bool) {
	t.Helper()
	if got, ok := Push(r, x); ok != is || !isSame(got, want) {
		t.Errorf("Push(%v, %d) = %v, %v, want %v, %v", r, x, got, ok, want, is)
	}
}

func holdPop(t *testing.T, r, want api.Ring, x int, is bool) {
	t.Helper()
	if got, n, ok := Pop(r); ok != is || n != x || !isSame(got, want) {
		t.Errorf("Pop(%v) = %v, %d, %v, want %v, %d, %v", r, got, n, ok, want, x, is)
	}
}

// P4.2: written out.
func TestPush(t *testing.T) {
	for _, c := range []struct {
		r    api.Ring
		x    int
		want []int
		is   bool
	}{
		{api.Ring{Cap: 1}, 5, []int{5}, true},
		{api.Ring{Cap: 1, L: []int{}}, 0, []int{0}, true},
		{api.Ring{Cap: 1, L: []int{5}}, 6, []int{5}, false},
		{api.Ring{Cap: 3, L: []int{5}}, 5, []int{5, 5}, true},
		{api.Ring{Cap: 3, L: []int{5, 4}}, -1, []int{5, 4, -1}, true},
		{api.Ring{Cap: 3, L: []int{5, 4, 3}}, 2, []int{5, 4, 3}, false},
		{api.Ring{Cap: 8, L: []int{1, 2, 3, 4, 5, 6, 7}}, least, []int{1, 2, 3, 4, 5, 6, 7, least}, true},
		{api.Ring{Cap: 8, L: []int{1, 2, 3, 4, 5, 6, 7}}, greatest, []int{1, 2, 3, 4, 5, 6, 7, greatest}, true},
		{api.Ring{Cap: 8, L: []int{1, 2, 3, 4, 5, 6, 7, 8}}, 9, []int{1, 2, 3, 4, 5, 6, 7, 8}, false},
		{api.Ring{}, 0, nil, false},
		{api.Ring{}, 7, nil, false},
		{api.Ring{Cap: 1, L: []int{5, 6}}, 7, []int{5, 6}, false},
		{api.Ring{Cap: 9}, 7, nil, false},
		{api.Ring{Cap: 9, L: []int{4}}, 7, []int{4}, false},
		{api.Ring{Cap: -1}, 7, nil, false},
	} {
		holdPush(t, c.r, c.x, api.Ring{Cap: c.r.Cap, L: c.want}, c.is)
	}
}

// P4.2: written out.
func TestPop(t *testing.T) {
	for _, c := range []struct {
		r    api.Ring
		want []int
		x    int
		is   bool
	}{
		{api.Ring{Cap: 1, L: []int{5}}, nil, 5, true},
		{api.Ring{Cap: 1, L: []int{0}}, nil, 0, true},
		{api.Ring{Cap: 2, L: []int{-1, 3}}, []int{3}, -1, true},
		{api.Ring{Cap: 8, L: []int{least, greatest}}, []int{greatest}, least, true},
		{api.Ring{Cap: 8, L: []int{greatest, least, 0}}, []int{least, 0}, greatest, true},
		{api.Ring{Cap: 8, L: []int{1, 2, 3, 4, 5, 6, 7, 8}}, []int{2, 3, 4, 5, 6, 7, 8}, 1, true},
		{api.Ring{Cap: 8, L: []int{1, 2, 3, 4, 5, 6, 7}}, []int{2, 3, 4, 5, 6, 7}, 1, true},
		{api.Ring{Cap: 1}, nil, 0, false},
		{api.Ring{Cap: 8, L: []int{}}, nil, 0, false},
		{api.Ring{}, nil, 0, false},
		{api.Ring{L: []int{4}}, []int{4}, 0, false},
		{api.Ring{Cap: 1, L: []int{5, 6}}, []int{5, 6}, 0, false},
		{api.Ring{Cap: 9, L: []int{4}}, []int{4}, 0, false},
		{api.Ring{Cap: -1, L: []int{4}}, []int{4}, 0, false},
		{api.Ring{Cap: greatest, L: []int{4}}, []int{4}, 0, false},
	} {
		holdPop(t, c.r, api.Ring{Cap: c.r.Cap, L: c.want}, c.x, c.is)
	}
}

// P4.2: each room, each number of numbers, numbers of each kind.
func TestPushAndPopOfMany(t *testing.T) {
	for _, r := range may() {
		for _, x := range odd() {
			if len(r.L) < r.Cap {
				holdPush(t, r, x, api.Ring{Cap: r.Cap, L: slices.Concat(r.L, []int{x})}, true)
			} else {
				holdPush(t, r, x, r, false)
			}
		}
		if len(r.L) > 0 {
			holdPop(t, r, api.Ring{Cap: r.Cap, L: r.L[1:]}, r.L[0], true)
		} else {
			holdPop(t, r, r, 0, false)
		}
	}
	for _, r := range mayNot() {
		for _, x := range odd() {
			holdPush(t, r, x, r, false)
		}
		holdPop(t, r, r, 0, false)
	}
}

func holdRun(t *testing.T, r api.Ring, l []int, want api.Ring, told []int) {
	t.Helper()
	if got, what := Run(r, l); !isSame(got, want) || !slices.Equal(what, told) {
		t.Errorf("Run(%v, %v) = %v, %v, want %v, %v", r, l, got, what, want, told)
	}
}

// P4.3: the chapter's example first, then the edges, written out.
func TestRun(t *testing.T) {
	eight := []int{1, 2, 3, 4, 5, 6, 7, 8}
	for _, c := range []struct {
		r             api.Ring
		l, want, told []int
	}{
		{api.Ring{Cap: 1}, []int{5, 6, -1, -1}, nil, []int{1, 0, 5, -1}},
		{api.Ring{Cap: 2}, []int{5, 6, 7, -1, 8, -1, -2, -1, 9}, []int{9}, []int{1, 1, 0, 5, 1, 6, 8, -1, 1}},
		{api.Ring{Cap: 2, L: []int{3}}, []int{4, 5, -1}, []int{4}, []int{1, 0, 3}},
		{api.Ring{Cap: 3, L: []int{3}}, []int{0, 0, -1, -1, -1}, nil, []int{1, 1, 3, 0, 0}},
		{api.Ring{Cap: 3, L: []int{3}}, nil, []int{3}, nil},
		{api.Ring{Cap: 3, L: []int{3}}, []int{}, []int{3}, nil},
		{api.Ring{Cap: 3}, nil, nil, nil},
		{api.Ring{Cap: 3, L: []int{}}, []int{-1, -1}, nil, []int{-1, -1}},
		{api.Ring{Cap: 3, L: []int{7, 8}}, []int{-1, -5, -9}, nil, []int{7, 8, -1}},
		{api.Ring{Cap: 3, L: []int{-1, -7, least}}, []int{-1, -1, -1, -1}, nil, []int{-1, -7, least, -1}},
		{api.Ring{Cap: 2, L: []int{greatest, 0}}, []int{least, least, least}, nil, []int{greatest, 0, -1}},
		{api.Ring{Cap: 2}, []int{greatest, greatest, greatest, -1, least, -1}, nil, []int{1, 1, 0, greatest, greatest, -1}},
		{api.Ring{Cap: 2}, []int{0, 1, 2, 3}, []int{0, 1}, []int{1, 1, 0, 0}},
		{api.Ring{Cap: 8}, []int{1, 2, 3, 4, 5, 6, 7, 8, 9, 10}, eight, []int{1, 1, 1, 1, 1, 1, 1, 1, 0, 0}},
		{api.Ring{Cap: 8, L: eight}, []int{9, -1, 9, -1, 10, 11}, []int{3, 4, 5, 6, 7, 8, 9, 10}, []int{0, 1, 1, 2, 1, 0}},
		{api.Ring{Cap: 8, L: eight}, []int{-1, -1, -1, -1, -1, -1, -1, -1, -1, 5}, []int{5}, []int{1, 2, 3, 4, 5, 6, 7, 8, -1, 1}},
		{api.Ring{}, []int{1, -1, 0, greatest, least}, nil, []int{0, -1, 0, 0, -1}},
		{api.Ring{}, nil, nil, nil},
		{api.Ring{Cap: 1, L: []int{4, 5}}, []int{-1, 6}, []int{4, 5}, nil},
		{api.Ring{Cap: 9}, []int{1, -1}, nil, nil},
		{api.Ring{Cap: -1}, []int{1, -1}, nil, nil},
		{api.Ring{Cap: least, L: []int{4}}, []int{-1}, []int{4}, nil},
		{api.Ring{Cap: greatest, L: []int{4}}, []int{-1}, []int{4}, nil},
	} {
		holdRun(t, c.r, c.l, api.Ring{Cap: c.r.Cap, L: c.want}, c.told)
	}
}

// plain is Run by a list from whose front is taken, and nothing that is gone round.
func plain(r api.Ring, l []int) (api.Ring, []int) {
	var told []int
	if r.Cap < 0 || r.Cap > 8 || len(r.L) > r.Cap {
		return r, nil
	}
	left := slices.Clone(r.L)
	for _, n := range l {
		switch {
		case n < 0 && len(left) == 0:
			told = append(told, -1)
		case n < 0:
			told = append(told, left[0])
			left = slices.Delete(left, 0, 1)
		case len(left) == r.Cap:
			told = append(told, 0)
		default:
			told = append(told, 1)
			left = append(left, n)
		}
	}
	return api.Ring{Cap: r.Cap, L: left}, told
}

// oneByOne is Run by Push and Pop, call by call.
func oneByOne(r api.Ring, l []int) (api.Ring, []int) {
	var told []int
	for _, n := range l {
		what, is := 0, false
		if n >= 0 {
			if r, is = Push(r, n); is {
				what = 1
			}
		} else if r, what, is = Pop(r); !is {
			what = -1
		}
		told = append(told, what)
	}
	return r, told
}

// P4.2 and P4.3: by one list, and by the calls that the promise names.
func holdBothWays(t *testing.T, r api.Ring, l []int) {
	t.Helper()
	want, told := plain(r, l)
	holdRun(t, r, l, want, told)
	if !May(r) {
		return
	}
	if got, what := oneByOne(r, l); !isSame(got, want) || !slices.Equal(what, told) {
		t.Errorf("one by one, %v and %v: %v, %v, want %v, %v", r, l, got, what, want, told)
	}
}

// waves fill and empty a ring again and again, each time by other numbers of them.
func waves(times int) []int {
	var l []int
	for i := range times {
		for j := range 1 + i%11 {
			l = append(l, i*20+j)
		}
		for range 1 + i%7 + i%5 {
			l = append(l, -1-i)
		}
	}
	return l
}

// P4.3: rings of each kind, and lists that go round them many times.
func TestRunOfMany(t *testing.T) {
	lists := [][]int{nil, {}, {0}, {-1}, odd(), count(30), slices.Repeat([]int{-1}, 20), slices.Repeat([]int{3}, 20), slices.Repeat([]int{4, -1}, 50), slices.Repeat([]int{4, 5, -1}, 50), slices.Repeat([]int{4, -1, -1}, 50), waves(300)}
	for _, l := range lists {
		for _, r := range slices.Concat(may(), mayNot()) {
			holdBothWays(t, r, l)
		}
	}
}

// P4.3: every way of putting and taking, ten times, at each room.
func TestRunOfEachWay(t *testing.T) {
	for _, room := range rooms() {
		for way := range 1 << 10 {
			var l []int
			for i := range 10 {
				l = append(l, 100+i)
				if way>>i&1 == 1 {
					l[i] = -100 - i
				}
			}
			holdBothWays(t, api.Ring{Cap: room, L: count(room / 2)}, l)
		}
	}
}

// P4.3: by chance, the same each time.
func TestRunByChance(t *testing.T) {
	chance := rand.New(rand.NewSource(4))
	for range 500 {
		var l []int
		for range chance.Intn(200) {
			l = append(l, int(chance.Uint64()))
		}
		all := may()
		holdBothWays(t, all[chance.Intn(len(all))], l)
	}
}

// P1 and P4.3: very many numbers.
func TestRunOfVeryMany(t *testing.T) {
	l := waves(100000)
	for _, room := range []int{0, 1, 5, 8} {
		r := api.Ring{Cap: room}
		want, told := plain(r, l)
		if got, what := Run(r, l); !isSame(got, want) || !slices.Equal(what, told) {
			t.Errorf("Cap %d, %d numbers: not what a plain list tells", room, len(l))
		}
	}
}

// P4.4: what was there and what was put is what was taken and what is left, in order.
func TestNothingLost(t *testing.T) {
	for _, r := range may() {
		l := waves(100)
		left, told := Run(r, l)
		put, taken := slices.Clone(r.L), []int{}
		had := len(r.L)
		for i, n := range l {
			if n >= 0 && told[i] == 1 {
				put = append(put, n)
				had++
			} else if n < 0 && had > 0 {
				taken = append(taken, told[i])
				had--
			}
		}
		if !slices.Equal(put, slices.Concat(taken, left.L)) {
			t.Errorf("%v: put %v, taken %v, left %v", r, put, taken, left.L)
		}
	}
}

// within lays numbers into others, so that there is something ahead of them and behind them.
func within(l []int) (all, piece []int) {
	all = slices.Concat([]int{71, 72, 73}, l, []int{81, 82, 83, 84, 85, 86, 87, 88, 89})
	return all, all[3 : 3+len(l)]
}

// spoil changes all that can be reached from a list.
func spoil(l []int) {
	for whole, i := l[:cap(l)], 0; i < len(whole); i++ {
		whole[i] = 424242
	}
}

func script() []int { return []int{31, 32, -1, 33, -2, -3, 34, 35, 36, 37, 38, 39, 40, 41, 42, -1} }

// answers are all rings and lists that the calls answer of a ring.
func answers(r api.Ring, l []int) [][]int {
	pushed, _ := Push(r, 5)
	popped, _, _ := Pop(r)
	run, told := Run(r, l)
	idle, none := Run(r, nil)
	return [][]int{pushed.L, popped.L, run.L, told, idle.L, none}
}

// R3: what is handed in stays as it was, around it too, also when what was answered is changed later.
func TestHandedInStays(t *testing.T) {
	for _, r := range slices.Concat(may(), mayNot()) {
		all, piece := within(r.L)
		allOfList, list := within(script())
		before, beforeOfList := slices.Clone(all), slices.Clone(allOfList)
		got := answers(api.Ring{Cap: r.Cap, L: piece}, list)
		if !slices.Equal(all, before) || !slices.Equal(allOfList, beforeOfList) {
			t.Errorf("Cap %d: handed in %v and %v, now %v and %v", r.Cap, before, beforeOfList, all, allOfList)
		}
		for _, l := range got {
			spoil(l)
		}
		if !slices.Equal(all, before) || !slices.Equal(allOfList, beforeOfList) {
			t.Errorf("Cap %d: an answer was changed, and what was handed in is now %v and %v", r.Cap, all, allOfList)
		}
	}
}

// R3: what is answered hangs no more on what was handed in, and no two answers on each other.
func TestAnsweredIsNew(t *testing.T) {
	for _, r := range slices.Concat(may(), mayNot()) {
		want := answers(r, script())
		all, piece := within(r.L)
		allOfList, list := within(script())
		got := answers(api.Ring{Cap: r.Cap, L: piece}, list)
		spoil(all)
		spoil(allOfList)
		for i := range got {
			if !slices.Equal(got[i], want[i]) {
				t.Errorf("Cap %d: answer %d was %v, and is now %v", r.Cap, i, want[i], got[i])
			}
			spoil(got[i])
		}
	}
}

// R3: of one ring two go on, each its own way.
func TestTwoGoOn(t *testing.T) {
	r, _ := Push(api.Ring{Cap: 4}, 1)
	a, _ := Push(r, 2)
	b, _ := Push(r, 3)
	c, _, _ := Pop(a)
	d, _ := Push(c, 4)
	if !slices.Equal(r.L, []int{1}) || !slices.Equal(a.L, []int{1, 2}) || !slices.Equal(b.L, []int{1, 3}) || !slices.Equal(c.L, []int{2}) || !slices.Equal(d.L, []int{2, 4}) {
		t.Error(r, a, b, c, d)
	}
}

// P1, P4.1, P4.2 and P4.3: whatever the ring and the numbers; each byte is a number, from -128 to 127.
func FuzzRun(f *testing.F) {
	f.Add(1, []byte{}, []byte{5, 6, 255, 255})
	f.Add(8, []byte{1, 2, 3, 4, 5, 6, 7}, []byte{8, 9, 255, 10, 128})
	f.Add(0, []byte{}, []byte{0, 255})
	f.Add(9, []byte{1}, []byte{1})
	f.Add(-1, []byte{1, 2}, []byte{255})
	f.Fuzz(func(t *testing.T, room int, in, l []byte) {
		r := api.Ring{Cap: room, L: signed(in)}
		if May(r) != (0 <= room && room <= 8 && len(in) <= room) {
			t.Errorf("May(%v) = %v", r, May(r))
		}
		holdBothWays(t, r, signed(l))
	})
}

func signed(b []byte) []int {
	var l []int
	for _, x := range b {
		l = append(l, int(int8(x)))
	}
	return l
}
