package skip

import (
	"math"
	"math/rand"
	"slices"
	"testing"

	"areopagus/api"
	"areopagus/tree"
)

const (
	least    = math.MinInt
	greatest = math.MaxInt
	top      = 1 << 40
	endless  = math.MaxUint64
)

// name hangs on its number at both ends, so that half of a root is not taken for it.
func name(n int) api.Root { return api.Root{byte(n), 15: byte(n >> 8), 31: byte(n)} }

// grown is a tree of so many parents: slots rise with gaps, and not by place, so that a place is not taken for a slot.
func grown(parents ...int) api.Tree {
	var t api.Tree
	for i, p := range parents {
		n := api.Node{Root: name(i + 1), Parent: p, Slot: 5, Just: uint64(1000 - i)}
		if 0 <= p && p < i {
			n.Slot = t.N[p].Slot + 3 + uint64(i%3)
		}
		t.N = append(t.N, n)
	}
	return t
}

func inLine(n int) api.Tree {
	var parents []int
	for i := range n {
		parents = append(parents, i-1)
	}
	return grown(parents...)
}

func star(n int) api.Tree {
	parents := []int{-1}
	for range n - 1 {
		parents = append(parents, 0)
	}
	return grown(parents...)
}

// bush has nodes of one branch between those of another one: 9, 7, 3, 1, 0 are a line, 6, 4, 2, 0 are, 10, 4, 2, 0 are.
func bush() api.Tree { return grown(-1, 0, 0, 1, 2, 1, 4, 3, 2, 7, 4, 0) }

// fork has two long branches, whose nodes take turns behind 1: 10, 8, 6, 4, 2, 1, 0 and 11, 9, 7, 5, 3, 1, 0.
func fork() api.Tree { return grown(-1, 0, 1, 1, 2, 3, 4, 5, 6, 7, 8, 9) }

// changed is the tree with one node of its own changed.
func changed(t api.Tree, at int, change func(*api.Node)) api.Tree {
	t.N = slices.Clone(t.N)
	change(&t.N[at])
	return t
}

func slotted(t api.Tree, slots ...uint64) api.Tree {
	for i, s := range slots {
		t = changed(t, i, func(n *api.Node) { n.Slot = s })
	}
	return t
}

// byChance is a tree of so many nodes, the same for the same chance. A parent is at most so many places ahead: the fewer these are, the deeper the tree.
func byChance(chance *rand.Rand, n, ahead int) api.Tree {
	var t api.Tree
	for i := range n {
		node := api.Node{Root: name(3*i + chance.Intn(3)), Parent: -1, Slot: uint64(chance.Intn(4)), Just: chance.Uint64()}
		if i > 0 {
			node.Parent = i - 1 - chance.Intn(min(i, ahead))
			node.Slot = t.N[node.Parent].Slot + 1 + uint64(chance.Intn(4))
		}
		t.N = append(t.N, node)
	}
	return t
}

// shapes are all trees of so many nodes, by their parents.
func shapes(n int) []api.Tree {
	lists := [][]int{{-1}}
	for i := 1; i < n; i++ {
		var next [][]int
		for _, l := range lists {
			for p := range i {
				next = append(next, slices.Concat(l, []int{p}))
			}
		}
		lists = next
	}
	var out []api.Tree
	for _, l := range lists {
		out = append(out, grown(l...))
	}
	return out
}

func mayBe() []api.Tree {
	l := []api.Tree{bush(), fork(), {N: []api.Node{{Parent: -1}}}, slotted(grown(-1), top), slotted(grown(-1, 0), 0, top), slotted(grown(-1, 0, 0), 0, 1, 1), slotted(grown(-1, 0, 1), top-2, top-1, top)}
	for n := 1; n <= 12; n++ {
		l = append(l, inLine(n), star(n))
	}
	for n := 1; n <= 6; n++ {
		l = append(l, shapes(n)...)
	}
	chance := rand.New(rand.NewSource(71))
	for i := range 120 {
		l = append(l, byChance(chance, 12-i%3, 1+i%12))
	}
	return l
}

// mayNotBe are trees that may not be for one thing alone.
func mayNotBe() []api.Tree {
	l := []api.Tree{{}, {N: []api.Node{}}, inLine(13), star(13), inLine(40)}
	for _, t := range []api.Tree{inLine(1), inLine(2), bush(), star(12), inLine(12)} {
		for _, p := range []int{0, 1, -2, 11, least, greatest} {
			l = append(l, changed(t, 0, func(n *api.Node) { n.Parent = p }))
		}
		for i := range t.N {
			for _, s := range []uint64{top + 1, endless} {
				l = append(l, changed(t, i, func(n *api.Node) { n.Slot = s }))
			}
		}
		for i := 1; i < len(t.N); i++ {
			for _, p := range []int{-1, -2, i, i + 1, 12, least, greatest} {
				l = append(l, changed(t, i, func(n *api.Node) { n.Parent = p }))
			}
			for _, s := range []uint64{0, t.N[t.N[i].Parent].Slot} {
				l = append(l, changed(t, i, func(n *api.Node) { n.Slot = s }))
			}
			l = append(l, changed(t, i, func(n *api.Node) { n.Root = t.N[0].Root }))
		}
	}
	return l
}

// places are those of the tree, and what is none.
func places(t api.Tree) []int {
	l := []int{least, least + 1, -13, -2, -1}
	for i := range len(t.N) + 3 {
		l = append(l, i)
	}
	return append(l, 12, 13, 1<<32, greatest-1, greatest)
}

// counts are all that a line may have, those of which only the low bits are such, and the ends.
func counts() []int {
	l := []int{least, least + 1, least + 3, -1 << 32, -16, -12, -8, -4, -2, -1}
	for n := range 34 {
		l = append(l, n)
	}
	return append(l, 63, 64, 65, 255, 256, 257, 1<<16+1, 1<<32, 1<<32+1, 1<<32+3, 1<<62, greatest-8, greatest-1, greatest)
}

// slots are those of the tree's nodes, those around them, and the ends.
func slots(t api.Tree) []uint64 {
	l := []uint64{0, 1, top - 1, top, top + 1, endless - 1, endless}
	for _, n := range t.N {
		l = append(l, n.Slot-1, n.Slot, n.Slot+1)
	}
	slices.Sort(l)
	return slices.Compact(l)
}

func isPlain(x api.Tree, i int) bool { return 0 <= i && i < len(x.N) }

// plainLine is the tests' own way: a place, its parent, and so on, of a tree that may be.
func plainLine(x api.Tree, i int) []int {
	var l []int
	for isPlain(x, i) {
		l = append(l, i)
		i = x.N[i].Parent
	}
	return l
}

func plainUp(x api.Tree, i, n int) int {
	if l := plainLine(x, i); 0 <= n && n < len(l) {
		return l[n]
	}
	return -1
}

func plainAt(x api.Tree, i int, slot uint64) int {
	for _, at := range plainLine(x, i) {
		if x.N[at].Slot <= slot {
			return at
		}
	}
	return -1
}

// plainMeet tries every place.
func plainMeet(x api.Tree, a, b int) int {
	meet := -1
	for i := range x.N {
		if slices.Contains(plainLine(x, a), i) && slices.Contains(plainLine(x, b), i) {
			meet = i
		}
	}
	return meet
}

func holdUp(t *testing.T, x api.Tree, i, n, want int) {
	t.Helper()
	if got := Up(x, i, n); got != want {
		t.Errorf("Up(%v, %d, %d) = %d, want %d", x, i, n, got, want)
	}
}

func holdDeep(t *testing.T, x api.Tree, i, want int) {
	t.Helper()
	if got := Deep(x, i); got != want {
		t.Errorf("Deep(%v, %d) = %d, want %d", x, i, got, want)
	}
}

func holdTable(t *testing.T, x api.Tree, want [][4]int) {
	t.Helper()
	if got := Table(x); !slices.Equal(got, want) {
		t.Errorf("Table(%v) = %v, want %v", x, got, want)
	}
}

func holdAt(t *testing.T, x api.Tree, i int, slot uint64, want int) {
	t.Helper()
	if got := At(x, i, slot); got != want || got != tree.At(x, i, slot) {
		t.Errorf("At(%v, %d, %d) = %d, want %d, tree's At is %d", x, i, slot, got, want, tree.At(x, i, slot))
	}
}

// holdMeet asks either way round.
func holdMeet(t *testing.T, x api.Tree, a, b, want int) {
	t.Helper()
	if Meet(x, a, b) != want || Meet(x, b, a) != want {
		t.Errorf("Meet of %d and %d in %v = %d, and turned round %d, want %d", a, b, x, Meet(x, a, b), Meet(x, b, a), want)
	}
}

// P7.1: the chapter's example.
func TestExample(t *testing.T) {
	holdUp(t, inLine(3), 2, 2, 0)
}

// P7.1: of a line of twelve, written out; the last one is eleven deep.
func TestUpInLine(t *testing.T) {
	x := inLine(12)
	for _, c := range [][2]int{{0, 11}, {1, 10}, {2, 9}, {3, 8}, {4, 7}, {5, 6}, {6, 5}, {7, 4}, {8, 3}, {9, 2}, {10, 1}, {11, 0}, {12, -1}, {13, -1}, {15, -1}, {16, -1}, {17, -1}, {18, -1}, {1 << 32, -1}, {1<<32 + 1, -1}, {greatest - 1, -1}, {greatest, -1}, {-1, -1}, {-2, -1}, {-4, -1}, {-8, -1}, {-11, -1}, {least, -1}, {least + 1, -1}, {least + 2, -1}} {
		holdUp(t, x, 11, c[0], c[1])
	}
	for _, c := range [][2]int{{0, 7}, {1, 6}, {2, 5}, {3, 4}, {4, 3}, {7, 0}, {8, -1}, {9, -1}, {11, -1}, {12, -1}} {
		holdUp(t, x, 7, c[0], c[1])
	}
	for _, c := range [][2]int{{0, 0}, {1, -1}, {2, -1}, {3, -1}, {4, -1}, {7, -1}, {8, -1}, {9, -1}, {11, -1}, {12, -1}, {-1, -1}} {
		holdUp(t, x, 0, c[0], c[1])
	}
	for i := range 12 {
		holdUp(t, x, i, 0, i)
		holdUp(t, x, i, i, 0)
		holdUp(t, x, i, i+1, -1)
	}
}

// P7.1: of branches, written out: a line, and where Up by 0, 1, 2 and so on comes to along it.
func TestUpInBranches(t *testing.T) {
	for _, c := range []struct {
		x    api.Tree
		line []int
	}{
		{bush(), []int{9, 7, 3, 1, 0}}, {bush(), []int{6, 4, 2, 0}}, {bush(), []int{10, 4, 2, 0}}, {bush(), []int{8, 2, 0}}, {bush(), []int{5, 1, 0}}, {bush(), []int{11, 0}},
		{fork(), []int{10, 8, 6, 4, 2, 1, 0}}, {fork(), []int{11, 9, 7, 5, 3, 1, 0}},
		{star(12), []int{1, 0}}, {star(12), []int{11, 0}}, {star(12), []int{0}},
	} {
		for n, want := range c.line {
			holdUp(t, c.x, c.line[0], n, want)
		}
		for n := len(c.line); n < 20; n++ {
			holdUp(t, c.x, c.line[0], n, -1)
		}
		holdUp(t, c.x, c.line[0], -1, -1)
	}
}

// P7.1: places that are none, also by 0, and a tree of one.
func TestUpOfNoPlace(t *testing.T) {
	for _, x := range []api.Tree{inLine(1), inLine(5), inLine(12), star(12), bush()} {
		for _, n := range counts() {
			for _, i := range []int{least, least + 1, -2, -1, len(x.N), len(x.N) + 1, greatest - 1, greatest} {
				holdUp(t, x, i, n, -1)
			}
		}
	}
	holdUp(t, inLine(1), 0, 0, 0)
	holdUp(t, inLine(1), 0, 1, -1)
	holdUp(t, inLine(1), 0, -1, -1)
	holdUp(t, inLine(5), 4, 0, 4)
}

// P7.1: of all places of many, by so many; by as many as it is deep, and one more.
func TestUpOfMany(t *testing.T) {
	for _, x := range mayBe() {
		for _, i := range places(x) {
			for _, n := range counts() {
				holdUp(t, x, i, n, plainUp(x, i, n))
			}
		}
		for i := range x.N {
			holdUp(t, x, i, len(plainLine(x, i))-1, 0)
			holdUp(t, x, i, len(plainLine(x, i)), -1)
		}
	}
}

// P7.1: by one more is the parent's by so many, as the promise has it.
func TestUpByOneMore(t *testing.T) {
	for _, x := range mayBe() {
		for i, node := range x.N {
			for n := range 14 {
				holdUp(t, x, i, n+1, Up(x, node.Parent, n))
			}
		}
	}
}

// P7.1: written out.
func TestDeep(t *testing.T) {
	for i, want := range []int{0, 1, 1, 2, 2, 2, 3, 3, 2, 4, 3, 1} {
		holdDeep(t, bush(), i, want)
	}
	for i, want := range []int{0, 1, 2, 2, 3, 3, 4, 4, 5, 5, 6, 6} {
		holdDeep(t, fork(), i, want)
	}
	for i := range 12 {
		holdDeep(t, inLine(12), i, i)
		holdDeep(t, star(12), i, min(i, 1))
	}
	holdDeep(t, inLine(1), 0, 0)
	for _, x := range []api.Tree{inLine(1), inLine(5), inLine(12), star(12), bush()} {
		for _, none := range []int{least, least + 1, -2, -1, len(x.N), len(x.N) + 1, greatest - 1, greatest} {
			holdDeep(t, x, none, -1)
		}
	}
}

// P7.1: of all places of many.
func TestDeepOfMany(t *testing.T) {
	for _, x := range mayBe() {
		for _, i := range places(x) {
			holdDeep(t, x, i, len(plainLine(x, i))-1)
		}
	}
}

// P7.2: of a line of twelve, written out: the leaps that end at the first one are those of 1 by one, 2 by two, 4 by four, and 8 by eight.
func TestTableOfLine(t *testing.T) {
	want := [][4]int{
		{-1, -1, -1, -1},
		{0, -1, -1, -1},
		{1, 0, -1, -1},
		{2, 1, -1, -1},
		{3, 2, 0, -1},
		{4, 3, 1, -1},
		{5, 4, 2, -1},
		{6, 5, 3, -1},
		{7, 6, 4, 0},
		{8, 7, 5, 1},
		{9, 8, 6, 2},
		{10, 9, 7, 3},
	}
	for n := 1; n <= 12; n++ {
		holdTable(t, inLine(n), want[:n])
	}
}

// P7.2: of branches, written out.
func TestTableOfBranches(t *testing.T) {
	first, second := [4]int{-1, -1, -1, -1}, [4]int{0, -1, -1, -1}
	holdTable(t, star(12), [][4]int{first, second, second, second, second, second, second, second, second, second, second, second})
	holdTable(t, bush(), [][4]int{first, second, second, {1, 0, -1, -1}, {2, 0, -1, -1}, {1, 0, -1, -1}, {4, 2, -1, -1}, {3, 1, -1, -1}, {2, 0, -1, -1}, {7, 3, 0, -1}, {4, 2, -1, -1}, second})
	holdTable(t, fork(), [][4]int{first, second, {1, 0, -1, -1}, {1, 0, -1, -1}, {2, 1, -1, -1}, {3, 1, -1, -1}, {4, 2, 0, -1}, {5, 3, 0, -1}, {6, 4, 1, -1}, {7, 5, 1, -1}, {8, 6, 2, -1}, {9, 7, 3, -1}})
	holdTable(t, inLine(1), [][4]int{first})
	holdTable(t, slotted(inLine(1), top), [][4]int{first})
}

// P7.2: of many: each leap is Up by so many.
func TestTableOfMany(t *testing.T) {
	for _, x := range mayBe() {
		var want [][4]int
		for i := range x.N {
			want = append(want, [4]int{plainUp(x, i, 1), plainUp(x, i, 2), plainUp(x, i, 4), plainUp(x, i, 8)})
		}
		holdTable(t, x, want)
		for i, row := range Table(x) {
			for k, at := range row {
				holdUp(t, x, i, 1<<k, at)
			}
		}
	}
}

// P7.2: written out; of the line slots are 5, 9, 14, 17, 21, 26, 29, 33, 38, 41, 45 and 50, of the star 5, 9, 10 and 8.
func TestAt(t *testing.T) {
	line, side := inLine(12), star(4)
	for _, c := range []struct {
		x    api.Tree
		i    int
		slot uint64
		want int
	}{
		{line, 11, endless, 11}, {line, 11, top, 11}, {line, 11, 51, 11}, {line, 11, 50, 11}, {line, 11, 49, 10}, {line, 11, 45, 10}, {line, 11, 44, 9}, {line, 11, 41, 9}, {line, 11, 40, 8}, {line, 11, 37, 7}, {line, 11, 33, 7}, {line, 11, 32, 6}, {line, 11, 28, 5}, {line, 11, 25, 4}, {line, 11, 20, 3}, {line, 11, 16, 2}, {line, 11, 13, 1}, {line, 11, 9, 1}, {line, 11, 8, 0}, {line, 11, 5, 0}, {line, 11, 4, -1}, {line, 11, 0, -1},
		{line, 2, endless, 2}, {line, 2, top + 1, 2}, {line, 2, top, 2}, {line, 2, 14, 2}, {line, 2, 10, 1}, {line, 2, 4, -1},
		{line, 0, endless, 0}, {line, 0, 6, 0}, {line, 0, 5, 0}, {line, 0, 4, -1}, {line, 0, 0, -1},
		{side, 3, 8, 3}, {side, 3, 7, 0}, {side, 2, 10, 2}, {side, 2, 9, 0}, {side, 1, 9, 1}, {side, 1, 8, 0}, {side, 1, 4, -1},
		{line, -1, endless, -1}, {line, 12, endless, -1}, {line, least, endless, -1}, {line, greatest, endless, -1}, {line, -1, 0, -1}, {line, 12, 5, -1},
		{slotted(inLine(2), 0, 1), 1, 0, 0}, {slotted(inLine(2), 0, top), 1, top - 1, 0}, {slotted(inLine(2), 0, top), 1, top, 1}, {slotted(inLine(2), top-1, top), 1, top - 2, -1},
		{slotted(inLine(1), top), 0, top, 0}, {slotted(inLine(1), top), 0, top - 1, -1}, {slotted(inLine(1), top), 0, endless, 0},
	} {
		holdAt(t, c.x, c.i, c.slot, c.want)
	}
}

// P7.2: of all places of many, held against tree's At as well.
func TestAtOfMany(t *testing.T) {
	for _, x := range mayBe() {
		for _, i := range places(x) {
			for _, slot := range slots(x) {
				holdAt(t, x, i, slot, plainAt(x, i, slot))
			}
		}
	}
}

// P7.2: written out.
func TestMeet(t *testing.T) {
	for _, c := range [][3]int{
		{0, 0, 0}, {9, 9, 9}, {11, 11, 11}, {9, 7, 7}, {9, 3, 3}, {9, 1, 1}, {9, 0, 0}, {11, 0, 0}, {1, 0, 0},
		{9, 5, 1}, {3, 5, 1}, {7, 5, 1}, {6, 10, 4}, {6, 8, 2}, {10, 8, 2}, {4, 8, 2}, {9, 10, 0}, {9, 6, 0}, {9, 11, 0}, {10, 11, 0}, {1, 2, 0}, {3, 4, 0}, {5, 4, 0},
		{0, -1, -1}, {0, 12, -1}, {-1, -1, -1}, {12, 12, -1}, {-1, 12, -1}, {11, 12, -1}, {11, -1, -1}, {9, 13, -1},
		{0, least, -1}, {0, greatest, -1}, {11, least, -1}, {11, greatest, -1}, {least, least, -1}, {greatest, greatest, -1}, {least, greatest, -1},
	} {
		holdMeet(t, bush(), c[0], c[1], c[2])
	}
	for _, c := range [][3]int{{10, 11, 1}, {10, 9, 1}, {2, 11, 1}, {10, 3, 1}, {2, 3, 1}, {10, 2, 2}, {11, 3, 3}, {10, 1, 1}, {11, 0, 0}, {8, 10, 8}} {
		holdMeet(t, fork(), c[0], c[1], c[2])
	}
	for i := range 12 {
		for k := range i {
			holdMeet(t, inLine(12), i, k, k)
			holdMeet(t, star(12), i, k, 0)
		}
		holdMeet(t, inLine(12), i, i, i)
		holdMeet(t, star(12), i, i, i)
	}
	holdMeet(t, inLine(1), 0, 0, 0)
	holdMeet(t, inLine(1), 0, 1, -1)
	holdMeet(t, inLine(1), 0, -1, -1)
}

// P7.2: of any two places of many; with itself, its parent, and the first one among them.
func TestMeetOfMany(t *testing.T) {
	for _, x := range mayBe() {
		for _, a := range places(x) {
			for _, b := range places(x) {
				holdMeet(t, x, a, b, plainMeet(x, a, b))
			}
		}
		for i, n := range x.N {
			holdMeet(t, x, i, i, i)
			holdMeet(t, x, i, 0, 0)
			if n.Parent >= 0 {
				holdMeet(t, x, i, n.Parent, n.Parent)
			}
		}
	}
}

// P7.1, P7.2: of a tree that may not be there is nothing at any place, also by 0, and with itself.
func TestNothingOfWhatMayNotBe(t *testing.T) {
	for _, x := range mayNotBe() {
		holdTable(t, x, nil)
		for _, i := range places(x) {
			holdDeep(t, x, i, -1)
			for _, n := range counts() {
				holdUp(t, x, i, n, -1)
			}
			for _, slot := range []uint64{0, 5, 9, top, endless} {
				holdAt(t, x, i, slot, -1)
			}
			for _, k := range []int{i, least, -1, 0, 1, 5, 11, greatest} {
				holdMeet(t, x, i, k, -1)
			}
		}
	}
}

// P7.3: up by two numbers, one after the other, is up by both together.
func TestUpTwice(t *testing.T) {
	for _, x := range mayBe() {
		for i := range x.N {
			for m := range 14 {
				for n := range 14 - m {
					holdUp(t, x, Up(x, i, m), n, Up(x, i, m+n))
				}
			}
			holdUp(t, x, i, Deep(x, i), 0)
			holdUp(t, x, i, Deep(x, i)+1, -1)
		}
	}
}

// P7.3: Meet is above both, and all that is above both is above it.
func TestMeetIsAboveBoth(t *testing.T) {
	for _, x := range mayBe() {
		for a := range x.N {
			for b := range x.N {
				meet := Meet(x, a, b)
				for i := range x.N {
					if (tree.Above(x, i, a) && tree.Above(x, i, b)) != tree.Above(x, i, meet) {
						t.Errorf("Meet(%v, %d, %d) = %d, and %d", x, a, b, meet, i)
					}
				}
			}
		}
	}
}

// within lays nodes into others, so that there is something ahead of them and behind them.
func within(l []api.Node) (all, piece []api.Node) {
	mark := []api.Node{{Root: name(777), Parent: 7, Slot: 7, Just: 7}, {Root: name(778), Parent: 8, Slot: 8, Just: 8}}
	all = slices.Concat(mark, l, mark)
	return all, all[2 : 2+len(l)]
}

// callAll makes each call at each place, and tells the table.
func callAll(x api.Tree) [][4]int {
	for i := -1; i <= len(x.N); i++ {
		Deep(x, i)
		for k := -1; k <= len(x.N); k++ {
			Up(x, i, k)
			At(x, i, uint64(3*k))
			Meet(x, i, k)
		}
	}
	return Table(x)
}

// R3: what is handed in stays as it was, around it too, also when what was answered is changed later; and what was answered stays when what was handed in is changed.
func TestHandedInStays(t *testing.T) {
	for _, x := range slices.Concat(mayBe(), mayNotBe()) {
		all, piece := within(x.N)
		before := slices.Clone(all)
		x.N = piece
		got := callAll(x)
		if !slices.Equal(all, before) {
			t.Errorf("handed in %v, now %v", before, all)
		}
		want := slices.Clone(got)
		for i := range all {
			all[i] = api.Node{Root: name(4242), Parent: 42, Slot: 42, Just: 42}
		}
		if !slices.Equal(got, want) {
			t.Errorf("the table was %v, and is now %v", want, got)
		}
		copy(all, before)
		for i := range got[:cap(got)] {
			got[:cap(got)][i] = [4]int{42, 42, 42, 42}
		}
		if !slices.Equal(all, before) || !slices.Equal(Table(x), want) {
			t.Errorf("an answer was changed, and what was handed in, %v, is now %v", before, all)
		}
	}
}

// R3: two tables of one tree share nothing.
func TestTwoTables(t *testing.T) {
	x := bush()
	one, two := Table(x), Table(x)
	for i := range one {
		one[i] = [4]int{42, 42, 42, 42}
	}
	holdTable(t, x, two)
	if two[9] != [4]int{7, 3, 0, -1} {
		t.Error(two)
	}
}

// R5: each call answers the same again, whatever was asked between.
func TestAskedAgain(t *testing.T) {
	x, y := bush(), fork()
	for range 3 {
		holdUp(t, x, 9, 3, 1)
		holdUp(t, y, 9, 3, 3)
		holdMeet(t, x, 6, 10, 4)
		holdMeet(t, y, 6, 10, 6)
		holdDeep(t, x, 9, 4)
		holdDeep(t, y, 9, 5)
	}
}

// P1: very many nodes, in a line that a walk would go along for long.
func TestVeryMany(t *testing.T) {
	x := inLine(100000)
	if len(Table(x)) != 0 || Up(x, 99999, 0) != -1 || Up(x, 99999, 5) != -1 || Deep(x, 99999) != -1 || At(x, 99999, endless) != -1 || Meet(x, 99999, 5) != -1 {
		t.Error("very many nodes")
	}
}

// fromBytes makes a tree of each three bytes a node: its root, its parent, and its slot.
func fromBytes(in []byte) api.Tree {
	var x api.Tree
	for ; len(in) >= 3; in = in[3:] {
		x.N = append(x.N, api.Node{Root: name(int(in[0])), Parent: int(int8(in[1])), Slot: uint64(in[2])})
		if in[2] > 250 {
			x.N[len(x.N)-1].Slot = top + uint64(in[2]) - 253
		}
	}
	return x
}

// P1, P7.1, P7.2: whatever the tree, the places, the number and the slot.
func FuzzSkip(f *testing.F) {
	f.Add([]byte{}, 0, 0, 0, uint64(0))
	f.Add([]byte{1, 255, 5}, 0, -1, 1, uint64(5))
	f.Add([]byte{1, 255, 5, 2, 0, 9, 3, 1, 253}, 2, 0, 2, uint64(top))
	f.Add([]byte{1, 255, 5, 2, 0, 9, 1, 1, 254}, least, greatest, least, uint64(endless))
	f.Add([]byte{1, 255, 5, 2, 0, 9, 3, 0, 9, 4, 1, 11, 5, 2, 11}, 3, 4, greatest, uint64(9))
	f.Fuzz(func(t *testing.T, in []byte, i, k, n int, slot uint64) {
		x := fromBytes(in)
		if !tree.May(x) {
			holdTable(t, x, nil)
			holdUp(t, x, i, n, -1)
			holdDeep(t, x, i, -1)
			holdAt(t, x, i, slot, -1)
			holdMeet(t, x, i, k, -1)
			return
		}
		for _, a := range []int{i, int(uint(i) % 12)} {
			for _, b := range []int{k, int(uint(k) % 12)} {
				holdMeet(t, x, a, b, plainMeet(x, a, b))
			}
			holdUp(t, x, a, n, plainUp(x, a, n))
			holdUp(t, x, a, int(uint(n)%13), plainUp(x, a, int(uint(n)%13)))
			holdDeep(t, x, a, len(plainLine(x, a))-1)
			holdAt(t, x, a, slot, plainAt(x, a, slot))
		}
		for a, row := range Table(x) {
			if row != [4]int{plainUp(x, a, 1), plainUp(x, a, 2), plainUp(x, a, 4), plainUp(x, a, 8)} {
				t.Errorf("Table(%v)[%d] = %v", x, a, row)
			}
		}
	})
}
