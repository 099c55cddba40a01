package best

import (
	"bytes"
	"cmp"
	"encoding/binary"
	"math"
	"math/rand"
	"slices"
	"testing"

	"areopagus/api"
	"areopagus/tree"
)

const (
	least    = math.MinInt
	greatest = math.MaxInt
	top      = 1 << 40
	last     = uint64(math.MaxUint64)
	half     = uint64(1) << 63
)

// name hangs on its number at both ends, so that half of a root is not taken for it.
func name(n int) api.Root { return api.Root{byte(n), 15: byte(n >> 8), 31: byte(n)} }

// grown is a tree of so many parents, whose roots rise by place: slots and what is justified fall where they may, so that none of them is taken for a weight.
func grown(parents ...int) api.Tree {
	var t api.Tree
	for i, p := range parents {
		n := api.Node{Root: name(i + 1), Parent: p, Slot: 5, Just: uint64(1000 - i)}
		if 0 <= p && p < i {
			n.Slot = t.N[p].Slot + 3 + uint64(i%3)
		}
		t.N = append(t.N, n)
	}
	return t
}

func inLine(n int) api.Tree {
	var parents []int
	for i := range n {
		parents = append(parents, i-1)
	}
	return grown(parents...)
}

func star(n int) api.Tree {
	parents := []int{-1}
	for range n - 1 {
		parents = append(parents, 0)
	}
	return grown(parents...)
}

// bush has nodes of one branch between those of another one: 0 has 1, 2 and 11, 1 has 3 and 5, 2 has 4 and 8, 3 has 7, 4 has 6 and 10, 7 has 9.
func bush() api.Tree { return grown(-1, 0, 0, 1, 2, 1, 4, 3, 2, 7, 4, 0) }

// fork has two long branches, whose nodes take turns behind 1: 10, 8, 6, 4, 2, 1, 0 and 11, 9, 7, 5, 3, 1, 0.
func fork() api.Tree { return grown(-1, 0, 1, 1, 2, 3, 4, 5, 6, 7, 8, 9) }

// changed is the tree with one node of its own changed.
func changed(t api.Tree, at int, change func(*api.Node)) api.Tree {
	t.N = slices.Clone(t.N)
	change(&t.N[at])
	return t
}

// rooted is the tree with the roots of these numbers, in order.
func rooted(t api.Tree, names ...int) api.Tree {
	for i, n := range names {
		t = changed(t, i, func(node *api.Node) { node.Root = name(n) })
	}
	return t
}

// byChance is a tree of so many nodes, the same for the same chance. A parent is at most so many places ahead: the fewer these are, the deeper the tree.
func byChance(chance *rand.Rand, n, ahead int) api.Tree {
	parents := []int{-1}
	for i := 1; i < n; i++ {
		parents = append(parents, i-1-chance.Intn(min(i, ahead)))
	}
	return rooted(grown(parents...), chance.Perm(n)...)
}

// shapes are all trees of so many nodes, by their parents.
func shapes(n int) []api.Tree {
	lists := [][]int{{-1}}
	for i := 1; i < n; i++ {
		var next [][]int
		for _, l := range lists {
			for p := range i {
				next = append(next, slices.Concat(l, []int{p}))
			}
		}
		lists = next
	}
	var out []api.Tree
	for _, l := range lists {
		out = append(out, grown(l...))
	}
	return out
}

func mayBe() []api.Tree {
	l := []api.Tree{bush(), fork(), {N: []api.Node{{Parent: -1}}}, {N: []api.Node{{Parent: -1, Slot: top, Just: last}}}}
	for n := 1; n <= 12; n++ {
		l = append(l, inLine(n), star(n))
	}
	for n := 1; n <= 5; n++ {
		l = append(l, shapes(n)...)
	}
	chance := rand.New(rand.NewSource(91))
	for i := range 120 {
		l = append(l, byChance(chance, 12-i%4, 1+i%12))
	}
	return l
}

// mayNotBe are trees that may not be for one thing alone.
func mayNotBe() []api.Tree {
	l := []api.Tree{{}, {N: []api.Node{}}, inLine(13), star(13), inLine(40)}
	for _, t := range []api.Tree{inLine(1), inLine(2), bush(), star(12), inLine(12)} {
		for _, p := range []int{0, 1, -2, 11, least, greatest} {
			l = append(l, changed(t, 0, func(n *api.Node) { n.Parent = p }))
		}
		for i := range t.N {
			l = append(l, changed(t, i, func(n *api.Node) { n.Slot = top + 1 }), changed(t, i, func(n *api.Node) { n.Slot = last }))
		}
		for i := 1; i < len(t.N); i++ {
			for _, p := range []int{-1, -2, i, i + 1, 12, least, greatest} {
				l = append(l, changed(t, i, func(n *api.Node) { n.Parent = p }))
			}
			l = append(l, changed(t, i, func(n *api.Node) { n.Slot = t.N[n.Parent].Slot }), changed(t, i, func(n *api.Node) { n.Root = t.N[0].Root }))
		}
	}
	return l
}

// places are those of a tree, and what is none.
func places(t api.Tree) []int {
	l := []int{least, least + 1, -13, -2, -1}
	for i := range len(t.N) + 3 {
		l = append(l, i)
	}
	return append(l, 12, 13, 1<<32, greatest-1, greatest)
}

// like are so many of one.
func like[E any](n int, x E) []E { return slices.Repeat([]E{x}, n) }

// but is the list with another one at a place.
func but[E any](l []E, at int, x E) []E {
	l = slices.Clone(l)
	l[at] = x
	return l
}

// those lead on, of so many.
func those(n int, places ...int) []bool {
	l := like(n, false)
	for _, at := range places {
		l[at] = true
	}
	return l
}

// some are weights of which several are the same.
func some(chance *rand.Rand, n int) []uint64 {
	from := []uint64{0, 1, half, last - 1, last}
	var l []uint64
	for range n {
		l = append(l, from[chance.Intn(1+chance.Intn(len(from)))])
	}
	return l
}

func someLead(chance *rand.Rand, n int) []bool {
	var l []bool
	for range n {
		l = append(l, chance.Intn(4) > 0)
	}
	return l
}

// plainKid stands the children that lead on in order, and takes the last one, of a tree that may be.
func plainKid(x api.Tree, w []uint64, leads []bool, i int) int {
	var l []int
	for k := 1; k < len(x.N); k++ {
		if x.N[k].Parent == i && leads[k] {
			l = append(l, k)
		}
	}
	slices.SortFunc(l, func(a, b int) int {
		return cmp.Or(cmp.Compare(w[a], w[b]), bytes.Compare(x.N[a].Root[:], x.N[b].Root[:]))
	})
	return end(l)
}

func end(l []int) int {
	if len(l) == 0 {
		return -1
	}
	return l[len(l)-1]
}

func plainLine(x api.Tree, w []uint64, leads []bool, i int) []int {
	if i < 0 || i >= len(x.N) {
		return nil
	}
	l := []int{i}
	if kid := plainKid(x, w, leads, i); kid >= 0 {
		l = append(l, plainLine(x, w, leads, kid)...)
	}
	return l
}

// holdLine holds the three calls of one place: the line tells the child and the head, too.
func holdLine(t *testing.T, x api.Tree, w []uint64, leads []bool, i int, want ...int) {
	t.Helper()
	if got := Line(x, w, leads, i); !slices.Equal(got, want) {
		t.Errorf("Line(%v, %v, %v, %d) = %v, want %v", x, w, leads, i, got, want)
	}
	if got := Head(x, w, leads, i); got != end(want) {
		t.Errorf("Head(%v, %v, %v, %d) = %d, want %d", x, w, leads, i, got, end(want))
	}
	if got, kid := Kid(x, w, leads, i), end(want[min(1, len(want)):min(2, len(want))]); got != kid {
		t.Errorf("Kid(%v, %v, %v, %d) = %d, want %d", x, w, leads, i, got, kid)
	}
}

func holdAll(t *testing.T, x api.Tree, w []uint64, leads []bool, want [][2]int) {
	t.Helper()
	if got := All(x, w, leads); !slices.Equal(got, want) {
		t.Errorf("All(%v, %v, %v) = %v, want %v", x, w, leads, got, want)
	}
}

// holdPlain holds all calls, at all places, by the plain way, and All by Kid and Head.
func holdPlain(t *testing.T, x api.Tree, w []uint64, leads []bool) {
	t.Helper()
	var want, each [][2]int
	for i := range x.N {
		want = append(want, [2]int{plainKid(x, w, leads, i), end(plainLine(x, w, leads, i))})
		each = append(each, [2]int{Kid(x, w, leads, i), Head(x, w, leads, i)})
	}
	holdAll(t, x, w, leads, want)
	holdAll(t, x, w, leads, each)
	for _, i := range places(x) {
		holdLine(t, x, w, leads, i, plainLine(x, w, leads, i)...)
	}
}

// holdNothing wants what is answered where it may not be told.
func holdNothing(t *testing.T, x api.Tree, w []uint64, leads []bool) {
	t.Helper()
	holdAll(t, x, w, leads, nil)
	for _, i := range places(x) {
		holdLine(t, x, w, leads, i)
	}
}

// P9.1, P9.2: the chapter's example.
func TestExample(t *testing.T) {
	x, all := star(3), like(3, true)
	holdLine(t, x, []uint64{8, 3, 5}, all, 0, 0, 2)
	holdAll(t, x, []uint64{8, 3, 5}, all, [][2]int{{2, 2}, {-1, 1}, {-1, 2}})
	holdLine(t, x, []uint64{8, 5, 3}, all, 0, 0, 1)
	// The root of the lighter one, and its slot, are greater, or not.
	for _, names := range [][]int{{1, 2, 3}, {1, 3, 2}, {2, 1, 3}, {2, 3, 1}, {3, 1, 2}, {3, 2, 1}} {
		holdLine(t, rooted(x, names...), []uint64{8, 3, 5}, all, 0, 0, 2)
		holdLine(t, rooted(x, names...), []uint64{8, 5, 3}, all, 0, 0, 1)
	}
}

// P9.1, P9.2: of one node there is no child, and the head is it, whether it leads on or not.
func TestOfOne(t *testing.T) {
	for _, x := range []api.Tree{inLine(1), {N: []api.Node{{Parent: -1}}}, {N: []api.Node{{Root: name(300), Parent: -1, Slot: top, Just: last}}}} {
		for _, w := range []uint64{0, 1, half, last} {
			for _, leads := range []bool{true, false} {
				holdAll(t, x, []uint64{w}, []bool{leads}, [][2]int{{-1, 0}})
				holdLine(t, x, []uint64{w}, []bool{leads}, 0, 0)
				for _, i := range []int{least, -2, -1, 1, 2, 12, greatest} {
					holdLine(t, x, []uint64{w}, []bool{leads}, i)
				}
			}
		}
	}
}

// P9.1, P9.2: a line of twelve that all lead on, from each of it.
func TestOfLine(t *testing.T) {
	x, all := inLine(12), like(12, true)
	whole := []int{0, 1, 2, 3, 4, 5, 6, 7, 8, 9, 10, 11}
	for _, w := range [][]uint64{like(12, uint64(0)), like(12, last), {12, 11, 10, 9, 8, 7, 6, 5, 4, 3, 2, 1}, {1, 2, 3, 4, 5, 6, 7, 8, 9, 10, 11, 12}} {
		for i := range 12 {
			holdLine(t, x, w, all, i, whole[i:]...)
		}
		holdAll(t, x, w, all, [][2]int{{1, 11}, {2, 11}, {3, 11}, {4, 11}, {5, 11}, {6, 11}, {7, 11}, {8, 11}, {9, 11}, {10, 11}, {11, 11}, {-1, 11}})
	}
}

// P9.1, P9.2: one that is broken off at each place: ahead of it the line ends there, and from it on it goes on.
func TestOfBrokenLine(t *testing.T) {
	x, w := inLine(12), like(12, uint64(7))
	whole := []int{0, 1, 2, 3, 4, 5, 6, 7, 8, 9, 10, 11}
	for off := 1; off < 12; off++ {
		leads := but(like(12, true), off, false)
		for i := range 12 {
			if i < off {
				holdLine(t, x, w, leads, i, whole[i:off]...)
			} else {
				holdLine(t, x, w, leads, i, whole[i:]...)
			}
		}
	}
	broken := but(like(12, true), 6, false)
	holdAll(t, x, w, broken, [][2]int{{1, 5}, {2, 5}, {3, 5}, {4, 5}, {5, 5}, {-1, 5}, {7, 11}, {8, 11}, {9, 11}, {10, 11}, {11, 11}, {-1, 11}})
	holdAll(t, x, w, like(12, false), [][2]int{{-1, 0}, {-1, 1}, {-1, 2}, {-1, 3}, {-1, 4}, {-1, 5}, {-1, 6}, {-1, 7}, {-1, 8}, {-1, 9}, {-1, 10}, {-1, 11}})
}

// P9.1, P9.2: of several branches, written out: from the first one, from the middle, from leaves.
func TestOfBranches(t *testing.T) {
	all := like(12, true)
	w := []uint64{9, 5, 6, 1, 2, 4, 7, 1, 2, 1, 7, 6}
	// Of 0, 11 weighs as 2 does, of 2, 8 as 4 does, of 4, 10 as 6 does: the roots tell.
	holdLine(t, bush(), w, all, 0, 0, 11)
	holdLine(t, bush(), w, all, 1, 1, 5)
	holdLine(t, bush(), w, all, 2, 2, 8)
	holdLine(t, bush(), w, all, 3, 3, 7, 9)
	holdLine(t, bush(), w, all, 4, 4, 10)
	holdLine(t, bush(), w, all, 5, 5)
	holdLine(t, bush(), w, all, 9, 9)
	holdLine(t, bush(), w, all, 11, 11)
	holdAll(t, bush(), w, all, [][2]int{{11, 11}, {5, 5}, {8, 8}, {7, 9}, {10, 10}, {-1, 5}, {-1, 6}, {9, 9}, {-1, 8}, {-1, 9}, {-1, 10}, {-1, 11}})
	holdLine(t, bush(), but(w, 11, 5), all, 0, 0, 2, 8)
	holdLine(t, bush(), but(w, 3, 5), all, 1, 1, 3, 7, 9)
	holdLine(t, bush(), w, but(all, 11, false), 0, 0, 2, 8)
	holdLine(t, bush(), w, but(all, 8, false), 2, 2, 4, 10)
	holdLine(t, bush(), w, those(12, 2, 4, 6), 0, 0, 2, 4, 6)
	holdLine(t, bush(), w, those(12, 4, 6), 0, 0)
	holdLine(t, bush(), w, those(12, 4, 6), 2, 2, 4, 6)
	holdLine(t, fork(), like(12, uint64(1)), all, 0, 0, 1, 3, 5, 7, 9, 11)
	holdLine(t, fork(), but(like(12, uint64(1)), 2, 2), all, 0, 0, 1, 2, 4, 6, 8, 10)
	holdLine(t, fork(), like(12, uint64(1)), all, 6, 6, 8, 10)
	holdLine(t, fork(), like(12, uint64(1)), but(all, 7, false), 0, 0, 1, 3, 5)
}

// P9.1, P9.2: whether one leads on itself tells nothing of where one comes to from it.
func TestFromOneThatDoesNotLeadOn(t *testing.T) {
	w := []uint64{last, 1, 1, 1, 1, 1, 1, 1, 1, 1, 1, 1}
	for _, i := range []int{0, 1, 3, 7} {
		holdLine(t, bush(), w, but(like(12, true), i, false), i, plainLine(bush(), w, like(12, true), i)...)
	}
	holdLine(t, bush(), w, those(12, 1, 3, 7, 9), 0, 0, 1, 3, 7, 9)
	holdLine(t, bush(), w, those(12, 7, 9), 3, 3, 7, 9)
	holdLine(t, bush(), w, those(12, 9), 9, 9)
	holdLine(t, bush(), w, those(12), 9, 9)
	holdLine(t, bush(), w, those(12, 9), 3, 3)
	holdLine(t, bush(), w, those(12, 0), 0, 0)
}

// P9.1: of a star's eleven children none, one, some and all lead on; the one that weighs most is each in turn, and what weighs more does not lead on.
func TestWhichLeadOn(t *testing.T) {
	x := star(12)
	rising := []uint64{0, 1, 2, 3, 4, 5, 6, 7, 8, 9, 10, 11}
	falling := []uint64{0, 11, 10, 9, 8, 7, 6, 5, 4, 3, 2, 1}
	holdLine(t, x, rising, like(12, false), 0, 0)
	holdLine(t, x, rising, those(12, 0), 0, 0)
	for k := 1; k < 12; k++ {
		holdLine(t, x, rising, those(12, k), 0, 0, k)
		holdLine(t, x, falling, those(12, k), 0, 0, k)
		holdLine(t, x, like(12, uint64(0)), those(12, k), 0, 0, k)
		holdLine(t, x, but(like(12, last), k, 0), those(12, k), 0, 0, k)
		holdLine(t, x, but(like(12, uint64(4)), k, 5), like(12, true), 0, 0, k)
		holdLine(t, x, but(like(12, uint64(0)), k, 1), like(12, true), 0, 0, k)
		holdLine(t, x, but(like(12, last-1), k, last), like(12, true), 0, 0, k)
		// The heaviest one does not lead on: all others do.
		next := 11
		if k == 11 {
			next = 10
		}
		holdLine(t, x, but(like(12, uint64(4)), k, last), but(like(12, true), k, false), 0, 0, next)
	}
	holdLine(t, x, rising, like(12, true), 0, 0, 11)
	holdLine(t, x, falling, like(12, true), 0, 0, 1)
	holdLine(t, x, rising, those(12, 2, 5, 7), 0, 0, 7)
	holdLine(t, x, falling, those(12, 2, 5, 7), 0, 0, 2)
	holdLine(t, x, []uint64{0, 1, 1, 1, 1, 9, 9, 9, 9, 9, 9, 9}, those(12, 2, 3, 4), 0, 0, 4)
}

// P9.1: weights at their ends, and such as differ by one bit alone.
func TestWeights(t *testing.T) {
	x, all := rooted(star(3), 1, 3, 2), like(3, true)
	for _, c := range []struct {
		a, b uint64
		want int
	}{
		{0, 0, 1}, {0, 1, 2}, {1, 0, 1}, {last, last, 1}, {last - 1, last, 2}, {last, last - 1, 1}, {0, last, 2}, {last, 0, 1},
		{half - 1, half, 2}, {half, half - 1, 1}, {half, last, 2}, {1<<32 - 1, 1 << 32, 2}, {7, 1 << 32, 2}, {1, half, 2}, {half + 1, 1, 1},
	} {
		holdLine(t, x, []uint64{5, c.a, c.b}, all, 0, 0, c.want)
	}
	for bit := range 64 {
		for _, base := range []uint64{0, last, 0x5555555555555555} {
			holdLine(t, x, []uint64{0, base &^ (1 << bit), base | 1<<bit}, all, 0, 0, 2)
			holdLine(t, x, []uint64{0, base | 1<<bit, base &^ (1 << bit)}, all, 0, 0, 1)
		}
	}
}

// P9.1: of several that weigh the same the one of the greatest root, wherever it stands, also beside lighter ones of greater roots, and one of the greatest root that does not lead on.
func TestSameWeights(t *testing.T) {
	for k := 1; k < 12; k++ {
		names := []int{100, 1, 2, 3, 4, 5, 6, 7, 8, 9, 10, 11}
		names[k] = 50
		x := rooted(star(12), names...)
		for _, w := range []uint64{0, 1, half, last} {
			holdLine(t, x, like(12, w), like(12, true), 0, 0, k)
		}
		// Another one that is less, but leads on alone, and one that is greater, but weighs less.
		other := 1 + k%11
		holdLine(t, x, like(12, uint64(6)), those(12, other), 0, 0, other)
		holdLine(t, x, but(like(12, uint64(6)), k, 5), those(12, k, other), 0, 0, other)
		holdLine(t, x, but(like(12, uint64(6)), k, 5), those(12, k), 0, 0, k)
	}
	holdLine(t, rooted(star(5), 9, 3, 4, 1, 2), []uint64{0, 7, 5, 7, 7}, like(5, true), 0, 0, 1)
	holdLine(t, rooted(star(5), 9, 1, 4, 3, 2), []uint64{0, 7, 5, 7, 7}, like(5, true), 0, 0, 3)
	holdLine(t, rooted(star(5), 9, 1, 4, 2, 3), []uint64{0, 7, 5, 7, 7}, like(5, true), 0, 0, 4)
	holdLine(t, rooted(star(5), 9, 1, 2, 3, 4), []uint64{0, 7, 5, 7, 7}, but(like(5, true), 4, false), 0, 0, 3)
}

// P9.1: whichever byte of the root tells; bytes behind it that say otherwise tell nothing, and bytes have no sign.
func TestEachByteOfRoots(t *testing.T) {
	for place := range 32 {
		for _, c := range [][2]byte{{0, 1}, {0, 255}, {127, 128}, {254, 255}, {1, 128}} {
			low, high := api.Root{}, api.Root{}
			for i := range 32 {
				low[i], high[i] = 200, 200
			}
			low[place], high[place] = c[0], c[1]
			for i := place + 1; i < 32; i++ {
				low[i], high[i] = 255, 0
			}
			for at := 1; at < 4; at++ {
				x := changed(star(4), 1, func(n *api.Node) { n.Root = low })
				x = changed(x, 2, func(n *api.Node) { n.Root = api.Root{} })
				x = changed(x, 3, func(n *api.Node) { n.Root = high })
				x.N[3].Root, x.N[at].Root = x.N[at].Root, x.N[3].Root
				holdLine(t, x, like(4, uint64(3)), like(4, true), 0, 0, at)
			}
		}
	}
}

// P9.1: the weight, the slot and what is justified of others, and those of the parent, tell nothing.
func TestWhatTellsNothing(t *testing.T) {
	x := rooted(star(3), 2, 3, 1)
	for _, s := range [][2]uint64{{6, 9}, {9, 6}, {9, 9}, {6, top}, {top, 6}} {
		for _, just := range [][2]uint64{{0, last}, {last, 0}, {7, 7}} {
			y := changed(changed(x, 1, func(n *api.Node) { n.Slot, n.Just = s[0], just[0] }), 2, func(n *api.Node) { n.Slot, n.Just = s[1], just[1] })
			for _, first := range []uint64{0, 4, last} {
				holdLine(t, y, []uint64{first, 4, 4}, like(3, true), 0, 0, 1)
				holdLine(t, y, []uint64{first, 4, 5}, like(3, true), 0, 0, 2)
				holdLine(t, y, []uint64{first, 4, 4}, []bool{first == 4, true, true}, 0, 0, 1)
			}
		}
	}
	// A grandchild that weighs more than each child is no child.
	holdLine(t, grown(-1, 0, 0, 1), []uint64{0, 1, 2, last}, like(4, true), 0, 0, 2)
	holdLine(t, grown(-1, 0, 1, 0), []uint64{0, 2, last, 1}, those(4, 2, 3), 0, 0, 3)
}

// P9.1, P9.2: places that are none.
func TestPlacesThatAreNone(t *testing.T) {
	for _, x := range []api.Tree{inLine(1), inLine(5), inLine(12), star(12), bush(), fork()} {
		n := len(x.N)
		for _, leads := range [][]bool{like(n, true), like(n, false), those(n, 0)} {
			for _, i := range []int{least, least + 1, -12, -2, -1, n, n + 1, 13, 1 << 32, greatest - 1, greatest} {
				holdLine(t, x, like(n, uint64(1)), leads, i)
			}
			holdLine(t, x, like(n, uint64(1)), leads, n-1, n-1)
		}
	}
}

// P9.1, P9.2: w, and leads, are too short, too long, or none, each by itself, and both.
func TestWrongLengths(t *testing.T) {
	for n := 1; n <= 12; n++ {
		for _, x := range []api.Tree{inLine(n), star(n)} {
			w, leads := like(n, uint64(1)), like(n, true)
			for _, wrong := range []int{0, n - 1, n + 1, n + 2, 100} {
				holdNothing(t, x, like(wrong, uint64(1)), leads)
				holdNothing(t, x, w, like(wrong, true))
				holdNothing(t, x, w, like(wrong, false))
				holdNothing(t, x, like(wrong, uint64(1)), like(wrong, true))
			}
			holdNothing(t, x, nil, leads)
			holdNothing(t, x, w, nil)
			holdNothing(t, x, nil, nil)
			holdNothing(t, x, w[:n-1], like(n+1, true))
			holdNothing(t, x, w[:n-1], leads)
			holdNothing(t, x, w, leads[:n-1])
			holdPlain(t, x, w, leads)
		}
	}
}

// P9.1, P9.2: of a tree that may not be there is nothing, at any place, by as many weights as it has nodes.
func TestTreesThatMayNotBe(t *testing.T) {
	for _, x := range mayNotBe() {
		n := len(x.N)
		holdNothing(t, x, like(n, uint64(1)), like(n, true))
		holdNothing(t, x, like(n, uint64(1)), like(n, false))
		holdNothing(t, x, nil, nil)
		holdNothing(t, x, like(12, uint64(1)), like(12, true))
		holdNothing(t, x, like(1, uint64(1)), like(1, true))
	}
	for _, x := range []api.Tree{{}, {N: []api.Node{}}} {
		holdNothing(t, x, []uint64{}, []bool{})
		holdNothing(t, x, nil, []bool{})
		holdNothing(t, x, []uint64{}, nil)
	}
}

// P9.1, P9.2: of each tree of up to five nodes, with each choice of those that lead on.
func TestOfAllThatLeadOn(t *testing.T) {
	chance := rand.New(rand.NewSource(92))
	for n := 1; n <= 5; n++ {
		for _, x := range shapes(n) {
			x = rooted(x, chance.Perm(n)...)
			for mask := range 1 << n {
				var leads []bool
				for i := range n {
					leads = append(leads, mask>>i&1 == 1)
				}
				holdPlain(t, x, like(n, uint64(2)), leads)
				holdPlain(t, x, some(chance, n), leads)
			}
		}
	}
}

// P9.1, P9.2: of many.
func TestOfMany(t *testing.T) {
	chance := rand.New(rand.NewSource(93))
	for _, x := range mayBe() {
		n := len(x.N)
		for _, w := range [][]uint64{like(n, uint64(0)), like(n, last), some(chance, n), some(chance, n)} {
			for _, leads := range [][]bool{like(n, true), like(n, false), someLead(chance, n), someLead(chance, n)} {
				holdPlain(t, x, w, leads)
			}
		}
	}
}

// P9.3: the head descends from where one begins; each one on the way leads on, and weighs no less than those beside it that do; behind the last one none does.
func TestHeadDescends(t *testing.T) {
	chance := rand.New(rand.NewSource(94))
	for _, x := range mayBe() {
		n := len(x.N)
		for range 4 {
			w, leads := some(chance, n), someLead(chance, n)
			for i := range n {
				if !tree.Above(x, i, Head(x, w, leads, i)) {
					t.Errorf("Head(%v, %v, %v, %d) = %d", x, w, leads, i, Head(x, w, leads, i))
				}
				line := append(Line(x, w, leads, i), -1)
				for at, k := range line[:len(line)-1] {
					holdStep(t, x, w, leads, k, line[at+1])
				}
			}
		}
	}
}

func holdStep(t *testing.T, x api.Tree, w []uint64, leads []bool, from, to int) {
	t.Helper()
	kids := tree.Kids(x, from)
	if to >= 0 && (!leads[to] || !slices.Contains(kids, to)) {
		t.Errorf("of %v, %v, %v, from %d to %d", x, w, leads, from, to)
	}
	for _, k := range kids {
		if leads[k] && (to < 0 || w[k] > w[to]) {
			t.Errorf("of %v, %v, %v, from %d to %d, not to %d", x, w, leads, from, to, k)
		}
	}
}

// around lays a list into others, so that there is something ahead of it and behind it.
func around[E any](l []E, mark E) (whole, piece []E) {
	whole = slices.Concat([]E{mark, mark}, l, []E{mark, mark})
	return whole, whole[2 : 2+len(l)]
}

// spoil changes all that can be reached from a list.
func spoil[E any](l []E, x E) {
	l = l[:cap(l)]
	for i := range l {
		l[i] = x
	}
}

// answers are all that is told, in new lists.
func answers(x api.Tree, w []uint64, leads []bool) (lines [][]int, all [][2]int) {
	for i := -1; i <= len(x.N); i++ {
		lines = append(lines, Line(x, w, leads, i), []int{Kid(x, w, leads, i), Head(x, w, leads, i)})
	}
	return lines, All(x, w, leads)
}

func cloned(lines [][]int) [][]int {
	var out [][]int
	for _, l := range lines {
		out = append(out, slices.Clone(l))
	}
	return out
}

func isSame(a, b [][]int) bool {
	return slices.EqualFunc(a, b, func(x, y []int) bool { return slices.Equal(x, y) })
}

// R3: what is handed in stays as it was, around it too, also when what was answered is changed later; and what was answered stays when what was handed in, or another answer, is changed.
func TestHandedInStays(t *testing.T) {
	chance := rand.New(rand.NewSource(95))
	for _, x := range slices.Concat(mayBe(), mayNotBe()) {
		n := len(x.N)
		nodes, pieceN := around(x.N, api.Node{Root: name(777), Parent: 7, Slot: 7, Just: 7})
		w, pieceW := around(some(chance, n), 777)
		leads, pieceL := around(someLead(chance, n), true)
		nodesWere, wWere, leadsWere := slices.Clone(nodes), slices.Clone(w), slices.Clone(leads)
		stay := func(after string) {
			if !slices.Equal(nodes, nodesWere) || !slices.Equal(w, wWere) || !slices.Equal(leads, leadsWere) {
				t.Errorf("handed in %v, %v, %v, and after %s %v, %v, %v", nodesWere, wWere, leadsWere, after, nodes, w, leads)
			}
		}
		x.N = pieceN
		lines, all := answers(x, pieceW, pieceL)
		stay("the calls")
		linesWere, allWas := cloned(lines), slices.Clone(all)
		spoil(nodes, api.Node{Root: name(4242), Parent: 42, Slot: 42, Just: 42})
		spoil(w, 4242)
		spoil(leads, false)
		if !isSame(lines, linesWere) || !slices.Equal(all, allWas) {
			t.Errorf("answers were %v, %v, and are now %v, %v", linesWere, allWas, lines, all)
		}
		copy(nodes, nodesWere)
		copy(w, wWere)
		copy(leads, leadsWere)
		for i, l := range lines {
			spoil(l, 42)
			if !isSame(lines[i+1:], linesWere[i+1:]) {
				t.Errorf("a line was changed, and another one with it: of %v", linesWere)
			}
		}
		spoil(all, [2]int{42, 42})
		stay("the answers were changed")
		if again, allAgain := answers(x, pieceW, pieceL); !isSame(again, linesWere) || !slices.Equal(allAgain, allWas) {
			t.Errorf("answers were %v, %v, and are now %v, %v", linesWere, allWas, again, allAgain)
		}
	}
}

// R5: each call answers the same again, whatever was asked between.
func TestAskedAgain(t *testing.T) {
	x, y := bush(), fork()
	one, all := like(12, uint64(1)), like(12, true)
	for range 3 {
		holdLine(t, x, one, all, 0, 0, 11)
		holdLine(t, x, one, but(all, 11, false), 0, 0, 2, 8)
		holdLine(t, y, one, all, 0, 0, 1, 3, 5, 7, 9, 11)
		holdNothing(t, x, one[:11], all)
		holdAll(t, star(2), []uint64{0, 0}, []bool{true, true}, [][2]int{{1, 1}, {-1, 1}})
	}
}

// P1: very many nodes, in a line that a way down would go along for long; very many weights.
func TestVeryMany(t *testing.T) {
	const n = 100000
	w, leads := like(n, uint64(1)), like(n, true)
	holdAll(t, inLine(n), w, leads, nil)
	for _, x := range []api.Tree{inLine(n), bush()} {
		for _, i := range []int{least, -1, 0, 5, 11, 12, n - 1, n, greatest} {
			holdLine(t, x, w, leads, i)
		}
	}
	holdNothing(t, bush(), w, like(12, true))
	holdNothing(t, bush(), like(12, uint64(1)), leads)
}

// fromBytes makes a tree of each two bytes a node: its root, and its parent.
func fromBytes(in []byte) api.Tree {
	var x api.Tree
	for ; len(in) >= 2; in = in[2:] {
		x.N = append(x.N, api.Node{Root: name(int(in[0])), Parent: int(int8(in[1])), Slot: uint64(len(x.N))})
	}
	return x
}

// numbersOf are one of each byte, small and great ones, so that some are the same.
func numbersOf(in []byte) []uint64 {
	var l []uint64
	for _, b := range in {
		l = append(l, binary.LittleEndian.Uint64([]byte{b & 3, 0, 0, 0, b & 4, 0, 0, b & 192}))
	}
	return l
}

func choices(in []byte) []bool {
	var l []bool
	for _, b := range in {
		l = append(l, b&3 > 0)
	}
	return l
}

// P1, P9.1, P9.2: whatever the tree, the weights, those that lead on, and the place.
func FuzzBest(f *testing.F) {
	f.Add([]byte{}, []byte{}, []byte{}, 0)
	f.Add([]byte{1, 255}, []byte{1}, []byte{1}, -1)
	f.Add([]byte{1, 255, 2, 0, 3, 0, 4, 2}, []byte{1, 2, 2, 3}, []byte{0, 1, 1, 1}, greatest)
	f.Add([]byte{9, 255, 2, 0, 9, 0}, []byte{1, 2, 192}, []byte{1, 1, 1}, least)
	f.Add([]byte{9, 255, 2, 0, 3, 9}, []byte{1, 2}, []byte{1, 1, 1, 1}, 2)
	f.Fuzz(func(t *testing.T, in, w, leads []byte, i int) {
		x := fromBytes(in)
		n := len(x.N)
		// First as they came, then as many as there are nodes.
		for _, c := range [][2][]byte{{w, leads}, {append(w, make([]byte, n)...)[:n], append(leads, make([]byte, n)...)[:n]}} {
			weights, lead := numbersOf(c[0]), choices(c[1])
			if !tree.May(x) || len(weights) != n || len(lead) != n {
				holdNothing(t, x, weights, lead)
				holdLine(t, x, weights, lead, i)
				continue
			}
			holdPlain(t, x, weights, lead)
			holdLine(t, x, weights, lead, i, plainLine(x, weights, lead, i)...)
		}
	})
}
