package view

import (
	"math"
	"math/rand"
	"slices"
	"testing"

	"areopagus/api"
	"areopagus/tree"
)

const (
	least    = math.MinInt
	greatest = math.MaxInt
	top      = 1 << 40
	last     = uint64(math.MaxUint64)
	half     = uint64(1) << 63
)

// name hangs on its number at both ends, so that half of a root is not taken for it.
func name(n int) api.Root { return api.Root{byte(n), 15: byte(n >> 8), 31: byte(n)} }

// grown is a tree of so many parents; all that is justified by its nodes is 0, and no slot is a place's.
func grown(parents ...int) api.Tree {
	var t api.Tree
	for i, p := range parents {
		n := api.Node{Root: name(i + 1), Parent: p, Slot: 50}
		if 0 <= p && p < i {
			n.Slot = t.N[p].Slot + 3 + uint64(i%3)
		}
		t.N = append(t.N, n)
	}
	return t
}

func inLine(n int) api.Tree {
	var parents []int
	for i := range n {
		parents = append(parents, i-1)
	}
	return grown(parents...)
}

func star(n int) api.Tree {
	parents := []int{-1}
	for range n - 1 {
		parents = append(parents, 0)
	}
	return grown(parents...)
}

// bush has nodes of one branch between those of another one: 0 has 1, 2 and 11, 1 has 3 and 5, 2 has 4 and 8, 3 has 7, 4 has 6 and 10, 7 has 9. Its leaves are 5, 6, 8, 9, 10 and 11.
func bush() api.Tree { return grown(-1, 0, 0, 1, 2, 1, 4, 3, 2, 7, 4, 0) }

// fork has two long branches, whose nodes take turns behind 1: 10, 8, 6, 4, 2, 1, 0 and 11, 9, 7, 5, 3, 1, 0.
func fork() api.Tree { return grown(-1, 0, 1, 1, 2, 3, 4, 5, 6, 7, 8, 9) }

// changed is the tree with one node of its own changed.
func changed(t api.Tree, at int, change func(*api.Node)) api.Tree {
	t.N = slices.Clone(t.N)
	change(&t.N[at])
	return t
}

// by is the tree with these epochs justified by its nodes, in order.
func by(t api.Tree, just ...uint64) api.Tree {
	for i, j := range just {
		t = changed(t, i, func(n *api.Node) { n.Just = j })
	}
	return t
}

// rooted is the tree with one node of another root.
func rooted(t api.Tree, at int, r api.Root) api.Tree {
	return changed(t, at, func(n *api.Node) { n.Root = r })
}

// byChance is a tree of so many nodes, the same for the same chance. A parent is at most so many places ahead: the fewer these are, the deeper the tree.
func byChance(chance *rand.Rand, n, ahead int) api.Tree {
	parents := []int{-1}
	for i := 1; i < n; i++ {
		parents = append(parents, i-1-chance.Intn(min(i, ahead)))
	}
	x := grown(parents...)
	for i, r := range chance.Perm(n) {
		x = rooted(x, i, name(r))
	}
	return by(x, some(chance, n)...)
}

// some are epochs of which several are the same.
func some(chance *rand.Rand, n int) []uint64 {
	from := []uint64{0, 1, 2, half, last - 1, last}
	var l []uint64
	for range n {
		l = append(l, from[chance.Intn(1+chance.Intn(len(from)))])
	}
	return l
}

// shapes are all trees of so many nodes, by their parents.
func shapes(n int) []api.Tree {
	lists := [][]int{{-1}}
	for i := 1; i < n; i++ {
		var next [][]int
		for _, l := range lists {
			for p := range i {
				next = append(next, slices.Concat(l, []int{p}))
			}
		}
		lists = next
	}
	var out []api.Tree
	for _, l := range lists {
		out = append(out, grown(l...))
	}
	return out
}

func mayBe() []api.Tree {
	l := []api.Tree{bush(), fork(), {N: []api.Node{{Parent: -1}}}, {N: []api.Node{{Parent: -1, Slot: top, Just: last}}}}
	chance := rand.New(rand.NewSource(101))
	for n := 1; n <= 12; n++ {
		l = append(l, inLine(n), star(n), by(inLine(n), some(chance, n)...), by(star(n), some(chance, n)...))
	}
	for i := range 120 {
		l = append(l, byChance(chance, 12-i%4, 1+i%12))
	}
	return l
}

// mayNotBe are trees that may not be for one thing alone.
func mayNotBe() []api.Tree {
	l := []api.Tree{{}, {N: []api.Node{}}, inLine(13), star(13), inLine(40)}
	for _, t := range []api.Tree{inLine(1), inLine(2), bush(), star(12), inLine(12)} {
		for _, p := range []int{0, 1, -2, 11, least, greatest} {
			l = append(l, changed(t, 0, func(n *api.Node) { n.Parent = p }))
		}
		for i := range t.N {
			l = append(l, changed(t, i, func(n *api.Node) { n.Slot = top + 1 }), changed(t, i, func(n *api.Node) { n.Slot = last }))
		}
		for i := 1; i < len(t.N); i++ {
			for _, p := range []int{-1, -2, i, i + 1, 12, least, greatest} {
				l = append(l, changed(t, i, func(n *api.Node) { n.Parent = p }))
			}
			l = append(l, changed(t, i, func(n *api.Node) { n.Slot = t.N[n.Parent].Slot }), rooted(t, i, t.N[0].Root))
		}
	}
	return l
}

// numbers are places, and what is none.
func numbers(t api.Tree) []int {
	l := []int{least, least + 1, -13, -2, -1}
	for i := range len(t.N) + 2 {
		l = append(l, i)
	}
	return append(l, 13, 1<<32, greatest-1, greatest)
}

func nones(n int) []int {
	return []int{least, least + 1, -13, -2, -1, n, n + 1, 13, 1 << 32, 1<<32 + n - 1, greatest - 1, greatest}
}

// epochs are those of the tree's nodes, those around them, and the ends.
func epochs(t api.Tree) []uint64 {
	l := []uint64{0, 1, half - 1, half, last - 1, last}
	for _, n := range t.N {
		l = append(l, n.Just-1, n.Just, n.Just+1)
	}
	slices.Sort(l)
	return slices.Compact(l)
}

// roots are those of the tree's nodes, ones that differ by one bit, and ones that are not there.
func roots(t api.Tree) []api.Root {
	l := []api.Root{{}, name(999), {31: 255}}
	for i, n := range t.N {
		twin := n.Root
		twin[(7*i)%32] ^= 0x40
		l = append(l, n.Root, twin)
	}
	return l
}

func isPlain(x api.Tree, i int) bool { return 0 <= i && i < len(x.N) }

// isBelow is the tests' own way, from a node on up; of a tree that may be, and places alone.
func isBelow(x api.Tree, k, i int) bool {
	for ; k > i; k = x.N[k].Parent {
	}
	return k == i
}

// plainLeaf is the tests' own, of a tree that may be.
func plainLeaf(x api.Tree, just uint64, final, i int) bool {
	if !isPlain(x, final) || !isPlain(x, i) {
		return false
	}
	for _, n := range x.N {
		if n.Parent == i {
			return false
		}
	}
	return isBelow(x, i, final) && just <= x.N[i].Just
}

// plainLeads goes from the last node to the first one: what leads on tells its parent.
func plainLeads(x api.Tree, just uint64, final int) []bool {
	out := make([]bool, len(x.N))
	for i := len(x.N) - 1; i >= 0; i-- {
		out[i] = out[i] || plainLeaf(x, just, final, i)
		if i > 0 && out[i] {
			out[x.N[i].Parent] = true
		}
	}
	return out
}

func plainFrom(x api.Tree, just api.Root, final int) int {
	if !isPlain(x, final) {
		return -1
	}
	for i, n := range x.N {
		if n.Root == just && isBelow(x, i, final) {
			return i
		}
	}
	return final
}

func holdLeaf(t *testing.T, x api.Tree, just uint64, final, i int, want bool) {
	t.Helper()
	if got := Leaf(x, just, final, i); got != want {
		t.Errorf("Leaf(%v, %d, %d, %d) = %v, want %v", x, just, final, i, got, want)
	}
}

func holdFrom(t *testing.T, x api.Tree, just api.Root, final, want int) {
	t.Helper()
	if got := From(x, just, final); got != want {
		t.Errorf("From(%v, %v, %d) = %d, want %d", x, just, final, got, want)
	}
}

// those are so, of so many.
func those(n int, places ...int) []bool {
	l := make([]bool, n)
	for _, at := range places {
		l[at] = true
	}
	return l
}

// holdLeads wants that these lead on, and no others.
func holdLeads(t *testing.T, x api.Tree, just uint64, final int, places ...int) {
	t.Helper()
	if got, want := Leads(x, just, final), those(len(x.N), places...); !slices.Equal(got, want) {
		t.Errorf("Leads(%v, %d, %d) = %v, want %v", x, just, final, got, want)
	}
}

// holdLeaves wants that these may be a head, and no others, nor what is no place.
func holdLeaves(t *testing.T, x api.Tree, just uint64, final int, places ...int) {
	t.Helper()
	for _, i := range numbers(x) {
		holdLeaf(t, x, just, final, i, slices.Contains(places, i))
	}
}

// holdPlain holds what leads on, and which are leaves, by the plain way.
func holdPlain(t *testing.T, x api.Tree, just uint64, final int) {
	t.Helper()
	if got, want := Leads(x, just, final), plainLeads(x, just, final); !slices.Equal(got, want) {
		t.Errorf("Leads(%v, %d, %d) = %v, want %v", x, just, final, got, want)
	}
	for i := range x.N {
		holdLeaf(t, x, just, final, i, plainLeaf(x, just, final, i))
	}
}

// holdNothing wants what is answered of a tree that may not be.
func holdNothing(t *testing.T, x api.Tree, just uint64, final int) {
	t.Helper()
	if got := Leads(x, just, final); len(got) != 0 {
		t.Errorf("Leads(%v, %d, %d) = %v, want nothing", x, just, final, got)
	}
	for _, i := range []int{least, -1, 0, len(x.N) - 1, len(x.N), greatest} {
		holdLeaf(t, x, just, final, i, false)
	}
	for _, r := range []api.Root{{}, name(1), name(2), name(12), name(999)} {
		holdFrom(t, x, r, final, -1)
	}
}

// P10.1, P10.2: the chapter's example: of two leaves, of 1 and 2, by 2.
func TestExample(t *testing.T) {
	x := by(star(3), 0, 1, 2)
	holdLeaves(t, x, 2, 0, 2)
	holdLeads(t, x, 2, 0, 0, 2)
	// The second one has more above it: all of that leads on.
	y := by(grown(-1, 0, 0, 2, 3), 0, 1, 0, 0, 2)
	holdLeaves(t, y, 2, 0, 4)
	holdLeads(t, y, 2, 0, 0, 2, 3, 4)
}

// P10.1 to P10.3: of one node: it is a leaf, and what is final is it alone.
func TestOfOne(t *testing.T) {
	for _, r := range []api.Root{{}, name(1), {31: 1}} {
		for _, j := range []uint64{0, 1, 7, half, last} {
			x := api.Tree{N: []api.Node{{Root: r, Parent: -1, Slot: 3, Just: j}}}
			for _, just := range []uint64{0, 1, 7, 8, half - 1, half, half + 1, last - 1, last} {
				holdLeaf(t, x, just, 0, 0, just <= j)
				if got := Leads(x, just, 0); !slices.Equal(got, []bool{just <= j}) {
					t.Errorf("Leads(%v, %d, 0) = %v", x, just, got)
				}
				for _, no := range nones(1) {
					holdLeaf(t, x, just, no, 0, false)
					holdLeaf(t, x, just, 0, no, false)
					holdLeaf(t, x, just, no, no, false)
					holdLeads(t, x, just, no)
				}
			}
			for _, just := range []api.Root{r, {}, name(1), name(2), {31: 1}} {
				holdFrom(t, x, just, 0, 0)
				for _, no := range nones(1) {
					holdFrom(t, x, just, no, -1)
				}
			}
		}
	}
}

// P10.1, P10.2: of twelve in one line the last one alone is a leaf, of whatever is final, and all lead on, or none.
func TestOfLine(t *testing.T) {
	whole := []int{0, 1, 2, 3, 4, 5, 6, 7, 8, 9, 10, 11}
	x := by(inLine(12), 9, 9, 9, 9, 9, 9, 9, 9, 9, 9, 9, 4)
	for final := range 12 {
		for _, just := range []uint64{0, 3, 4} {
			holdLeaves(t, x, just, final, 11)
			holdLeads(t, x, just, final, whole...)
		}
		for _, just := range []uint64{5, 9, 10, last} {
			holdLeaves(t, x, just, final)
			holdLeads(t, x, just, final)
		}
	}
}

// P10.1, P10.2: of eleven behind the first one, which of them is final, and how much each justifies.
func TestOfStar(t *testing.T) {
	x := by(star(12), 99, 1, 2, 3, 4, 5, 6, 7, 8, 9, 10, 11)
	holdLeaves(t, x, 0, 0, 1, 2, 3, 4, 5, 6, 7, 8, 9, 10, 11)
	holdLeads(t, x, 0, 0, 0, 1, 2, 3, 4, 5, 6, 7, 8, 9, 10, 11)
	holdLeaves(t, x, 9, 0, 9, 10, 11)
	holdLeads(t, x, 9, 0, 0, 9, 10, 11)
	holdLeaves(t, x, 11, 0, 11)
	holdLeads(t, x, 11, 0, 0, 11)
	holdLeaves(t, x, 12, 0)
	holdLeads(t, x, 12, 0)
	for k := 1; k < 12; k++ {
		// Another leaf is not behind it: that one is none, and does not lead on.
		holdLeaves(t, x, uint64(k), k, k)
		holdLeads(t, x, uint64(k), k, 0, k)
		holdLeaves(t, x, 0, k, k)
		holdLeads(t, x, 0, k, 0, k)
		holdLeaves(t, x, uint64(k+1), k)
		holdLeads(t, x, uint64(k+1), k)
	}
}

// P10.1, P10.2: of several branches, written out: no leaf may be a head, one, some, and all.
func TestOfBranches(t *testing.T) {
	x := by(bush(), 90, 90, 90, 90, 90, 3, 5, 90, 1, 4, 2, 6)
	holdLeaves(t, x, 1, 0, 5, 6, 8, 9, 10, 11)
	holdLeads(t, x, 1, 0, 0, 1, 2, 3, 4, 5, 6, 7, 8, 9, 10, 11)
	holdLeaves(t, x, 2, 0, 5, 6, 9, 10, 11)
	holdLeads(t, x, 2, 0, 0, 1, 2, 3, 4, 5, 6, 7, 9, 10, 11)
	holdLeaves(t, x, 3, 0, 5, 6, 9, 11)
	holdLeads(t, x, 3, 0, 0, 1, 2, 3, 4, 5, 6, 7, 9, 11)
	holdLeaves(t, x, 4, 0, 6, 9, 11)
	holdLeads(t, x, 4, 0, 0, 1, 2, 3, 4, 6, 7, 9, 11)
	holdLeaves(t, x, 5, 0, 6, 11)
	holdLeads(t, x, 5, 0, 0, 2, 4, 6, 11)
	holdLeaves(t, x, 6, 0, 11)
	holdLeads(t, x, 6, 0, 0, 11)
	holdLeaves(t, x, 7, 0)
	holdLeads(t, x, 7, 0)
	holdLeaves(t, x, last, 0)
	holdLeads(t, x, last, 0)
}

// P10.1, P10.2: by what is final, which is the first one, in the middle, or a leaf; those above it lead on as well, those beside it do not.
func TestOfFinal(t *testing.T) {
	x := by(bush(), 90, 90, 90, 90, 90, 3, 5, 90, 1, 4, 2, 6)
	holdLeaves(t, x, 0, 1, 5, 9)
	holdLeads(t, x, 0, 1, 0, 1, 3, 5, 7, 9)
	holdLeaves(t, x, 4, 1, 9)
	holdLeads(t, x, 4, 1, 0, 1, 3, 7, 9)
	holdLeaves(t, x, 5, 1)
	holdLeads(t, x, 5, 1)
	holdLeaves(t, x, 0, 2, 6, 8, 10)
	holdLeads(t, x, 0, 2, 0, 2, 4, 6, 8, 10)
	holdLeaves(t, x, 2, 2, 6, 10)
	holdLeads(t, x, 2, 2, 0, 2, 4, 6, 10)
	holdLeaves(t, x, 0, 4, 6, 10)
	holdLeads(t, x, 0, 4, 0, 2, 4, 6, 10)
	holdLeaves(t, x, 3, 4, 6)
	holdLeads(t, x, 3, 4, 0, 2, 4, 6)
	holdLeaves(t, x, 0, 7, 9)
	holdLeads(t, x, 0, 7, 0, 1, 3, 7, 9)
	holdLeaves(t, x, 4, 9, 9)
	holdLeads(t, x, 4, 9, 0, 1, 3, 7, 9)
	holdLeaves(t, x, 5, 9)
	holdLeads(t, x, 5, 9)
	holdLeaves(t, x, 6, 11, 11)
	holdLeads(t, x, 6, 11, 0, 11)
	y := by(fork(), 0, 0, 0, 0, 0, 0, 0, 0, 0, 0, 7, 8)
	holdLeads(t, y, 7, 1, 0, 1, 2, 3, 4, 5, 6, 7, 8, 9, 10, 11)
	holdLeads(t, y, 8, 1, 0, 1, 3, 5, 7, 9, 11)
	holdLeads(t, y, 7, 4, 0, 1, 2, 4, 6, 8, 10)
	holdLeads(t, y, 8, 4)
	holdLeads(t, y, 8, 3, 0, 1, 3, 5, 7, 9, 11)
}

// P10.1: a leaf's own Just, one more and one less than it, and the ends.
func TestEdgesOfJust(t *testing.T) {
	for _, j := range []uint64{0, 1, 2, 255, 256, 1<<32 - 1, 1 << 32, half - 1, half, half + 1, last - 1, last} {
		x := by(bush(), 0, 0, 0, 0, 0, 0, 0, 0, 0, j, 0, 0)
		for _, final := range []int{0, 1, 3, 7, 9} {
			holdLeaf(t, x, 0, final, 9, true)
			holdLeaf(t, x, j, final, 9, true)
			holdLeaf(t, x, j-1, final, 9, j > 0)
			holdLeaf(t, x, j+1, final, 9, j == last)
			holdLeaf(t, x, last, final, 9, j == last)
			if j > 0 {
				holdLeads(t, x, j, final, 0, 1, 3, 7, 9)
			}
			if j < last {
				holdLeads(t, x, j+1, final)
			}
		}
	}
	for bit := range 64 {
		for _, base := range []uint64{0, last, 0x5555555555555555} {
			less, more := base&^(1<<bit), base|1<<bit
			holdLeaf(t, by(inLine(2), 0, less), more, 1, 1, false)
			holdLeaf(t, by(inLine(2), 0, more), less, 1, 1, true)
		}
	}
}

// P10.1: what has kids is no leaf, however much is justified by it, and whatever its kids are.
func TestOfKids(t *testing.T) {
	for final := range 2 {
		holdLeaves(t, by(inLine(3), 9, 9, 0), 5, final)
		holdLeads(t, by(inLine(3), 9, 9, 0), 5, final)
		holdLeaves(t, by(inLine(3), last, last, last), last, final, 2)
		holdLeaves(t, by(inLine(3), last, last, 0), 0, final, 2)
	}
	x := by(bush(), last, last, last, last, last, 0, 0, last, 0, 0, 0, 0)
	for _, i := range []int{0, 1, 2, 3, 4, 7} {
		for _, final := range []int{0, i} {
			for _, just := range []uint64{0, 1, last} {
				holdLeaf(t, x, just, final, i, false)
			}
			holdLeads(t, x, 1, final)
		}
	}
}

// P10.1, P10.2: slots, roots, and what is justified by others tell nothing.
func TestWhatTellsNothing(t *testing.T) {
	for _, slot := range []uint64{51, 60, top} {
		for _, r := range []api.Root{{}, name(500), {31: 255}} {
			for _, others := range []uint64{0, 5, last} {
				x := changed(by(star(4), others, others, 5, others), 2, func(n *api.Node) { n.Slot, n.Root = slot, r })
				holdLeaf(t, x, 5, 0, 2, true)
				holdLeaf(t, x, 5, 2, 2, true)
				holdLeaf(t, x, 6, 0, 2, false)
				holdLeads(t, x, 5, 2, 0, 2)
				holdLeads(t, x, 6, 2)
			}
		}
	}
}

// P10.1 to P10.3: places that are none, for i, for final, and for both.
func TestPlacesThatAreNone(t *testing.T) {
	for _, x := range []api.Tree{inLine(1), inLine(5), inLine(12), star(12), bush(), fork()} {
		n := len(x.N)
		for _, just := range []uint64{0, 1, last} {
			for _, no := range nones(n) {
				holdLeads(t, x, just, no)
				for _, i := range numbers(x) {
					holdLeaf(t, x, just, no, i, false)
					holdLeaf(t, x, just, i, no, false)
				}
			}
			holdLeaf(t, x, just, n-1, n-1, just == 0)
			holdLeaf(t, x, just, 0, n-1, just == 0)
			holdLeaf(t, x, just, n-1, 0, just == 0 && n == 1)
		}
		for _, no := range nones(n) {
			for _, r := range roots(x) {
				holdFrom(t, x, r, no, -1)
			}
		}
	}
}

// P10.3: written out.
func TestFrom(t *testing.T) {
	x := bush()
	for _, c := range []struct{ just, final, want int }{
		// behind what is final
		{0, 0, 0}, {1, 0, 1}, {9, 0, 9}, {11, 0, 11}, {6, 0, 6}, {3, 1, 3}, {9, 1, 9}, {5, 1, 5}, {9, 3, 9}, {9, 7, 9}, {10, 4, 10}, {8, 2, 8},
		// what is final itself
		{1, 1, 1}, {4, 4, 4}, {9, 9, 9}, {11, 11, 11},
		// above what is final
		{0, 1, 1}, {0, 9, 9}, {7, 9, 9}, {1, 9, 9}, {2, 10, 10}, {0, 11, 11}, {4, 6, 6},
		// beside it
		{2, 1, 1}, {1, 2, 2}, {11, 10, 10}, {10, 11, 11}, {10, 1, 1}, {9, 4, 4}, {5, 3, 3}, {3, 5, 5}, {8, 4, 4}, {6, 8, 8}, {11, 1, 1},
	} {
		holdFrom(t, x, name(c.just+1), c.final, c.want)
	}
	for final := range 12 {
		holdFrom(t, x, name(13), final, final)
		holdFrom(t, x, api.Root{}, final, final)
		for place := range 32 {
			twin := name(12)
			twin[place] ^= 0x80
			holdFrom(t, x, twin, final, final)
		}
	}
}

// P10.3: the zero root is one like others where it is there.
func TestFromZeroRoot(t *testing.T) {
	for at, wants := range map[int][3]int{0: {0, 1, 9}, 1: {1, 1, 9}, 7: {7, 7, 9}, 9: {9, 9, 9}, 2: {2, 1, 9}, 11: {11, 1, 9}} {
		x := rooted(bush(), at, api.Root{})
		for k, final := range []int{0, 1, 9} {
			holdFrom(t, x, api.Root{}, final, wants[k])
		}
		holdFrom(t, x, name(at+1), 0, 0)
		holdFrom(t, x, name(at+1), 9, 9)
	}
}

// P10.3: what is justified by nodes, and slots, tell nothing: one begins at what leads on to no head, too.
func TestFromAsksForRootsAlone(t *testing.T) {
	for _, j := range []uint64{0, 5, last} {
		x := by(bush(), j, j, 0, j, j, 0, 0, j, 0, j, 0, 0)
		holdFrom(t, x, name(10), 1, 9)
		holdFrom(t, x, name(4), 1, 3)
		holdFrom(t, x, name(3), 1, 1)
	}
}

// P10.1 to P10.3: of trees that may not be there is nothing.
func TestTreesThatMayNotBe(t *testing.T) {
	for _, x := range mayNotBe() {
		for _, just := range []uint64{0, 1, last} {
			for _, final := range []int{least, -1, 0, 1, len(x.N) - 1, len(x.N), 11, 12, greatest} {
				holdNothing(t, x, just, final)
			}
		}
	}
	for _, x := range []api.Tree{{}, {N: []api.Node{}}, {N: make([]api.Node, 0, 20)}} {
		for _, just := range []uint64{0, last} {
			for _, final := range numbers(x) {
				holdNothing(t, x, just, final)
				for _, i := range numbers(x) {
					holdLeaf(t, x, just, final, i, false)
				}
			}
		}
	}
}

// P10.1 to P10.4: of each tree of up to five nodes, with each choice of what is justified by its nodes.
func TestOfAll(t *testing.T) {
	for n := 1; n <= 5; n++ {
		choices := 1
		for range n {
			choices *= 3
		}
		for _, x := range shapes(n) {
			for choice := range choices {
				for i, c := 0, choice; i < n; i, c = i+1, c/3 {
					x.N[i].Just = uint64(c % 3)
				}
				for final := range n {
					for just := range uint64(4) {
						holdPlain(t, x, just, final)
						holdFollows(t, x, just, final)
					}
				}
			}
			for _, final := range numbers(x) {
				for _, r := range roots(x) {
					holdFrom(t, x, r, final, plainFrom(x, r, final))
				}
			}
		}
	}
}

// P10.1 to P10.3: of many, at all places.
func TestOfMany(t *testing.T) {
	for _, x := range mayBe() {
		for _, final := range numbers(x) {
			for _, just := range epochs(x) {
				holdPlain(t, x, just, final)
			}
			for _, r := range roots(x) {
				holdFrom(t, x, r, final, plainFrom(x, r, final))
			}
		}
	}
}

// holdFollows holds P10.4 of what is justified so far, and of one less.
func holdFollows(t *testing.T, x api.Tree, just uint64, final int) {
	t.Helper()
	leads := Leads(x, just, final)
	for i, is := range leads {
		child := slices.ContainsFunc(tree.Kids(x, i), func(k int) bool { return leads[k] })
		if is != (child || Leaf(x, just, final, i)) {
			t.Errorf("Leads(%v, %d, %d) = %v: of %d", x, just, final, leads, i)
		}
	}
	if just == 0 {
		return
	}
	for i, is := range Leads(x, just-1, final) {
		if leads[i] && !is {
			t.Errorf("of %v, %d leads on by %d, and not by one less, final %d", x, i, just, final)
		}
	}
}

// P10.4: what leads on has a child that does, or is a leaf; with less justified no fewer lead on.
func TestWhatFollows(t *testing.T) {
	for _, x := range mayBe() {
		for _, final := range numbers(x) {
			for _, just := range epochs(x) {
				holdFollows(t, x, just, final)
			}
		}
	}
}

// P10.2, P10.4: less may be justified by far, of rising epochs: none leads on that did not.
func TestFewerByRisingEpochs(t *testing.T) {
	for _, x := range mayBe() {
		for final := range x.N {
			before := Leads(x, 0, final)
			for _, just := range epochs(x) {
				leads := Leads(x, just, final)
				for i := range leads {
					if leads[i] && !before[i] {
						t.Errorf("of %v, by %d, final %d: %v, and ahead of it %v", x, just, final, leads, before)
					}
				}
				before = leads
			}
		}
	}
}

// P10.3: one begins at what is final, or behind it.
func TestFromIsBehindFinal(t *testing.T) {
	for _, x := range mayBe() {
		for final := range x.N {
			for _, r := range roots(x) {
				if at := From(x, r, final); !tree.Above(x, final, at) {
					t.Errorf("From(%v, %v, %d) = %d", x, r, final, at)
				}
			}
		}
	}
}

// R3: what is handed in stays as it was, around it too, also when what was answered is changed later; and what was answered stays when what was handed in, or another answer, is changed.
func TestHandedInStays(t *testing.T) {
	mark := []api.Node{{Root: name(777), Parent: 7, Slot: 7, Just: 7}, {Root: name(778), Parent: 0, Slot: 800, Just: last}}
	for _, x := range slices.Concat(mayBe(), mayNotBe()) {
		nodes := slices.Concat(mark, x.N, mark)
		were := slices.Clone(nodes)
		x.N = nodes[2 : 2+len(x.N)]
		stay := func(after string) {
			if !slices.Equal(nodes, were) {
				t.Errorf("handed in %v, and after %s %v", were, after, nodes)
			}
		}
		ask := func() (out [][]bool) {
			for final := -1; final <= len(x.N); final++ {
				out = append(out, Leads(x, 0, final), Leads(x, 1, final))
				Leaf(x, 0, final, len(x.N)-1)
				From(x, name(3), final)
			}
			return out
		}
		got, want := ask(), ask()
		stay("the calls")
		for i := range nodes {
			nodes[i] = api.Node{Root: name(4242), Parent: 42, Slot: 42, Just: 42}
		}
		for i, l := range got {
			if !slices.Equal(l, want[i]) {
				t.Errorf("Leads was %v, and is now %v", want[i], l)
			}
		}
		copy(nodes, were)
		for i, l := range got {
			l = l[:cap(l)]
			for k := range l {
				l[k] = !l[k]
			}
			if i+1 < len(got) && !slices.Equal(got[i+1], want[i+1]) {
				t.Errorf("an answer was changed, and another one, %v, with it", want[i+1])
			}
		}
		stay("the answers were changed")
		for i, l := range ask() {
			if !slices.Equal(l, want[i]) {
				t.Errorf("Leads was %v, and is told now as %v", want[i], l)
			}
		}
	}
}

// R5: each call answers the same again, whatever was asked between.
func TestAskedAgain(t *testing.T) {
	x, y := by(bush(), 90, 90, 90, 90, 90, 3, 5, 90, 1, 4, 2, 6), fork()
	for range 3 {
		holdLeads(t, x, 5, 0, 0, 2, 4, 6, 11)
		holdLeads(t, x, 5, 4, 0, 2, 4, 6)
		holdLeads(t, y, 0, 3, 0, 1, 3, 5, 7, 9, 11)
		holdLeaves(t, x, 4, 1, 9)
		holdNothing(t, inLine(13), 0, 0)
		holdFrom(t, x, name(10), 1, 9)
		holdFrom(t, y, name(11), 1, 10)
		holdFrom(t, x, name(11), 1, 1)
		holdLeads(t, star(2), 0, 0, 0, 1)
	}
}

// P1: very many nodes, in a line, and all behind the first one.
func TestVeryMany(t *testing.T) {
	const n = 100000
	for _, x := range []api.Tree{inLine(n), star(n)} {
		for _, final := range []int{0, n - 1, n} {
			if len(Leads(x, 0, final)) != 0 || Leaf(x, 0, final, n-1) || From(x, name(1), final) != -1 {
				t.Errorf("very many nodes, final %d", final)
			}
		}
	}
}

// fromBytes makes a tree of each three bytes a node: its root, its parent, and what is justified by it.
func fromBytes(in []byte) api.Tree {
	var x api.Tree
	for ; len(in) >= 3; in = in[3:] {
		x.N = append(x.N, api.Node{Root: name(int(in[0])), Parent: int(int8(in[1])), Slot: uint64(len(x.N)), Just: uint64(in[2])})
	}
	return x
}

// P1, P10.1 to P10.4: whatever the tree, what is justified, what is final, and the place.
func FuzzView(f *testing.F) {
	f.Add([]byte{}, uint64(0), 0, 0, 0)
	f.Add([]byte{1, 255, 5}, uint64(5), 0, 0, 1)
	f.Add([]byte{1, 255, 0, 2, 0, 1, 3, 0, 2, 4, 2, 9}, uint64(2), 0, 3, 4)
	f.Add([]byte{9, 255, 2, 0, 0, 9, 9, 0, 0}, last, least, greatest, 9)
	f.Add([]byte{9, 255, 2, 0, 0, 9, 3, 0, 0}, uint64(9), 1, -1, 3)
	f.Fuzz(func(t *testing.T, in []byte, just uint64, final, i, root int) {
		x := fromBytes(in)
		if !tree.May(x) {
			holdNothing(t, x, just, final)
			holdLeaf(t, x, just, final, i, false)
			holdFrom(t, x, name(root), final, -1)
			return
		}
		holdPlain(t, x, just, final)
		holdFollows(t, x, just, final)
		holdLeaf(t, x, just, final, i, plainLeaf(x, just, final, i))
		holdFrom(t, x, name(root), final, plainFrom(x, name(root), final))
	})
}
