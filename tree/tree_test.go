package tree

import (
	"math"
	"math/rand"
	"slices"
	"testing"

	"areopagus/api"
)

const (
	least    = math.MinInt
	greatest = math.MaxInt
	top      = 1 << 40
	endless  = math.MaxUint64
)

// name hangs on its number at both ends, so that half of a root is not taken for it; that of 0 is the zero root.
func name(n int) api.Root { return api.Root{byte(n), 15: byte(n >> 8), 31: byte(n)} }

// grown is a tree of so many parents: slots rise with gaps, and not by place, so that a place is not taken for a slot.
func grown(parents ...int) api.Tree {
	var t api.Tree
	for i, p := range parents {
		n := api.Node{Root: name(i + 1), Parent: p, Slot: 5, Just: uint64(1000 - i)}
		if 0 <= p && p < i {
			n.Slot = t.N[p].Slot + 3 + uint64(i%3)
		}
		t.N = append(t.N, n)
	}
	return t
}

func inLine(n int) api.Tree {
	var parents []int
	for i := range n {
		parents = append(parents, i-1)
	}
	return grown(parents...)
}

func star(n int) api.Tree {
	parents := []int{-1}
	for range n - 1 {
		parents = append(parents, 0)
	}
	return grown(parents...)
}

// bush has nodes of one branch between those of another one, leaves, and nodes of several children.
func bush() api.Tree { return grown(-1, 0, 0, 1, 2, 1, 4, 3, 2, 7, 4, 0) }

// changed is the tree with one node of its own changed.
func changed(t api.Tree, at int, change func(*api.Node)) api.Tree {
	t.N = slices.Clone(t.N)
	change(&t.N[at])
	return t
}

func slotted(t api.Tree, slots ...uint64) api.Tree {
	for i, s := range slots {
		t = changed(t, i, func(n *api.Node) { n.Slot = s })
	}
	return t
}

// byChance is a tree that may be, of so many nodes, the same for the same chance.
func byChance(chance *rand.Rand, n int) api.Tree {
	var t api.Tree
	for i := range n {
		node := api.Node{Root: name(3*i + chance.Intn(3)), Parent: -1, Slot: uint64(chance.Intn(4)), Just: chance.Uint64()}
		if i > 0 {
			node.Parent = chance.Intn(i)
			node.Slot = t.N[node.Parent].Slot + 1 + uint64(chance.Intn(4))
		}
		t.N = append(t.N, node)
	}
	return t
}

func mayBe() []api.Tree {
	l := []api.Tree{bush(), {N: []api.Node{{Parent: -1}}}, slotted(grown(-1), top), slotted(grown(-1, 0), 0, top), slotted(grown(-1, 0, 0), 0, 1, 1), slotted(grown(-1, 0, 1), top-2, top-1, top)}
	for n := 1; n <= 12; n++ {
		l = append(l, inLine(n), star(n))
	}
	chance := rand.New(rand.NewSource(61))
	for i := range 150 {
		l = append(l, byChance(chance, 1+i%12))
	}
	return l
}

// mayNotBe are trees that may not be for one thing alone.
func mayNotBe() []api.Tree {
	l := []api.Tree{{}, {N: []api.Node{}}, inLine(13), star(13), star(40)}
	for _, t := range []api.Tree{inLine(1), inLine(2), bush(), star(12), inLine(12)} {
		for _, p := range []int{0, 1, -2, 11, least, greatest} {
			l = append(l, changed(t, 0, func(n *api.Node) { n.Parent = p }))
		}
		for i := range t.N {
			for _, s := range []uint64{top + 1, endless} {
				l = append(l, changed(t, i, func(n *api.Node) { n.Slot = s }))
			}
		}
		for i := 1; i < len(t.N); i++ {
			for _, p := range []int{-1, -2, i, i + 1, 12, least, greatest} {
				l = append(l, changed(t, i, func(n *api.Node) { n.Parent = p }))
			}
			for _, s := range []uint64{0, t.N[t.N[i].Parent].Slot, t.N[t.N[i].Parent].Slot - 1} {
				l = append(l, changed(t, i, func(n *api.Node) { n.Slot = s }))
			}
			for k := range i {
				l = append(l, changed(t, i, func(n *api.Node) { n.Root = t.N[k].Root }))
			}
		}
	}
	return l
}

// numbers are places, and what is none.
func numbers(t api.Tree) []int {
	l := []int{least, least + 1, -13, -2, -1}
	for i := range len(t.N) + 3 {
		l = append(l, i)
	}
	return append(l, 12, 13, 1<<32, greatest-1, greatest)
}

// slots are those of the tree's nodes, those around them, and the ends.
func slots(t api.Tree) []uint64 {
	l := []uint64{0, 1, top - 1, top, top + 1, endless - 1, endless}
	for _, n := range t.N {
		l = append(l, n.Slot-1, n.Slot, n.Slot+1)
	}
	slices.Sort(l)
	return slices.Compact(l)
}

// isSame is the tests' own, so that what is answered is not held by Same.
func isSame(a, b api.Tree) bool {
	if len(a.N) != len(b.N) {
		return false
	}
	for i, n := range a.N {
		m := b.N[i]
		if n.Root != m.Root || n.Parent != m.Parent || n.Slot != m.Slot || n.Just != m.Just {
			return false
		}
	}
	return true
}

func holdMay(t *testing.T, x api.Tree, want bool) {
	t.Helper()
	if got := May(x); got != want {
		t.Errorf("May(%v) = %v", x, got)
	}
}

// P6.1: how many nodes there are, written out.
func TestMayOfSoMany(t *testing.T) {
	holdMay(t, api.Tree{}, false)
	holdMay(t, api.Tree{N: []api.Node{}}, false)
	for n, want := range map[int]bool{1: true, 2: true, 11: true, 12: true, 13: false, 14: false, 255: false} {
		holdMay(t, inLine(n), want)
		holdMay(t, star(n), want)
	}
}

// P6.1: parents, written out.
func TestMayOfParents(t *testing.T) {
	for _, c := range []struct {
		parents []int
		want    bool
	}{
		{[]int{-1}, true}, {[]int{0}, false}, {[]int{1}, false}, {[]int{-2}, false}, {[]int{least}, false}, {[]int{greatest}, false},
		{[]int{-1, 0}, true}, {[]int{-1, -1}, false}, {[]int{-1, -2}, false}, {[]int{-1, 1}, false}, {[]int{-1, 2}, false}, {[]int{-1, least}, false}, {[]int{-1, greatest}, false},
		{[]int{0, 0}, false}, {[]int{1, -1}, false}, {[]int{1, 0}, false},
		{[]int{-1, 0, 0}, true}, {[]int{-1, 0, 1}, true}, {[]int{-1, 0, 2}, false}, {[]int{-1, 0, 3}, false}, {[]int{-1, 0, -1}, false}, {[]int{-1, 0, -2}, false}, {[]int{-1, 2, 0}, false}, {[]int{-1, 2, 1}, false}, {[]int{-1, -1, 0}, false},
	} {
		holdMay(t, grown(c.parents...), c.want)
	}
	// Slots rise here, so that it is the place of the parent alone that may not be.
	holdMay(t, slotted(grown(-1, 2, 0), 1, 9, 5), false)
	holdMay(t, slotted(grown(-1, 2, 1), 1, 9, 5), false)
	holdMay(t, slotted(grown(1, -1), 9, 5), false)
	holdMay(t, slotted(grown(-1, -1), 5, 9), false)
}

// P6.1: slots, written out.
func TestMayOfSlots(t *testing.T) {
	for _, c := range []struct {
		parents []int
		slots   []uint64
		want    bool
	}{
		{[]int{-1}, []uint64{0}, true}, {[]int{-1}, []uint64{1}, true}, {[]int{-1}, []uint64{top - 1}, true}, {[]int{-1}, []uint64{top}, true}, {[]int{-1}, []uint64{top + 1}, false}, {[]int{-1}, []uint64{endless}, false},
		{[]int{-1, 0}, []uint64{0, 1}, true}, {[]int{-1, 0}, []uint64{0, 0}, false}, {[]int{-1, 0}, []uint64{5, 5}, false}, {[]int{-1, 0}, []uint64{5, 6}, true}, {[]int{-1, 0}, []uint64{5, 4}, false}, {[]int{-1, 0}, []uint64{5, 0}, false},
		{[]int{-1, 0}, []uint64{0, top}, true}, {[]int{-1, 0}, []uint64{top - 1, top}, true}, {[]int{-1, 0}, []uint64{top, top}, false}, {[]int{-1, 0}, []uint64{top, top + 1}, false}, {[]int{-1, 0}, []uint64{0, top + 1}, false}, {[]int{-1, 0}, []uint64{0, endless}, false}, {[]int{-1, 0}, []uint64{endless, 0}, false},
		{[]int{-1, 0, 0}, []uint64{5, 9, 6}, true}, {[]int{-1, 0, 0}, []uint64{5, 9, 9}, true}, {[]int{-1, 0, 0}, []uint64{5, 9, 5}, false},
		{[]int{-1, 0, 1}, []uint64{5, 9, 10}, true}, {[]int{-1, 0, 1}, []uint64{5, 9, 9}, false}, {[]int{-1, 0, 1}, []uint64{5, 9, 6}, false}, {[]int{-1, 0, 1}, []uint64{5, 4, 6}, false},
	} {
		holdMay(t, slotted(grown(c.parents...), c.slots...), c.want)
	}
}

// P6.1: roots; that of noughts is one like others; roots differ by each byte alone; what is justified is nothing to it.
func TestMayOfRoots(t *testing.T) {
	x := grown(-1, 0, 0)
	holdMay(t, changed(x, 2, func(n *api.Node) { n.Root = name(1) }), false)
	holdMay(t, changed(x, 2, func(n *api.Node) { n.Root = name(2) }), false)
	holdMay(t, changed(x, 1, func(n *api.Node) { n.Root = name(3) }), false)
	holdMay(t, changed(x, 1, func(n *api.Node) { n.Root = api.Root{} }), true)
	holdMay(t, changed(changed(x, 0, func(n *api.Node) { n.Root = api.Root{} }), 1, func(n *api.Node) { n.Root = api.Root{} }), false)
	for place := range 32 {
		twin := name(1)
		twin[place] ^= 1
		holdMay(t, changed(x, 2, func(n *api.Node) { n.Root = twin }), true)
	}
	for _, just := range []uint64{0, 1, top + 1, endless} {
		holdMay(t, changed(changed(x, 2, func(n *api.Node) { n.Just = just }), 0, func(n *api.Node) { n.Just = just }), true)
	}
}

// P6.1
func TestMayOfMany(t *testing.T) {
	for _, x := range mayBe() {
		holdMay(t, x, true)
	}
	for _, x := range mayNotBe() {
		holdMay(t, x, false)
	}
}

func holdSame(t *testing.T, a, b api.Tree, want bool) {
	t.Helper()
	if Same(a, b) != want || Same(b, a) != want {
		t.Errorf("Same of %v and %v = %v, and turned round %v, want %v", a, b, Same(a, b), Same(b, a), want)
	}
}

// P6.1: each part of each node is asked for, each bit of it, also of trees that may not be.
func TestSameOfEachPart(t *testing.T) {
	for _, x := range []api.Tree{inLine(1), grown(-1, 0, 0), inLine(13), grown(0, 5, -9)} {
		holdSame(t, x, api.Tree{N: slices.Clone(x.N)}, true)
		for at := range x.N {
			for bit := range 64 {
				holdSame(t, x, changed(x, at, func(n *api.Node) { n.Parent ^= 1 << bit }), false)
				holdSame(t, x, changed(x, at, func(n *api.Node) { n.Slot ^= 1 << bit }), false)
				holdSame(t, x, changed(x, at, func(n *api.Node) { n.Just ^= 1 << bit }), false)
			}
			for bit := range 256 {
				holdSame(t, x, changed(x, at, func(n *api.Node) { n.Root[bit/8] ^= 1 << (bit % 8) }), false)
			}
			holdSame(t, x, api.Tree{N: slices.Delete(slices.Clone(x.N), at, at+1)}, false)
		}
		holdSame(t, x, api.Tree{N: slices.Concat(x.N, []api.Node{{}})}, false)
		holdSame(t, x, api.Tree{N: slices.Concat(x.N, x.N[:1])}, false)
	}
}

// P6.1: order, and trees without nodes, which may not be, but are the same.
func TestSameOfLists(t *testing.T) {
	x := star(4)
	for i := range 3 {
		y := api.Tree{N: slices.Clone(x.N)}
		y.N[i], y.N[i+1] = y.N[i+1], y.N[i]
		holdSame(t, x, y, false)
	}
	holdSame(t, api.Tree{}, api.Tree{N: []api.Node{}}, true)
	holdSame(t, api.Tree{}, api.Tree{}, true)
	holdSame(t, api.Tree{}, api.Tree{N: []api.Node{{}}}, false)
	holdSame(t, api.Tree{N: []api.Node{}}, inLine(1), false)
	holdSame(t, api.Tree{N: []api.Node{{}, {}}}, api.Tree{N: []api.Node{{}, {}}}, true)
	holdSame(t, api.Tree{N: []api.Node{{}, {}}}, api.Tree{N: []api.Node{{}}}, false)
	spare := append(make([]api.Node, 0, 50), x.N...)
	holdSame(t, x, api.Tree{N: spare}, true)
}

// P6.1: of any two trees.
func TestSameOfMany(t *testing.T) {
	l := slices.Concat(mayBe(), mayNotBe())
	for i := 0; i < len(l); i += 5 {
		for _, x := range l {
			if got := Same(l[i], x); got != isSame(l[i], x) {
				t.Errorf("Same(%v, %v) = %v", l[i], x, got)
			}
		}
	}
}

// P6.1
func TestNew(t *testing.T) {
	for _, r := range []api.Root{{}, name(7), {31: 255}} {
		for _, slot := range []uint64{0, 1, 5, 1 << 32, top - 1, top} {
			x, is := New(r, slot)
			if !is || !isSame(x, api.Tree{N: []api.Node{{Root: r, Parent: -1, Slot: slot}}}) || !May(x) {
				t.Errorf("New(%v, %d) = %v, %v", r, slot, x, is)
			}
		}
		for _, slot := range []uint64{top + 1, top + 2, 2 * top, endless - 1, endless} {
			if x, is := New(r, slot); is || len(x.N) != 0 {
				t.Errorf("New(%v, %d) = %v, %v, want a zero one", r, slot, x, is)
			}
		}
	}
}

func holdFind(t *testing.T, x api.Tree, r api.Root, want int) {
	t.Helper()
	if got := Find(x, r); got != want {
		t.Errorf("Find(%v, %v) = %d, want %d", x, r, got, want)
	}
}

// P6.2
func TestFind(t *testing.T) {
	x := bush()
	for i := range x.N {
		holdFind(t, x, name(i+1), i)
		for place := range 32 {
			r := name(i + 1)
			r[place] ^= 0x40
			holdFind(t, x, r, -1)
		}
	}
	holdFind(t, x, name(13), -1)
	holdFind(t, x, api.Root{}, -1)
	for i := range x.N {
		holdFind(t, changed(x, i, func(n *api.Node) { n.Root = api.Root{} }), api.Root{}, i)
		holdFind(t, changed(x, i, func(n *api.Node) { n.Root = api.Root{} }), name(i+1), -1)
	}
	holdFind(t, inLine(1), name(1), 0)
	holdFind(t, inLine(1), name(2), -1)
	holdFind(t, inLine(1), api.Root{}, -1)
}

// P6.2: of many, also those that may not be: nothing is found there.
func TestFindOfMany(t *testing.T) {
	for _, x := range mayBe() {
		for i, n := range x.N {
			holdFind(t, x, n.Root, i)
		}
		holdFind(t, x, name(999), -1)
	}
	for _, x := range mayNotBe() {
		for _, n := range x.N {
			holdFind(t, x, n.Root, -1)
		}
		holdFind(t, x, api.Root{}, -1)
		holdFind(t, x, name(999), -1)
	}
}

// holdInsert wants the tree as it was with an error, and that one node more behind without.
func holdInsert(t *testing.T, x api.Tree, b api.Block, place int, e api.Errno) {
	t.Helper()
	want := x
	if e == api.OK {
		want.N = slices.Concat(x.N, []api.Node{{Root: b.Root, Parent: place, Slot: b.Slot, Just: b.Just}})
	}
	got, ge := Insert(x, b)
	if ge != e || !isSame(got, want) {
		t.Errorf("Insert(%v, %v) = %v, %d, want %v, %d", x, b, got, ge, want, e)
	}
	if e == api.OK && !May(got) {
		t.Errorf("Insert(%v, %v) may not be", x, b)
	}
}

// P6.2: written out; the first node of the bush is of slot 5.
func TestInsert(t *testing.T) {
	x := api.Tree{N: bush().N[:11]}
	for _, c := range []struct {
		b     api.Block
		place int
		e     api.Errno
	}{
		{api.Block{Root: name(99), Parent: name(1), Slot: 6, Just: 3}, 0, api.OK},
		{api.Block{Root: name(99), Parent: name(1), Slot: 5, Just: 3}, 0, api.ErrSlot},
		{api.Block{Root: name(99), Parent: name(1), Slot: 0, Just: 3}, 0, api.ErrSlot},
		{api.Block{Root: name(99), Parent: name(1), Slot: top}, 0, api.OK},
		{api.Block{Root: name(99), Parent: name(1), Slot: top + 1}, 0, api.ErrSlot},
		{api.Block{Root: name(99), Parent: name(1), Slot: endless}, 0, api.ErrSlot},
		{api.Block{Root: name(99), Parent: name(1), Slot: 6, Just: endless}, 0, api.OK},
		{api.Block{Root: name(99), Parent: name(1), Slot: 6}, 0, api.OK},
		{api.Block{Root: api.Root{}, Parent: name(1), Slot: 6}, 0, api.OK},
		{api.Block{Root: name(99), Parent: api.Root{}, Slot: 6}, 0, api.ErrUnknown},
		{api.Block{Root: name(99), Parent: name(99), Slot: 6}, 0, api.ErrUnknown},
		{api.Block{Root: name(99), Parent: name(98), Slot: 6}, 0, api.ErrUnknown},
		{api.Block{Root: name(1), Parent: name(1), Slot: 6}, 0, api.ErrKnown},
		{api.Block{Root: name(1), Parent: name(11), Slot: 60}, 0, api.ErrKnown},
		{api.Block{Root: name(11), Parent: name(1), Slot: 60}, 0, api.ErrKnown},
		{api.Block{}, 0, api.ErrUnknown},
	} {
		holdInsert(t, x, c.b, c.place, c.e)
	}
}

// P6.2: behind each one, by the slots around its own.
func TestInsertBehindEach(t *testing.T) {
	for _, x := range mayBe() {
		for i, n := range x.N {
			for _, slot := range slots(x) {
				e := api.OK
				switch {
				case slot <= n.Slot || slot > top:
					e = api.ErrSlot
				case len(x.N) == 12:
					e = api.ErrFull
				}
				holdInsert(t, x, api.Block{Root: name(999), Parent: n.Root, Slot: slot, Just: slot ^ 5}, i, e)
			}
		}
	}
}

// P6.2: into a tree of 11, of 12, and of 13, which may not be.
func TestInsertIntoFull(t *testing.T) {
	b := api.Block{Root: name(99), Parent: name(1), Slot: 700}
	for _, c := range []struct {
		n int
		e api.Errno
	}{{1, api.OK}, {2, api.OK}, {10, api.OK}, {11, api.OK}, {12, api.ErrFull}, {13, api.ErrArg}, {14, api.ErrArg}} {
		holdInsert(t, inLine(c.n), b, 0, c.e)
		holdInsert(t, star(c.n), b, 0, c.e)
	}
	holdInsert(t, api.Tree{}, b, 0, api.ErrArg)
	holdInsert(t, api.Tree{N: []api.Node{}}, b, 0, api.ErrArg)
}

// P6.2, P1: of several errors the first one listed is told.
func TestInsertTellsTheFirst(t *testing.T) {
	full, free := bush(), api.Tree{N: bush().N[:11]}
	bad := changed(full, 5, func(n *api.Node) { n.Parent = 5 })
	known := api.Block{Root: name(4), Parent: name(1), Slot: 50}
	unknown := api.Block{Root: name(99), Parent: name(98), Slot: 50}
	late := api.Block{Root: name(99), Parent: name(1), Slot: top + 1}
	early := api.Block{Root: name(99), Parent: name(1), Slot: 5}
	good := api.Block{Root: name(99), Parent: name(1), Slot: 50}
	for _, b := range []api.Block{known, unknown, late, early, good} {
		holdInsert(t, bad, b, 0, api.ErrArg)
	}
	for _, x := range []api.Tree{full, free} {
		holdInsert(t, x, known, 0, api.ErrKnown)
		holdInsert(t, x, api.Block{Root: name(4), Parent: name(98), Slot: 50}, 0, api.ErrKnown)
		holdInsert(t, x, api.Block{Root: name(4), Parent: name(1), Slot: 5}, 0, api.ErrKnown)
		holdInsert(t, x, api.Block{Root: name(4), Parent: name(1), Slot: endless}, 0, api.ErrKnown)
		holdInsert(t, x, api.Block{Root: name(4), Parent: name(98), Slot: endless}, 0, api.ErrKnown)
		holdInsert(t, x, unknown, 0, api.ErrUnknown)
		holdInsert(t, x, api.Block{Root: name(99), Parent: name(98), Slot: 0}, 0, api.ErrUnknown)
		holdInsert(t, x, api.Block{Root: name(99), Parent: name(98), Slot: endless}, 0, api.ErrUnknown)
		holdInsert(t, x, late, 0, api.ErrSlot)
		holdInsert(t, x, early, 0, api.ErrSlot)
	}
	holdInsert(t, full, good, 0, api.ErrFull)
	holdInsert(t, free, good, 0, api.OK)
}

// P6.2: one that may not be stays, whatever the block.
func TestInsertIntoWhatMayNotBe(t *testing.T) {
	for _, x := range mayNotBe() {
		for _, b := range []api.Block{{}, {Root: name(1), Parent: name(1)}, {Root: name(999), Parent: name(1), Slot: 500}, {Root: name(999), Parent: name(998), Slot: endless}, {Root: name(2), Parent: name(998), Slot: 3}} {
			holdInsert(t, x, b, 0, api.ErrArg)
		}
	}
}

// heirs is the tests' own way, from the first one on: those above each one are those above its parent, and it.
func heirs(x api.Tree) [][]bool {
	l := make([][]bool, len(x.N))
	for k, n := range x.N {
		l[k] = make([]bool, len(x.N))
		if n.Parent >= 0 {
			copy(l[k], l[n.Parent])
		}
		l[k][k] = true
	}
	return l
}

func isPlain(x api.Tree, i int) bool { return 0 <= i && i < len(x.N) }

// P6.3: the chapter's example.
func TestExample(t *testing.T) {
	x, is := New(name(1), 3)
	x, e := Insert(x, api.Block{Root: name(2), Parent: name(1), Slot: 8})
	y, f := Insert(x, api.Block{Root: name(3), Parent: name(2), Slot: 12})
	if !is || e != api.OK || f != api.OK || !Above(y, 0, 2) || At(y, 2, 8) != 1 {
		t.Error(y, e, f)
	}
}

// P6.3: written out.
func TestAbove(t *testing.T) {
	x := bush()
	for _, c := range []struct {
		i, k int
		want bool
	}{
		{0, 0, true}, {5, 5, true}, {11, 11, true}, {0, 1, true}, {0, 11, true}, {0, 9, true}, {1, 0, false}, {11, 0, false}, {9, 0, false},
		{1, 9, true}, {3, 9, true}, {7, 9, true}, {9, 7, false}, {9, 1, false}, {2, 9, false}, {4, 9, false}, {5, 9, false}, {8, 9, false},
		{2, 10, true}, {4, 10, true}, {6, 10, false}, {1, 10, false}, {10, 11, false}, {1, 2, false}, {2, 1, false}, {3, 5, false}, {5, 3, false},
		{-1, -1, false}, {-1, 0, false}, {0, -1, false}, {12, 12, false}, {0, 12, false}, {12, 0, false}, {11, 12, false}, {12, 11, false}, {13, 0, false},
		{least, 0, false}, {0, least, false}, {greatest, 0, false}, {0, greatest, false}, {least, least, false}, {greatest, greatest, false}, {-1, 12, false},
	} {
		if got := Above(x, c.i, c.k); got != c.want {
			t.Errorf("Above(%d, %d) = %v", c.i, c.k, got)
		}
	}
}

// P6.3: of all places of many, by the plain way.
func TestAboveOfMany(t *testing.T) {
	for _, x := range mayBe() {
		plain := heirs(x)
		for _, i := range numbers(x) {
			for _, k := range numbers(x) {
				want := isPlain(x, i) && isPlain(x, k) && plain[k][i]
				if got := Above(x, i, k); got != want {
					t.Errorf("Above(%v, %d, %d) = %v", x, i, k, got)
				}
			}
		}
	}
}

// P6.3: written out; of the line slots are 5, 9, 14, 17 and 21, of the star 5, 9, 10 and 8.
func TestAt(t *testing.T) {
	line, side := inLine(5), star(4)
	for _, c := range []struct {
		x    api.Tree
		i    int
		slot uint64
		want int
	}{
		{line, 4, endless, 4}, {line, 4, top, 4}, {line, 4, 22, 4}, {line, 4, 21, 4}, {line, 4, 20, 3}, {line, 4, 17, 3}, {line, 4, 16, 2}, {line, 4, 14, 2}, {line, 4, 13, 1}, {line, 4, 9, 1}, {line, 4, 8, 0}, {line, 4, 5, 0}, {line, 4, 4, -1}, {line, 4, 0, -1},
		{line, 2, endless, 2}, {line, 2, 14, 2}, {line, 2, 10, 1}, {line, 2, 4, -1},
		{line, 0, endless, 0}, {line, 0, 5, 0}, {line, 0, 4, -1}, {line, 0, 0, -1},
		{side, 3, 8, 3}, {side, 3, 7, 0}, {side, 2, 10, 2}, {side, 2, 9, 0}, {side, 1, 9, 1}, {side, 1, 8, 0},
		{line, -1, endless, -1}, {line, 5, endless, -1}, {line, least, endless, -1}, {line, greatest, endless, -1}, {line, -1, 0, -1}, {line, 5, 5, -1},
		{slotted(inLine(2), 0, 1), 1, 0, 0}, {slotted(inLine(2), 0, top), 1, top - 1, 0}, {slotted(inLine(2), 0, top), 1, top, 1},
	} {
		if got := At(c.x, c.i, c.slot); got != c.want {
			t.Errorf("At(%v, %d, %d) = %d, want %d", c.x, c.i, c.slot, got, c.want)
		}
	}
}

// P6.3: of all places of many: the greatest place above it whose slot is not greater, since slots and places rise both.
func TestAtOfMany(t *testing.T) {
	for _, x := range mayBe() {
		plain := heirs(x)
		for _, i := range numbers(x) {
			for _, slot := range slots(x) {
				want := -1
				for k, n := range x.N {
					if isPlain(x, i) && plain[i][k] && n.Slot <= slot {
						want = k
					}
				}
				if got := At(x, i, slot); got != want {
					t.Errorf("At(%v, %d, %d) = %d, want %d", x, i, slot, got, want)
				}
			}
		}
	}
}

func holdKids(t *testing.T, x api.Tree, i int, want ...int) {
	t.Helper()
	if got := Kids(x, i); !slices.Equal(got, want) {
		t.Errorf("Kids(%v, %d) = %v, want %v", x, i, got, want)
	}
}

// P6.3: written out.
func TestKids(t *testing.T) {
	x := bush()
	holdKids(t, x, 0, 1, 2, 11)
	holdKids(t, x, 1, 3, 5)
	holdKids(t, x, 2, 4, 8)
	holdKids(t, x, 3, 7)
	holdKids(t, x, 4, 6, 10)
	holdKids(t, x, 7, 9)
	for _, leaf := range []int{5, 6, 8, 9, 10, 11} {
		holdKids(t, x, leaf)
	}
	for _, none := range []int{-1, -2, 12, 13, least, greatest} {
		holdKids(t, x, none)
	}
	holdKids(t, star(12), 0, 1, 2, 3, 4, 5, 6, 7, 8, 9, 10, 11)
	holdKids(t, inLine(1), 0)
	holdKids(t, inLine(1), -1)
	holdKids(t, inLine(12), 10, 11)
	holdKids(t, inLine(12), 11)
}

// P6.3: of all places of many.
func TestKidsOfMany(t *testing.T) {
	for _, x := range mayBe() {
		for _, i := range numbers(x) {
			var want []int
			for k := range x.N {
				if isPlain(x, i) && x.N[k].Parent == i {
					want = append(want, k)
				}
			}
			holdKids(t, x, i, want...)
		}
	}
}

// P6.3, P6.4: of a tree that may not be there is nothing at any place.
func TestNothingOfWhatMayNotBe(t *testing.T) {
	for _, x := range mayNotBe() {
		for _, i := range numbers(x) {
			for _, k := range []int{i, -1, 0, 1, 5} {
				if Above(x, i, k) || Above(x, k, i) {
					t.Errorf("Above(%v, %d, %d)", x, i, k)
				}
			}
			for _, slot := range []uint64{0, 5, 9, top, endless} {
				if At(x, i, slot) != -1 {
					t.Errorf("At(%v, %d, %d)", x, i, slot)
				}
			}
			holdKids(t, x, i)
			holdCut(t, x, i, api.Tree{})
		}
	}
}

func holdCut(t *testing.T, x api.Tree, i int, want api.Tree) {
	t.Helper()
	if got := Cut(x, i); !isSame(got, want) {
		t.Errorf("Cut(%v, %d) = %v, want %v", x, i, got, want)
	}
}

// kept are the nodes at those places, with those parents.
func kept(x api.Tree, places, parents []int) api.Tree {
	var out api.Tree
	for k, i := range places {
		n := x.N[i]
		n.Parent = parents[k]
		out.N = append(out.N, n)
	}
	return out
}

// P6.4: written out.
func TestCut(t *testing.T) {
	x := bush()
	holdCut(t, x, 0, x)
	holdCut(t, x, 1, kept(x, []int{1, 3, 5, 7, 9}, []int{-1, 0, 0, 1, 3}))
	holdCut(t, x, 2, kept(x, []int{2, 4, 6, 8, 10}, []int{-1, 0, 1, 0, 1}))
	holdCut(t, x, 3, kept(x, []int{3, 7, 9}, []int{-1, 0, 1}))
	holdCut(t, x, 4, kept(x, []int{4, 6, 10}, []int{-1, 0, 0}))
	holdCut(t, x, 7, kept(x, []int{7, 9}, []int{-1, 0}))
	for _, leaf := range []int{5, 6, 8, 9, 10, 11} {
		holdCut(t, x, leaf, kept(x, []int{leaf}, []int{-1}))
	}
	for _, none := range []int{-1, -2, 12, 13, least, greatest} {
		holdCut(t, x, none, api.Tree{})
	}
	holdCut(t, inLine(1), 0, inLine(1))
	holdCut(t, inLine(1), 1, api.Tree{})
	holdCut(t, star(12), 0, star(12))
	line := inLine(12)
	holdCut(t, line, 0, line)
	holdCut(t, line, 10, kept(line, []int{10, 11}, []int{-1, 0}))
}

// P6.4: of all places of many, by the plain way: new places are told by the roots.
func TestCutOfMany(t *testing.T) {
	for _, x := range mayBe() {
		plain := heirs(x)
		for _, i := range numbers(x) {
			var places, parents []int
			for k := range x.N {
				if isPlain(x, i) && plain[k][i] {
					parents = append(parents, slices.Index(places, x.N[k].Parent))
					places = append(places, k)
				}
			}
			holdCut(t, x, i, kept(x, places, parents))
		}
	}
}

// P6.5: what was cut may be, and between those that stay nothing is changed.
func TestCutChangesNothingBetween(t *testing.T) {
	for _, x := range mayBe() {
		for i := range x.N {
			y := Cut(x, i)
			holdMay(t, y, true)
			for a, n := range y.N {
				for b, m := range y.N {
					if Above(y, a, b) != Above(x, Find(x, n.Root), Find(x, m.Root)) {
						t.Errorf("Cut(%v, %d): %d above %d", x, i, a, b)
					}
				}
				for _, slot := range slots(y) {
					was, is := At(x, Find(x, n.Root), slot), At(y, a, slot)
					if is >= 0 && y.N[is].Root != x.N[was].Root || is < 0 && slot >= y.N[0].Slot {
						t.Errorf("Cut(%v, %d): at slot %d above %d", x, i, slot, a)
					}
				}
			}
		}
	}
}

// P6.5: what is above what is above is above; children are what is next below.
func TestAboveGoesOn(t *testing.T) {
	for _, x := range mayBe() {
		for i := range x.N {
			for k := range x.N {
				for m := range x.N {
					if Above(x, i, k) && Above(x, k, m) && !Above(x, i, m) {
						t.Errorf("%v: %d above %d above %d", x, i, k, m)
					}
				}
				if slices.Contains(Kids(x, i), k) && (!Above(x, i, k) || Above(x, k, i)) {
					t.Errorf("%v: %d a child of %d", x, k, i)
				}
			}
		}
	}
}

// P6.5: one after the other, by chance, the same each time: what comes of what may be may be.
func TestOneAfterTheOther(t *testing.T) {
	chance := rand.New(rand.NewSource(62))
	for range 300 {
		x, _ := New(name(0), 0)
		for next := 1; next < 40; next++ {
			b := api.Block{Root: name(next), Parent: x.N[chance.Intn(len(x.N))].Root, Slot: uint64(chance.Intn(60)), Just: uint64(next)}
			parent := Find(x, b.Parent)
			e := api.OK
			if b.Slot <= x.N[parent].Slot {
				e = api.ErrSlot
			} else if len(x.N) == 12 {
				e = api.ErrFull
			}
			holdInsert(t, x, b, parent, e)
			x, _ = Insert(x, b)
			if chance.Intn(12) == 0 {
				x = Cut(x, chance.Intn(len(x.N)))
			}
			if !May(x) {
				t.Fatalf("May(%v) = false", x)
			}
		}
	}
}

// within lays nodes into others, so that there is something ahead of them and behind them.
func within(l []api.Node) (all, piece []api.Node) {
	mark := []api.Node{{Root: name(777), Parent: 7, Slot: 7, Just: 7}, {Root: name(778), Parent: 8, Slot: 8, Just: 8}}
	all = slices.Concat(mark, l, mark)
	return all, all[2 : 2+len(l)]
}

// spoil changes all that can be reached from a list.
func spoil(l []api.Node) {
	for whole, i := l[:cap(l)], 0; i < len(whole); i++ {
		whole[i] = api.Node{Root: name(4242), Parent: 42, Slot: 42, Just: 42}
	}
}

// answers are all trees that the calls answer of one: by a block that may come in, by ones that may not, and by each place.
func answers(x api.Tree) [][]api.Node {
	var out [][]api.Node
	for _, b := range []api.Block{{Root: name(999), Parent: name(1), Slot: 900}, {Root: name(1)}, {Root: name(999), Parent: name(998)}, {Root: name(999), Parent: name(1)}} {
		y, _ := Insert(x, b)
		out = append(out, y.N)
	}
	for i := -1; i <= len(x.N); i++ {
		out = append(out, Cut(x, i).N)
	}
	return out
}

func everyTree() []api.Tree { return slices.Concat(mayBe(), mayNotBe()) }

// R3: what is handed in stays as it was, around it too, also when what was answered is changed later.
func TestHandedInStays(t *testing.T) {
	for _, x := range everyTree() {
		all, piece := within(x.N)
		before := slices.Clone(all)
		x.N = piece
		got := answers(x)
		May(x)
		Same(x, x)
		Find(x, name(3))
		var kids [][]int
		for i := range x.N {
			Above(x, i, len(x.N)-1)
			At(x, i, 9)
			kids = append(kids, Kids(x, i))
		}
		if !slices.Equal(all, before) {
			t.Errorf("handed in %v, now %v", before, all)
		}
		for _, l := range got {
			spoil(l)
		}
		for _, l := range kids {
			clear(l[:cap(l)])
		}
		if !slices.Equal(all, before) {
			t.Errorf("an answer was changed, and what was handed in, %v, is now %v", before, all)
		}
	}
}

// R3: what is answered hangs no more on what was handed in, and no two answers on each other.
func TestAnsweredIsNew(t *testing.T) {
	for _, x := range everyTree() {
		want := answers(x)
		all, piece := within(x.N)
		x.N = piece
		got := answers(x)
		spoil(all)
		for i := range got {
			if !slices.Equal(got[i], want[i]) {
				t.Errorf("answer %d was %v, and is now %v", i, want[i], got[i])
			}
			spoil(got[i])
		}
	}
}

// R3: of one tree two go on, each its own way; children of one place, asked twice, are two lists.
func TestTwoGoOn(t *testing.T) {
	x := Cut(bush(), 1)
	left, e := Insert(x, api.Block{Root: name(50), Parent: name(2), Slot: 70})
	right, f := Insert(x, api.Block{Root: name(51), Parent: name(4), Slot: 80})
	if e != api.OK || f != api.OK || len(x.N) != 5 || Find(left, name(50)) != 5 || Find(left, name(51)) != -1 || Find(right, name(51)) != 5 || Find(right, name(50)) != -1 {
		t.Error(left, right)
	}
	a, b := Kids(x, 0), Kids(x, 0)
	a[0] = 99
	if b[0] == 99 {
		t.Error("two answers share their children")
	}
	one, _ := New(name(1), 1)
	two, _ := New(name(1), 1)
	one.N[0].Slot = 9
	if two.N[0].Slot != 1 {
		t.Error("two new trees share their node")
	}
}

// P1: very many nodes, also in a line that a walk from the last one on would go along for long.
func TestVeryMany(t *testing.T) {
	x := inLine(100000)
	y, e := Insert(x, api.Block{Root: name(4242424), Parent: name(1), Slot: top})
	if May(x) || e != api.ErrArg || !isSame(y, x) || !Same(x, y) || Find(x, name(1)) != -1 || Above(x, 0, 99999) || At(x, 99999, 5) != -1 || len(Kids(x, 0)) != 0 || len(Cut(x, 0).N) != 0 {
		t.Error("very many nodes")
	}
}

// fromBytes makes a tree of each four bytes a node: its root, its parent, its slot, and what is justified by it.
func fromBytes(in []byte) api.Tree {
	var x api.Tree
	for ; len(in) >= 4; in = in[4:] {
		x.N = append(x.N, api.Node{Root: name(int(in[0])), Parent: int(int8(in[1])), Slot: uint64(in[2]), Just: uint64(in[3])})
		if in[2] > 250 {
			x.N[len(x.N)-1].Slot = top + uint64(in[2]) - 253
		}
	}
	return x
}

// plainMay holds each node against each one ahead of it.
func plainMay(x api.Tree) bool {
	for i, n := range x.N {
		if i == 0 && n.Parent != -1 || i > 0 && (n.Parent < 0 || n.Parent >= i) || n.Slot > 1<<40 {
			return false
		}
		for k, m := range x.N[:i] {
			if m.Root == n.Root || n.Parent == k && m.Slot >= n.Slot {
				return false
			}
		}
	}
	return 0 < len(x.N) && len(x.N) < 13
}

// P1, P6.1 to P6.4: whatever the tree, the places, the slot and the block.
func FuzzTree(f *testing.F) {
	f.Add([]byte{}, 0, 0, uint64(0))
	f.Add([]byte{1, 255, 5, 0}, 0, -1, uint64(5))
	f.Add([]byte{1, 255, 5, 0, 2, 0, 9, 0, 3, 1, 253, 0}, 2, 0, uint64(top))
	f.Add([]byte{1, 255, 5, 0, 2, 0, 9, 0, 1, 1, 254, 0}, least, greatest, uint64(endless))
	f.Fuzz(func(t *testing.T, in []byte, i, k int, slot uint64) {
		x := fromBytes(in)
		may := plainMay(x)
		holdMay(t, x, may)
		b := api.Block{Root: name(999), Parent: name(i), Slot: slot}
		y, e := Insert(x, b)
		if !may {
			holdInsert(t, x, b, 0, api.ErrArg)
			holdKids(t, x, i)
			holdCut(t, x, i, api.Tree{})
			if Above(x, i, k) || At(x, i, slot) != -1 || Find(x, name(i)) != -1 {
				t.Errorf("something of %v", x)
			}
			return
		}
		if (e == api.OK) != (len(y.N) == len(x.N)+1) || !May(y) {
			t.Errorf("Insert(%v, %v) = %v, %d", x, b, y, e)
		}
		if isPlain(x, i) && isPlain(x, k) && Above(x, i, k) != heirs(x)[k][i] {
			t.Errorf("Above(%v, %d, %d) = %v", x, i, k, Above(x, i, k))
		}
		if at := At(x, i, slot); at >= 0 && (!Above(x, at, i) || x.N[at].Slot > slot) {
			t.Errorf("At(%v, %d, %d) = %d", x, i, slot, at)
		}
		if c := Cut(x, i); May(c) != isPlain(x, i) {
			t.Errorf("Cut(%v, %d) = %v", x, i, c)
		}
	})
}
