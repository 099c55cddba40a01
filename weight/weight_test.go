package weight

import (
	"encoding/binary"
	"math"
	"math/big"
	"math/rand"
	"slices"
	"testing"

	"areopagus/api"
	"areopagus/tree"
)

const (
	least    = math.MinInt
	greatest = math.MaxInt
	top      = 1 << 40
	last     = uint64(math.MaxUint64)
	half     = uint64(1) << 63
)

// name hangs on its number at both ends, so that half of a root is not taken for it.
func name(n int) api.Root { return api.Root{byte(n), 15: byte(n >> 8), 31: byte(n)} }

// grown is a tree of so many parents: slots and what is justified are like no weight, so that none is taken for one.
func grown(parents ...int) api.Tree {
	var t api.Tree
	for i, p := range parents {
		n := api.Node{Root: name(i + 1), Parent: p, Slot: 50000, Just: uint64(100000 - i)}
		if 0 <= p && p < i {
			n.Slot = t.N[p].Slot + 3 + uint64(i%3)
		}
		t.N = append(t.N, n)
	}
	return t
}

func inLine(n int) api.Tree {
	var parents []int
	for i := range n {
		parents = append(parents, i-1)
	}
	return grown(parents...)
}

func star(n int) api.Tree {
	parents := []int{-1}
	for range n - 1 {
		parents = append(parents, 0)
	}
	return grown(parents...)
}

// bush has nodes of one branch between those of another one: 9, 7, 3, 1, 0 are a line, 6, 4, 2, 0 are, 10, 4, 2, 0 are.
func bush() api.Tree { return grown(-1, 0, 0, 1, 2, 1, 4, 3, 2, 7, 4, 0) }

// fork has two long branches, whose nodes take turns behind 1: 10, 8, 6, 4, 2, 1, 0 and 11, 9, 7, 5, 3, 1, 0.
func fork() api.Tree { return grown(-1, 0, 1, 1, 2, 3, 4, 5, 6, 7, 8, 9) }

// changed is the tree with one node of its own changed.
func changed(t api.Tree, at int, change func(*api.Node)) api.Tree {
	t.N = slices.Clone(t.N)
	change(&t.N[at])
	return t
}

// byChance is a tree of so many nodes, the same for the same chance. A parent is at most so many places ahead: the fewer these are, the deeper the tree.
func byChance(chance *rand.Rand, n, ahead int) api.Tree {
	parents := []int{-1}
	for i := 1; i < n; i++ {
		parents = append(parents, i-1-chance.Intn(min(i, ahead)))
	}
	return grown(parents...)
}

// shapes are all trees of so many nodes, by their parents.
func shapes(n int) []api.Tree {
	lists := [][]int{{-1}}
	for i := 1; i < n; i++ {
		var next [][]int
		for _, l := range lists {
			for p := range i {
				next = append(next, slices.Concat(l, []int{p}))
			}
		}
		lists = next
	}
	var out []api.Tree
	for _, l := range lists {
		out = append(out, grown(l...))
	}
	return out
}

func mayBe() []api.Tree {
	l := []api.Tree{bush(), fork(), {N: []api.Node{{Parent: -1}}}, {N: []api.Node{{Parent: -1, Slot: top, Just: last}}}}
	for n := 1; n <= 12; n++ {
		l = append(l, inLine(n), star(n))
	}
	for n := 1; n <= 6; n++ {
		l = append(l, shapes(n)...)
	}
	chance := rand.New(rand.NewSource(81))
	for i := range 80 {
		l = append(l, byChance(chance, 12-i%4, 1+i%12))
	}
	return l
}

// mayNotBe are trees that may not be for one thing alone.
func mayNotBe() []api.Tree {
	l := []api.Tree{{}, {N: []api.Node{}}, inLine(13), star(13), inLine(40)}
	for _, t := range []api.Tree{inLine(1), inLine(2), bush(), star(12), inLine(12)} {
		for _, p := range []int{0, 1, -2, 11, least, greatest} {
			l = append(l, changed(t, 0, func(n *api.Node) { n.Parent = p }))
		}
		for i := range t.N {
			l = append(l, changed(t, i, func(n *api.Node) { n.Slot = top + 1 }), changed(t, i, func(n *api.Node) { n.Slot = last }))
		}
		for i := 1; i < len(t.N); i++ {
			for _, p := range []int{-1, -2, i, i + 1, 12, least, greatest} {
				l = append(l, changed(t, i, func(n *api.Node) { n.Parent = p }))
			}
			l = append(l, changed(t, i, func(n *api.Node) { n.Slot = t.N[n.Parent].Slot }), changed(t, i, func(n *api.Node) { n.Root = t.N[0].Root }))
		}
	}
	return l
}

// all are as many of one number.
func all(n int, x uint64) []uint64 { return slices.Repeat([]uint64{x}, n) }

// with are so many noughts, but for pairs of a place and its number.
func with(n int, pairs ...uint64) []uint64 {
	l := all(n, 0)
	for i := 0; i+1 < len(pairs); i += 2 {
		l[pairs[i]] = pairs[i+1]
	}
	return l
}

// upTo are so many numbers, of which each tells by its bit whether it is in a sum.
func upTo(n int) []uint64 {
	var l []uint64
	for i := range n {
		l = append(l, 1<<i)
	}
	return l
}

func exact(x uint64) *big.Int { return new(big.Int).SetUint64(x) }

// word is a number that a word holds, or nothing.
func word(x *big.Int) (uint64, bool) {
	if !x.IsUint64() {
		return 0, false
	}
	return x.Uint64(), true
}

func words(l []*big.Int) ([]uint64, bool) {
	var out []uint64
	for _, x := range l {
		n, is := word(x)
		if !is {
			return nil, false
		}
		out = append(out, n)
	}
	return out, true
}

// isAbove is tree's Above of a tree that may be, without asking whether it may.
func isAbove(x api.Tree, i, k int) bool {
	for k > i {
		k = x.N[k].Parent
	}
	return k == i
}

// plainSums are made as P8.1 says, node by node, of numbers without an end.
func plainSums(x api.Tree, own []uint64) []*big.Int {
	var out []*big.Int
	for i := range x.N {
		sum := new(big.Int)
		for k := range x.N {
			if isAbove(x, i, k) {
				sum.Add(sum, exact(own[k]))
			}
		}
		out = append(out, sum)
	}
	return out
}

func plainSub(x api.Tree, own []uint64) ([]uint64, bool) {
	if !tree.May(x) || len(own) != len(x.N) {
		return nil, false
	}
	return words(plainSums(x, own))
}

func plainPass(x api.Tree, w, plus, minus []uint64) ([]uint64, bool) {
	more, comes := plainSub(x, plus)
	less, goes := plainSub(x, minus)
	if !comes || !goes || len(w) != len(x.N) {
		return nil, false
	}
	var out []*big.Int
	for i := range w {
		sum := new(big.Int).Add(exact(w[i]), exact(more[i]))
		out = append(out, sum.Sub(sum, exact(less[i])))
	}
	return words(out)
}

func isSame(got []uint64, is bool, want []uint64, wantIs bool) bool {
	return is == wantIs && slices.Equal(got, want)
}

// holdSub wants nothing and false where want is nothing.
func holdSub(t *testing.T, x api.Tree, own, want []uint64) {
	t.Helper()
	if got, is := Sub(x, own); !isSame(got, is, want, len(want) > 0) {
		t.Errorf("Sub(%v, %v) = %v, %v, want %v", x, own, got, is, want)
	}
}

func holdPass(t *testing.T, x api.Tree, w, plus, minus, want []uint64) {
	t.Helper()
	if got, is := Pass(x, w, plus, minus); !isSame(got, is, want, len(want) > 0) {
		t.Errorf("Pass(%v, %v, %v, %v) = %v, %v, want %v", x, w, plus, minus, got, is, want)
	}
}

func holdPlainSub(t *testing.T, x api.Tree, own []uint64) {
	t.Helper()
	want, wantIs := plainSub(x, own)
	if got, is := Sub(x, own); !isSame(got, is, want, wantIs) {
		t.Errorf("Sub(%v, %v) = %v, %v, want %v, %v", x, own, got, is, want, wantIs)
	}
}

func holdPlainPass(t *testing.T, x api.Tree, w, plus, minus []uint64) {
	t.Helper()
	want, wantIs := plainPass(x, w, plus, minus)
	if got, is := Pass(x, w, plus, minus); !isSame(got, is, want, wantIs) {
		t.Errorf("Pass(%v, %v, %v, %v) = %v, %v, want %v, %v", x, w, plus, minus, got, is, want, wantIs)
	}
}

// The tests' own way asks for what tree's Above tells.
func TestIsAbove(t *testing.T) {
	for _, x := range mayBe() {
		for i := range x.N {
			for k := range x.N {
				if isAbove(x, i, k) != tree.Above(x, i, k) {
					t.Errorf("of %v, %d and %d", x, i, k)
				}
			}
		}
	}
}

// P8.1: the chapter's example.
func TestExample(t *testing.T) {
	holdSub(t, inLine(3), []uint64{1, 2, 3}, []uint64{6, 5, 3})
}

// P8.1: written out; each number has a bit of its own.
func TestSub(t *testing.T) {
	for _, c := range []struct {
		x         api.Tree
		own, want []uint64
	}{
		{inLine(1), []uint64{7}, []uint64{7}},
		{inLine(1), []uint64{0}, []uint64{0}},
		{inLine(1), []uint64{last}, []uint64{last}},
		{inLine(2), []uint64{1, 2}, []uint64{3, 2}},
		{star(4), []uint64{1, 2, 4, 8}, []uint64{15, 2, 4, 8}},
		{grown(-1, 0, 0, 1), []uint64{1, 2, 4, 8}, []uint64{15, 10, 4, 8}},
		{grown(-1, 0, 1, 0), []uint64{1, 2, 4, 8}, []uint64{15, 6, 4, 8}},
		{grown(-1, 0, 1, 1), []uint64{1, 2, 4, 8}, []uint64{15, 14, 4, 8}},
		{inLine(12), upTo(12), []uint64{4095, 4094, 4092, 4088, 4080, 4064, 4032, 3968, 3840, 3584, 3072, 2048}},
		{star(12), upTo(12), []uint64{4095, 2, 4, 8, 16, 32, 64, 128, 256, 512, 1024, 2048}},
		{bush(), upTo(12), []uint64{4095, 682, 1364, 648, 1104, 32, 64, 640, 256, 512, 1024, 2048}},
		{fork(), upTo(12), []uint64{4095, 4094, 1364, 2728, 1360, 2720, 1344, 2688, 1280, 2560, 1024, 2048}},
		{inLine(12), all(12, 1), []uint64{12, 11, 10, 9, 8, 7, 6, 5, 4, 3, 2, 1}},
		{star(12), all(12, 1), []uint64{12, 1, 1, 1, 1, 1, 1, 1, 1, 1, 1, 1}},
		{bush(), all(12, 1), []uint64{12, 5, 5, 3, 3, 1, 1, 2, 1, 1, 1, 1}},
		{bush(), all(12, 0), all(12, 0)},
		{bush(), with(12, 9, 5), []uint64{5, 5, 0, 5, 0, 0, 0, 5, 0, 5, 0, 0}},
	} {
		holdSub(t, c.x, c.own, c.want)
	}
}

// P8.1: sums that come to 2^64 less 1 just, and to 2^64: at the first one, at one in the middle, and at none but the first one.
func TestSubAtTheEnd(t *testing.T) {
	for _, c := range []struct {
		x         api.Tree
		own, want []uint64
	}{
		{inLine(1), []uint64{last}, []uint64{last}},
		{inLine(3), []uint64{last - 2, 1, 1}, []uint64{last, 2, 1}},
		{inLine(3), []uint64{last - 1, 1, 1}, nil},
		{inLine(3), []uint64{last, 0, 0}, []uint64{last, 0, 0}},
		{inLine(3), []uint64{last, 1, 0}, nil},
		{inLine(3), []uint64{last, 0, 1}, nil},
		{inLine(3), []uint64{0, last - 1, 1}, []uint64{last, last, 1}},
		{inLine(3), []uint64{1, last - 1, 1}, nil},
		{inLine(3), []uint64{0, last, 1}, nil},
		{inLine(3), []uint64{0, 0, last}, []uint64{last, last, last}},
		{inLine(3), []uint64{0, 1, last}, nil},
		{inLine(3), []uint64{1, 0, last}, nil},
		{inLine(3), []uint64{last, last, last}, nil},
		{inLine(2), []uint64{half, half}, nil},
		{inLine(2), []uint64{half, half - 1}, []uint64{last, half - 1}},
		{star(3), []uint64{0, half, half}, nil},
		{star(3), []uint64{0, half, half - 1}, []uint64{last, half, half - 1}},
		{star(3), []uint64{1, half, half - 1}, nil},
		{star(3), []uint64{0, last, 1}, nil},
		{star(3), []uint64{0, 1, last}, nil},
		{star(5), []uint64{0, half, half, half, half}, nil},
		{inLine(12), with(12, 11, last), all(12, last)},
		{inLine(12), with(12, 0, 1, 11, last), nil},
		{inLine(12), with(12, 5, 1, 11, last), nil},
		{inLine(12), with(12, 5, last, 6, 1), nil},
		{inLine(12), with(12, 5, last-1, 6, 1), []uint64{last, last, last, last, last, last, 1, 0, 0, 0, 0, 0}},
		{star(12), with(12, 3, last), with(12, 0, last, 3, last)},
		{star(12), with(12, 3, last, 11, 1), nil},
		{star(12), with(12, 3, last-1, 11, 1), with(12, 0, last, 3, last-1, 11, 1)},
		{bush(), with(12, 6, last-1, 10, 1), with(12, 0, last, 2, last, 4, last, 6, last-1, 10, 1)},
		{bush(), with(12, 6, last, 10, 1), nil},
		{bush(), with(12, 8, 1, 6, last-1, 10, 1), nil},
		{bush(), with(12, 9, last, 10, 1), nil},
		{bush(), with(12, 9, last-1, 10, 1), with(12, 0, last, 1, last-1, 3, last-1, 7, last-1, 9, last-1, 2, 1, 4, 1, 10, 1)},
	} {
		holdSub(t, c.x, c.own, c.want)
	}
}

// lists are those of too few, of too many, and of none, of a list that would do.
func lists(l []uint64) [][]uint64 {
	more := slices.Concat(l, []uint64{0})
	return [][]uint64{nil, {}, l[:len(l)-1], l[1:], more, slices.Concat(l, l), slices.Concat(more, all(100, 1))}
}

// P8.1
func TestSubOfWrongLengths(t *testing.T) {
	for n := 1; n <= 12; n++ {
		for _, x := range []api.Tree{inLine(n), star(n)} {
			for _, l := range [][]uint64{all(n, 0), all(n, 1), upTo(n)} {
				for _, own := range lists(l) {
					holdSub(t, x, own, nil)
				}
			}
		}
	}
}

// P8.1, P8.2: of a tree that may not be there is nothing, whatever the numbers.
func TestNothingOfWhatMayNotBe(t *testing.T) {
	for _, x := range mayNotBe() {
		for _, n := range []int{0, len(x.N) - 1, len(x.N), len(x.N) + 1, 1, 12} {
			for _, each := range []uint64{0, 1, last} {
				l := all(max(n, 0), each)
				holdSub(t, x, l, nil)
				holdPass(t, x, l, l, l, nil)
				holdPass(t, x, l, all(len(x.N), 0), all(len(x.N), 0), nil)
			}
		}
		holdSub(t, x, nil, nil)
		holdPass(t, x, nil, nil, nil, nil)
	}
}

// P8.1: many trees, by the plain way: of each node a bit, all alike, and each one alone.
func TestSubOfMany(t *testing.T) {
	for _, x := range mayBe() {
		n := len(x.N)
		holdPlainSub(t, x, upTo(n))
		for _, each := range []uint64{0, 1, last / 12, last / uint64(n), half, last} {
			holdPlainSub(t, x, all(n, each))
		}
		for i := range n {
			for k := range n {
				holdPlainSub(t, x, with(n, uint64(i), last, uint64(k), 1))
				holdPlainSub(t, x, with(n, uint64(i), half, uint64(k), half-1))
			}
		}
	}
}

// some are so many numbers, the same for the same chance, of which the sum may be near the end.
func some(chance *rand.Rand, n int) []uint64 {
	l := all(n, 0)
	for i := range l {
		switch chance.Intn(6) {
		case 0:
			l[i] = uint64(chance.Intn(3))
		case 1:
			l[i] = last/12 - 1 + uint64(chance.Intn(3))
		case 2:
			l[i] = chance.Uint64() >> (4 + chance.Intn(8))
		case 3:
			l[i] = uint64(chance.Intn(100))
		}
	}
	return l
}

// filled are numbers of those that i is above, as they were, but for that of k: with it the sum of i comes to 2^64 less 1 just. The others' are noughts.
func filled(x api.Tree, own []uint64, i, k int) []uint64 {
	l, rest := all(len(own), 0), last
	for at := range own {
		if isAbove(x, i, at) && at != k {
			l[at] = own[at]
			rest -= own[at]
		}
	}
	l[k] = rest
	return l
}

// P8.1: at each node of many in turn the sum comes to 2^64 less 1 just, and then to 2^64, by its own number, and by that of each one that descends from it.
func TestSubToTheEndAtEach(t *testing.T) {
	chance := rand.New(rand.NewSource(82))
	for _, x := range mayBe() {
		own := some(chance, len(x.N))
		for i := range x.N {
			for k := range x.N {
				if !isAbove(x, i, k) {
					continue
				}
				l := filled(x, own, i, k)
				sums, _ := plainSub(x, l)
				if len(sums) == 0 || sums[i] != last {
					t.Fatalf("%v of %v: the test's own numbers, at %d", l, x, i)
				}
				holdSub(t, x, l, sums)
				if l[k] < last {
					l[k]++
					holdSub(t, x, l, nil)
				}
			}
		}
	}
}

// P8.2: written out.
func TestPass(t *testing.T) {
	side := grown(-1, 0, 0, 1)
	w := []uint64{15, 10, 4, 8}
	for _, c := range []struct {
		x                    api.Tree
		w, plus, minus, want []uint64
	}{
		{side, w, all(4, 0), all(4, 0), w},
		{side, all(4, 0), all(4, 0), all(4, 0), all(4, 0)},
		{side, all(4, last), all(4, 0), all(4, 0), all(4, last)},
		{side, w, []uint64{0, 0, 5, 0}, []uint64{1, 2, 0, 8}, []uint64{9, 0, 9, 0}},
		{side, w, []uint64{0, 0, 0, 3}, all(4, 0), []uint64{18, 13, 4, 11}},
		{side, w, all(4, 0), []uint64{0, 0, 0, 3}, []uint64{12, 7, 4, 5}},
		{side, w, []uint64{0, 0, 0, 3}, []uint64{0, 0, 3, 0}, []uint64{15, 13, 1, 11}},
		{side, w, []uint64{0, 0, 3, 0}, []uint64{0, 3, 0, 0}, []uint64{15, 7, 7, 8}},
		{side, w, []uint64{1, 2, 4, 8}, []uint64{1, 2, 4, 8}, w},
		{inLine(1), []uint64{5}, []uint64{3}, []uint64{8}, []uint64{0}},
		{inLine(3), []uint64{6, 5, 3}, []uint64{1, 0, 1}, []uint64{0, 2, 0}, []uint64{6, 4, 4}},
		{inLine(12), all(12, 100), all(12, 1), with(12, 11, 1), []uint64{111, 110, 109, 108, 107, 106, 105, 104, 103, 102, 101, 100}},
		{star(12), all(12, 100), all(12, 1), with(12, 11, 1), []uint64{111, 101, 101, 101, 101, 101, 101, 101, 101, 101, 101, 100}},
		{bush(), all(12, 100), all(12, 1), all(12, 2), []uint64{88, 95, 95, 97, 97, 99, 99, 98, 99, 99, 99, 99}},
		// What was need not be sums of anything.
		{inLine(3), []uint64{0, 5, 9}, []uint64{0, 0, 1}, all(3, 0), []uint64{1, 6, 10}},
	} {
		holdPass(t, c.x, c.w, c.plus, c.minus, c.want)
	}
}

// P8.2: of one node: results of 0, of 2^64 less 1, and between; where w and plus together are 2^64 and more, what is less brings that below again.
func TestPassOfOne(t *testing.T) {
	for _, c := range [][4]uint64{
		{0, 0, 0, 0}, {5, 0, 5, 0}, {0, 5, 5, 0}, {3, 2, 5, 0}, {1, 0, 1, 0}, {last, 0, last, 0}, {0, last, last, 0}, {1, last - 1, last, 0}, {half, half - 1, last, 0},
		{last, 0, 0, last}, {0, last, 0, last}, {last - 1, 1, 0, last}, {half, half - 1, 0, last}, {half, half, 1, last},
		{last, 1, 1, last}, {last, 5, 5, last}, {1, last, 1, last}, {last, last, last, last},
		{last, 1, 2, last - 1}, {2, last, 3, last - 1}, {last, 5, 6, last - 1}, {half, half, last, 1}, {last, 5, last, 5}, {5, last, last, 5},
		{last, 0, last - 1, 1}, {7, 0, 3, 4}, {7, 3, 0, 10}, {7, 3, 2, 8}, {7, 2, 3, 6}, {7, 9, 12, 4},
	} {
		holdPass(t, inLine(1), c[:1], c[1:2], c[2:3], c[3:])
	}
}

// P8.2: of one node: 1 below 0, 2^64, and what is farther off.
func TestPassOfOneThatDoesNotFit(t *testing.T) {
	for _, c := range [][3]uint64{
		{0, 0, 1}, {5, 0, 6}, {0, 5, 6}, {3, 2, 6}, {last - 1, 0, last}, {0, last - 1, last}, {half - 1, half - 1, last}, {half - 1, 0, half},
		{0, 0, last}, {1, 1, last}, {5, 0, 500},
		{last, 1, 0}, {1, last, 0}, {half, half, 0}, {last, 5, 4}, {2, last, 1}, {last, last, last - 1}, {half + 1, half, 1},
		{last, last, 0}, {last, last, 1}, {last, last, half}, {half, last, 0}, {last, 500, 5},
	} {
		holdPass(t, inLine(1), c[:1], c[1:2], c[2:], nil)
	}
}

// P8.2: written out: at the first one, at one in the middle, and at the last one alone.
func TestPassAtTheEnds(t *testing.T) {
	line, none := inLine(3), all(3, 0)
	for _, c := range []struct{ w, plus, minus, want []uint64 }{
		{[]uint64{1, 1, 1}, none, []uint64{0, 0, 1}, none},
		{[]uint64{0, 1, 1}, none, []uint64{0, 0, 1}, nil},
		{[]uint64{1, 0, 1}, none, []uint64{0, 0, 1}, nil},
		{[]uint64{1, 1, 0}, none, []uint64{0, 0, 1}, nil},
		{[]uint64{last - 1, last - 1, last - 1}, []uint64{0, 0, 1}, none, all(3, last)},
		{[]uint64{last, last - 1, last - 1}, []uint64{0, 0, 1}, none, nil},
		{[]uint64{last - 1, last, last - 1}, []uint64{0, 0, 1}, none, nil},
		{[]uint64{last - 1, last - 1, last}, []uint64{0, 0, 1}, none, nil},
		{[]uint64{last, 0, 0}, []uint64{0, 5, 0}, []uint64{5, 0, 0}, []uint64{last, 5, 0}},
		{[]uint64{last, 0, 0}, []uint64{0, 5, 0}, []uint64{4, 0, 0}, nil},
		{[]uint64{last, last, 0}, []uint64{0, 0, 5}, []uint64{0, 5, 0}, []uint64{last, last, 5}},
		{[]uint64{last, last, 0}, []uint64{0, 0, 5}, []uint64{1, 4, 0}, nil},
		{[]uint64{last, last, last}, []uint64{0, 0, 5}, []uint64{0, 0, 5}, all(3, last)},
		{[]uint64{last, last, last}, []uint64{0, 0, 5}, []uint64{0, 0, 4}, nil},
		{[]uint64{last, last, last}, []uint64{0, 0, 5}, []uint64{0, 1, 4}, nil},
		// What goes goes at the first one alone, where nothing of what came has been.
		{[]uint64{5, 0, 0}, none, []uint64{5, 0, 0}, none},
		{[]uint64{4, 9, 9}, none, []uint64{5, 0, 0}, nil},
		{[]uint64{0, 0, 0}, []uint64{0, 0, last}, []uint64{0, last, 0}, []uint64{0, 0, last}},
		{[]uint64{0, 0, 0}, []uint64{0, last, 0}, []uint64{0, 0, last}, nil},
	} {
		holdPass(t, line, c.w, c.plus, c.minus, c.want)
	}
}

// P8.2: Sub of plus is false where that of minus is true, and the other way round; also where they would make up for each other.
func TestPassWhereSubIsFalse(t *testing.T) {
	for _, x := range []api.Tree{inLine(4), star(4), inLine(12), star(12), bush()} {
		n := len(x.N)
		for i := 1; i < n; i++ {
			far, near := with(n, 0, 1, uint64(i), last), with(n, uint64(i), last)
			for _, w := range [][]uint64{all(n, 0), all(n, 1), all(n, half), all(n, last)} {
				holdSub(t, x, far, nil)
				holdPass(t, x, w, far, near, nil)
				holdPass(t, x, w, near, far, nil)
				holdPass(t, x, w, far, far, nil)
				holdPass(t, x, w, far, all(n, 0), nil)
				holdPass(t, x, w, all(n, 0), far, nil)
				holdPass(t, x, w, near, near, w)
			}
		}
	}
}

// P8.2: each of the lists is too short, too long, or none, by itself.
func TestPassOfWrongLengths(t *testing.T) {
	for n := 1; n <= 12; n++ {
		for _, x := range []api.Tree{inLine(n), star(n)} {
			w, little := all(n, 100), all(n, 1)
			for _, l := range lists(little) {
				holdPass(t, x, l, little, little, nil)
				holdPass(t, x, w, l, little, nil)
				holdPass(t, x, w, little, l, nil)
				holdPass(t, x, l, l, l, nil)
			}
			for _, l := range lists(all(n, 0)) {
				holdPass(t, x, l, all(n, 0), all(n, 0), nil)
				holdPass(t, x, w, l, all(n, 0), nil)
				holdPass(t, x, w, all(n, 0), l, nil)
			}
			holdPass(t, x, w, little, little, w)
		}
	}
}

// P8.2: plus and minus all 0, or the same: w, whatever it is.
func TestPassOfNothing(t *testing.T) {
	chance := rand.New(rand.NewSource(83))
	for _, x := range mayBe() {
		n := len(x.N)
		for _, w := range [][]uint64{all(n, 0), all(n, 1), all(n, half), all(n, last), upTo(n), some(chance, n)} {
			holdPass(t, x, w, all(n, 0), all(n, 0), w)
			holdPass(t, x, w, upTo(n), upTo(n), w)
			holdPass(t, x, w, with(n, uint64(n)-1, last), with(n, uint64(n)-1, last), w)
		}
	}
}

// P8.2: of many: at each node in turn the result comes to 0, to 1 below it, to 2^64 less 1, and to 2^64, wherever w may be so.
func TestPassToTheEndsAtEach(t *testing.T) {
	chance := rand.New(rand.NewSource(84))
	for _, x := range mayBe() {
		plus, minus := some(chance, len(x.N)), some(chance, len(x.N))
		more, less := plainSums(x, plus), plainSums(x, minus)
		for i := range x.N {
			for _, want := range []*big.Int{big.NewInt(-1), big.NewInt(0), exact(last), new(big.Int).Add(exact(last), big.NewInt(1))} {
				w := all(len(x.N), half)
				need := new(big.Int).Sub(new(big.Int).Add(want, less[i]), more[i])
				if n, is := word(need); is {
					w[i] = n
					holdPlainPass(t, x, w, plus, minus)
				}
			}
		}
	}
}

// P8.2: of many, by the plain way.
func TestPassOfMany(t *testing.T) {
	chance := rand.New(rand.NewSource(85))
	for _, x := range mayBe() {
		for range 20 {
			n := len(x.N)
			w, plus, minus := some(chance, n), some(chance, n), some(chance, n)
			holdPlainPass(t, x, w, plus, minus)
			holdPlainPass(t, x, all(n, last), plus, minus)
			holdPlainPass(t, x, all(n, 0), plus, minus)
			holdPlainPass(t, x, all(n, half), plus, minus)
			huge := slices.Clone(plus)
			huge[chance.Intn(n)] = last - uint64(chance.Intn(3))
			holdPlainSub(t, x, huge)
			holdPlainPass(t, x, w, huge, minus)
			holdPlainPass(t, x, w, minus, huge)
			holdPlainPass(t, x, w, huge, huge)
		}
	}
}

// P8.3: from the sums of what was, by what came, and what went, one comes to the sums of what is.
func TestPassComesToSub(t *testing.T) {
	chance := rand.New(rand.NewSource(86))
	for _, x := range mayBe() {
		n := len(x.N)
		own := all(n, 0)
		w, _ := Sub(x, own)
		for range 30 {
			plus, minus := all(n, 0), all(n, 0)
			for i := range n {
				plus[i] = uint64(chance.Intn(1 << 20))
				minus[i] = chance.Uint64() % (own[i] + plus[i] + 1)
				own[i] += plus[i] - minus[i]
			}
			passed, is := Pass(x, w, plus, minus)
			want, wantIs := Sub(x, own)
			if !is || !wantIs || !slices.Equal(passed, want) {
				t.Fatalf("Pass(%v, %v, %v, %v) = %v, %v, want %v", x, w, plus, minus, passed, is, want)
			}
			w = passed
		}
	}
}

// P8.3: what is moved from one to another one, however much: the sums of what is fit, though what was and what came together do not.
func TestPassOfAllThatThereIs(t *testing.T) {
	for _, x := range mayBe() {
		n := len(x.N)
		for i := range n {
			for k := range n {
				from, to := with(n, uint64(i), last), with(n, uint64(k), last)
				was, _ := plainSub(x, from)
				want, _ := plainSub(x, to)
				holdPass(t, x, was, to, from, want)
			}
		}
	}
}

func holdSame(t *testing.T, a, b []uint64, want bool) {
	t.Helper()
	if Same(a, b) != want || Same(b, a) != want {
		t.Errorf("Same(%v, %v) = %v, and turned round %v, want %v", a, b, Same(a, b), Same(b, a), want)
	}
}

// P8.1: written out.
func TestSame(t *testing.T) {
	for _, c := range []struct {
		a, b []uint64
		want bool
	}{
		{nil, nil, true}, {nil, []uint64{}, true}, {[]uint64{}, []uint64{}, true},
		{nil, []uint64{0}, false}, {[]uint64{}, []uint64{0}, false}, {[]uint64{}, []uint64{5}, false},
		{[]uint64{0}, []uint64{0}, true}, {[]uint64{5}, []uint64{5}, true}, {[]uint64{5}, []uint64{6}, false}, {[]uint64{last}, []uint64{last}, true}, {[]uint64{last}, []uint64{0}, false},
		{[]uint64{1, 2, 3}, []uint64{1, 2, 3}, true},
		{[]uint64{1, 2, 3}, []uint64{9, 2, 3}, false}, {[]uint64{1, 2, 3}, []uint64{1, 9, 3}, false}, {[]uint64{1, 2, 3}, []uint64{1, 2, 9}, false},
		{[]uint64{1, 2, 3}, []uint64{1, 2}, false}, {[]uint64{1, 2, 3}, []uint64{2, 3}, false}, {[]uint64{1, 2, 0}, []uint64{1, 2}, false}, {[]uint64{0, 0}, []uint64{0}, false},
		{[]uint64{1, 2, 3}, []uint64{3, 2, 1}, false}, {[]uint64{1, 2, 3}, []uint64{1, 3, 2}, false}, {[]uint64{1, 1, 2}, []uint64{1, 2, 2}, false},
		{[]uint64{1, 5}, []uint64{2, 4}, false}, {[]uint64{1 << 32}, []uint64{0}, false}, {[]uint64{1<<32 + 1, 7}, []uint64{1, 7}, false},
	} {
		holdSame(t, c.a, c.b, c.want)
	}
}

// P8.1: each bit of each number is asked for, also of lists that are longer than any tree.
func TestSameOfEachBit(t *testing.T) {
	for _, n := range []int{1, 2, 3, 12, 13, 100} {
		l := upTo(n)
		holdSame(t, l, slices.Clone(l), true)
		holdSame(t, l, l, true)
		for i := range l {
			for bit := range 64 {
				twin := slices.Clone(l)
				twin[i] ^= 1 << bit
				holdSame(t, l, twin, false)
			}
			holdSame(t, l, l[:i], false)
			holdSame(t, l, l[i+1:], false)
		}
	}
}

// around lays numbers into others, so that there is something ahead of them and behind them.
func around(l []uint64) (whole, piece []uint64) {
	whole = slices.Concat([]uint64{777, 778}, l, []uint64{779, 780})
	return whole, whole[2 : 2+len(l)]
}

// spoil changes all that can be reached from a list.
func spoil(l []uint64) {
	l = l[:cap(l)]
	for i := range l {
		l[i] = 4242
	}
}

// R3: what is handed in stays as it was, around it too, also when what was answered is changed later; and what was answered stays when what was handed in is changed.
func TestHandedInStays(t *testing.T) {
	chance := rand.New(rand.NewSource(87))
	for _, x := range slices.Concat(mayBe(), mayNotBe()) {
		n := len(x.N)
		x.N = slices.Clip(slices.Clone(x.N))
		nodes := slices.Clone(x.N)
		for _, plus := range [][]uint64{all(n, 0), upTo(n), some(chance, n), all(n, last)} {
			var whole, before, piece [3][]uint64
			for i, l := range [][]uint64{all(n, half), plus, slices.Clone(plus)} {
				whole[i], piece[i] = around(l)
				before[i] = slices.Clone(whole[i])
			}
			stay := func() bool {
				return slices.Equal(whole[0], before[0]) && slices.Equal(whole[1], before[1]) && slices.Equal(whole[2], before[2]) && slices.Equal(x.N, nodes)
			}
			sums, _ := Sub(x, piece[1])
			passed, _ := Pass(x, piece[0], piece[1], piece[2])
			Same(piece[0], piece[1])
			if !stay() {
				t.Errorf("of %v, %v was handed in, and is now %v", x, before, whole)
			}
			sumsWere, passedWere := slices.Clone(sums), slices.Clone(passed)
			for i := range whole {
				spoil(whole[i])
			}
			if !slices.Equal(sums, sumsWere) || !slices.Equal(passed, passedWere) {
				t.Errorf("answers were %v and %v, and are now %v and %v", sumsWere, passedWere, sums, passed)
			}
			for i := range whole {
				copy(whole[i], before[i])
			}
			spoil(sums)
			if !slices.Equal(passed, passedWere) {
				t.Errorf("an answer was changed, and another one with it")
			}
			spoil(passed)
			if !stay() {
				t.Errorf("an answer was changed, and of what was handed in, %v, is now %v", before, whole)
			}
		}
	}
}

// R3: one list handed in thrice is read only.
func TestOneListThrice(t *testing.T) {
	l := []uint64{4, 2, 1}
	holdPass(t, inLine(3), l, l, l, []uint64{4, 2, 1})
	holdPass(t, inLine(3), l, l, all(3, 0), []uint64{11, 5, 2})
	holdPass(t, star(3), l, all(3, 0), with(3, 1, 2, 2, 1), []uint64{1, 0, 0})
	if !slices.Equal(l, []uint64{4, 2, 1}) {
		t.Error(l)
	}
}

// R5: each call answers the same again, whatever was asked between.
func TestAskedAgain(t *testing.T) {
	for range 3 {
		holdSub(t, inLine(3), []uint64{1, 2, 3}, []uint64{6, 5, 3})
		holdSub(t, star(3), []uint64{1, 2, 3}, []uint64{6, 2, 3})
		holdSub(t, star(3), []uint64{1, 2, last}, nil)
		holdPass(t, inLine(3), []uint64{6, 5, 3}, []uint64{0, 0, 1}, []uint64{1, 0, 0}, []uint64{6, 6, 4})
		holdPass(t, inLine(3), []uint64{6, 5, 3}, []uint64{0, 0, 1}, []uint64{8, 0, 0}, nil)
	}
}

// P1: very many nodes and numbers.
func TestVeryMany(t *testing.T) {
	const n = 100000
	x, l := inLine(n), all(n, 1)
	holdSub(t, x, l, nil)
	holdPass(t, x, l, l, l, nil)
	holdSub(t, bush(), l, nil)
	holdPass(t, bush(), l, upTo(12), upTo(12), nil)
	holdPass(t, bush(), upTo(12), l, upTo(12), nil)
	holdPass(t, bush(), upTo(12), upTo(12), l, nil)
	holdSame(t, l, all(n, 1), true)
	holdSame(t, l, l[1:], false)
}

// parentsOf makes a tree of a byte a node.
func parentsOf(in []byte) api.Tree {
	var parents []int
	for _, p := range in {
		parents = append(parents, int(int8(p)))
	}
	return grown(parents...)
}

// numbersOf are one of each eight bytes.
func numbersOf(in []byte) []uint64 {
	var l []uint64
	for ; len(in) >= 8; in = in[8:] {
		l = append(l, binary.LittleEndian.Uint64(in))
	}
	return l
}

// P1, P8.1, P8.2: whatever the tree, and the numbers.
func FuzzWeight(f *testing.F) {
	f.Add([]byte{}, []byte{}, []byte{}, []byte{})
	f.Add([]byte{255}, []byte("12345678"), []byte("12345678"), []byte("12345678"))
	f.Add([]byte{255, 0}, []byte("1234567812345678"), []byte("1234567812345678"), []byte("1234567812345678"))
	f.Add([]byte{255, 0, 0, 1}, []byte("1234567812345678\x00\x00\x00\x00\x00\x00\x00\x00\x00\x00\x00\x00\x00\x00\x00\x00"), []byte("1234567812345678"), []byte("12345678"))
	f.Fuzz(func(t *testing.T, in, w, plus, minus []byte) {
		x := parentsOf(in)
		l := [3][]uint64{numbersOf(w), numbersOf(plus), numbersOf(minus)}
		hold := func() {
			for _, own := range l {
				holdPlainSub(t, x, own)
			}
			holdPlainPass(t, x, l[0], l[1], l[2])
		}
		hold()
		// The same, of as many numbers as there are nodes, and of little ones.
		for i := range l {
			l[i] = append(l[i], all(len(x.N), 0)...)[:len(x.N)]
		}
		hold()
		for i := range l {
			for k := range l[i] {
				l[i][k] >>= 4
			}
		}
		hold()
	})
}
