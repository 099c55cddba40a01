package delta

import (
	"encoding/binary"
	"math"
	"math/rand"
	"slices"
	"testing"

	"areopagus/api"
	"areopagus/stake"
	"areopagus/tree"
	"areopagus/vote"
	"areopagus/weight"
)

const (
	least    = math.MinInt
	greatest = math.MaxInt
	top      = uint64(1) << 40
	last     = uint64(math.MaxUint64)
)

// name hangs on its number at both ends, so that half of a root is not taken for it.
func name(n int) api.Root { return api.Root{byte(n), 15: byte(n >> 8), 31: byte(n)} }

var zero = api.Root{}

// stray are names of no node that a test's tree has but by its own words: other ones, and such as differ from the first node's in one byte alone.
var stray = []api.Root{zero, name(77), {1}, {31: 1}, {2, 31: 1}, {1, 31: 2}, {1, 15: 128, 31: 1}}

// grown is a tree of so many parents: place i is of name i+1. Slots and what is justified are like no balance and no epoch, so that none is taken for one.
func grown(parents ...int) api.Tree {
	var t api.Tree
	for i, p := range parents {
		n := api.Node{Root: name(i + 1), Parent: p, Slot: 50000, Just: uint64(100000 - i)}
		if 0 <= p && p < i {
			n.Slot = t.N[p].Slot + 3 + uint64(i%3)
		}
		t.N = append(t.N, n)
	}
	return t
}

func inLine(n int) api.Tree {
	var parents []int
	for i := range n {
		parents = append(parents, i-1)
	}
	return grown(parents...)
}

func star(n int) api.Tree {
	parents := []int{-1}
	for range n - 1 {
		parents = append(parents, 0)
	}
	return grown(parents...)
}

// bush has nodes of one branch between those of another one: 9, 7, 3, 1, 0 are a line, 6, 4, 2, 0 are, 10, 4, 2, 0 are.
func bush() api.Tree { return grown(-1, 0, 0, 1, 2, 1, 4, 3, 2, 7, 4, 0) }

// changed is the tree with one node of its own changed.
func changed(t api.Tree, at int, change func(*api.Node)) api.Tree {
	t.N = slices.Clone(t.N)
	change(&t.N[at])
	return t
}

// named is the tree with a node of another root.
func named(t api.Tree, at int, r api.Root) api.Tree {
	return changed(t, at, func(n *api.Node) { n.Root = r })
}

func on(n int, epoch uint64) api.Latest { return api.Latest{Has: true, Root: name(n), Epoch: epoch} }

func onRoot(r api.Root, epoch uint64) api.Latest {
	return api.Latest{Has: true, Root: r, Epoch: epoch}
}

var no = api.Latest{}

// votes are these, with nobody out.
func votes(l ...api.Latest) api.Votes { return api.Votes{L: l} }

// fresh are so many that have no vote.
func fresh(n int) api.Votes { return votes(make([]api.Latest, n)...) }

// alike are so many of one vote.
func alike(n int, l api.Latest) api.Votes { return votes(slices.Repeat([]api.Latest{l}, n)...) }

// apart are so many votes, each for another node, from that of place 0 on.
func apart(n int) api.Votes {
	v := fresh(n)
	for i := range v.L {
		v.L[i] = on(i+1, uint64(7*i))
	}
	return v
}

func clone(v api.Votes) api.Votes { return api.Votes{L: slices.Clone(v.L), Out: v.Out} }

// with are the votes with another one at a place.
func with(v api.Votes, val int, l api.Latest) api.Votes {
	v = clone(v)
	v.L[val] = l
	return v
}

func out(v api.Votes, mask uint64) api.Votes {
	v = clone(v)
	v.Out = mask
	return v
}

func all(n int, x uint64) []uint64 { return slices.Repeat([]uint64{x}, n) }

// upTo are so many balances, of which each tells by its bit whether it is in a sum.
func upTo(n int) []uint64 {
	var l []uint64
	for i := range n {
		l = append(l, 1<<i)
	}
	return l
}

// at are so many noughts, but for pairs of a place and its number.
func at(n int, pairs ...uint64) []uint64 {
	l := all(n, 0)
	for i := 0; i+1 < len(pairs); i += 2 {
		l[pairs[i]] = pairs[i+1]
	}
	return l
}

// plainFit is the tests' own.
func plainFit(t api.Tree, v api.Votes, bal []uint64) bool {
	return tree.May(t) && vote.May(v) && stake.May(bal) && len(v.L) == len(bal)
}

// plainSum is, of each node, in order, the balances of those of which it is so, one after the other.
func plainSum(t api.Tree, bal []uint64, isSo func(r api.Root, val int) bool) []uint64 {
	var l []uint64
	for _, n := range t.N {
		sum := uint64(0)
		for val := range bal {
			if isSo(n.Root, val) {
				sum += bal[val]
			}
		}
		l = append(l, sum)
	}
	return l
}

func isFor(v api.Votes, val int, r api.Root) bool { return v.L[val].Has && v.L[val].Root == r }

// plainOwn is the tests' own, by the words of P14.1.
func plainOwn(t api.Tree, v api.Votes, bal []uint64) ([]uint64, bool) {
	if !plainFit(t, v, bal) {
		return nil, false
	}
	return plainSum(t, bal, func(r api.Root, val int) bool { return isFor(v, val, r) }), true
}

// plainWeights are the tests' own: of each node, the balances of those whose vote is for one that it is above.
func plainWeights(t api.Tree, v api.Votes, bal []uint64) ([]uint64, bool) {
	own, fits := plainOwn(t, v, bal)
	if !fits {
		return nil, false
	}
	l := all(len(t.N), 0)
	for i := range l {
		for k := range own {
			if tree.Above(t, i, k) {
				l[i] += own[k]
			}
		}
	}
	return l, true
}

// plainOf is the tests' own, by the words of P14.2, part by part.
func plainOf(t api.Tree, was, is api.Votes, bal []uint64) ([]uint64, []uint64, bool) {
	if !plainFit(t, was, bal) || !plainFit(t, is, bal) {
		return nil, nil, false
	}
	unlike := func(val int) bool {
		a, b := was.L[val], is.L[val]
		return a.Has != b.Has || a.Root != b.Root || a.Epoch != b.Epoch
	}
	plus := plainSum(t, bal, func(r api.Root, val int) bool { return isFor(is, val, r) && unlike(val) })
	minus := plainSum(t, bal, func(r api.Root, val int) bool { return isFor(was, val, r) && unlike(val) })
	return plus, minus, true
}

// isSame wants nothing and false where want is nothing: no tree that may be is without nodes.
func isSame(got []uint64, fits bool, want []uint64) bool {
	return fits == (len(want) > 0) && slices.Equal(got, want)
}

// holdOwn, and all others, want nothing and false where want is nothing.
func holdOwn(t *testing.T, x api.Tree, v api.Votes, bal, want []uint64) {
	t.Helper()
	if got, fits := Own(x, v, bal); !isSame(got, fits, want) {
		t.Errorf("Own(%v, %v, %v) = %v, %v, want %v", x, v, bal, got, fits, want)
	}
}

func holdWeights(t *testing.T, x api.Tree, v api.Votes, bal, want []uint64) {
	t.Helper()
	if got, fits := Weights(x, v, bal); !isSame(got, fits, want) {
		t.Errorf("Weights(%v, %v, %v) = %v, %v, want %v", x, v, bal, got, fits, want)
	}
}

// holdOf holds the way back as well.
func holdOf(t *testing.T, x api.Tree, was, is api.Votes, bal, plus, minus []uint64) {
	t.Helper()
	more, less, fits := Of(x, was, is, bal)
	if !isSame(more, fits, plus) || !isSame(less, fits, minus) {
		t.Errorf("Of(%v, %v, %v, %v) = %v, %v, %v, want %v, %v", x, was, is, bal, more, less, fits, plus, minus)
	}
	more, less, fits = Of(x, is, was, bal)
	if !isSame(more, fits, minus) || !isSame(less, fits, plus) {
		t.Errorf("Of(%v, %v, %v, %v) = %v, %v, %v, want %v, %v", x, is, was, bal, more, less, fits, minus, plus)
	}
}

// holdPass holds P14.3: weight's Pass by what Of answers leads from the Weights of was to those of is.
func holdPass(t *testing.T, x api.Tree, was, is api.Votes, bal []uint64) {
	t.Helper()
	from, fits := Weights(x, was, bal)
	to, fit := Weights(x, is, bal)
	plus, minus, come := Of(x, was, is, bal)
	if !fits || !fit || !come {
		t.Errorf("%v, %v, %v, %v do not fit", x, was, is, bal)
		return
	}
	if got, can := weight.Pass(x, from, plus, minus); !can || !slices.Equal(got, to) {
		t.Errorf("of %v, %v, %v, %v Pass(%v, %v, %v) = %v, %v, want %v", x, was, is, bal, from, plus, minus, got, can, to)
	}
}

// holdPlain holds all calls by the plain ways.
func holdPlain(t *testing.T, x api.Tree, was, is api.Votes, bal []uint64) {
	t.Helper()
	for _, v := range []api.Votes{was, is} {
		plain, _ := plainOwn(x, v, bal)
		holdOwn(t, x, v, bal, plain)
		w, _ := plainWeights(x, v, bal)
		holdWeights(t, x, v, bal, w)
		own, _ := Own(x, v, bal)
		sub, _ := weight.Sub(x, own)
		holdWeights(t, x, v, bal, sub)
	}
	plus, minus, fits := plainOf(x, was, is, bal)
	holdOf(t, x, was, is, bal, plus, minus)
	if fits {
		holdPass(t, x, was, is, bal)
		holdPass(t, x, is, was, bal)
	}
}

// holdNone wants nothing of any call, and of Of where was alone, is alone, and both are so.
func holdNone(t *testing.T, x api.Tree, v, other api.Votes, bal []uint64) {
	t.Helper()
	holdOwn(t, x, v, bal, nil)
	holdWeights(t, x, v, bal, nil)
	holdOf(t, x, v, other, bal, nil, nil)
	holdOf(t, x, v, v, bal, nil, nil)
}

// P14.2: the chapter's example: one of balance 3, from a to b: 3 go from a, and come to b.
func TestExample(t *testing.T) {
	x := inLine(2)
	for _, epoch := range []uint64{0, 1, 2} {
		was, is := votes(on(1, 1)), votes(on(2, epoch))
		holdOf(t, x, was, is, []uint64{3}, []uint64{0, 3}, []uint64{3, 0})
		holdPass(t, x, was, is, []uint64{3})
	}
	holdOwn(t, x, votes(on(1, 1)), []uint64{3}, []uint64{3, 0})
	holdOwn(t, x, votes(on(2, 2)), []uint64{3}, []uint64{0, 3})
	holdWeights(t, x, votes(on(1, 1)), []uint64{3}, []uint64{3, 0})
	holdWeights(t, x, votes(on(2, 2)), []uint64{3}, []uint64{3, 3})
}

// P14.1: written out; each balance has a bit of its own.
func TestOwn(t *testing.T) {
	for _, c := range []struct {
		x         api.Tree
		v         api.Votes
		own, subs []uint64
	}{
		// One validator, and a tree of one node.
		{inLine(1), votes(on(1, 5)), []uint64{1}, []uint64{1}},
		{inLine(1), votes(no), []uint64{0}, []uint64{0}},
		{inLine(1), votes(on(2, 5)), []uint64{0}, []uint64{0}},
		{inLine(1), votes(onRoot(zero, 5)), []uint64{0}, []uint64{0}},
		{inLine(1), out(votes(no), 1), []uint64{0}, []uint64{0}},
		// For the first node's root, for one in between, for a leaf's.
		{inLine(3), votes(on(1, 0)), []uint64{1, 0, 0}, []uint64{1, 0, 0}},
		{inLine(3), votes(on(2, 0)), []uint64{0, 1, 0}, []uint64{1, 1, 0}},
		{inLine(3), votes(on(3, 0)), []uint64{0, 0, 1}, []uint64{1, 1, 1}},
		{inLine(3), votes(on(3, 1), on(3, 9)), []uint64{0, 0, 3}, []uint64{3, 3, 3}},
		{inLine(3), votes(on(1, 1), no, on(3, 9), on(4, 1), on(2, 0)), []uint64{1, 16, 4}, []uint64{21, 20, 4}},
		{star(3), votes(on(1, 1), no, on(3, 9), on(4, 1), on(2, 0)), []uint64{1, 16, 4}, []uint64{21, 16, 4}},
		// Eight validators, and a tree of twelve nodes.
		{bush(), alike(8, no), all(12, 0), all(12, 0)},
		{bush(), out(alike(8, no), 255), all(12, 0), all(12, 0)},
		{bush(), alike(8, on(1, 3)), at(12, 0, 255), at(12, 0, 255)},
		{bush(), alike(8, on(5, 3)), at(12, 4, 255), at(12, 0, 255, 2, 255, 4, 255)},
		{bush(), alike(8, on(10, 3)), at(12, 9, 255), at(12, 0, 255, 1, 255, 3, 255, 7, 255, 9, 255)},
		{bush(), alike(8, on(13, 3)), all(12, 0), all(12, 0)},
		{bush(), alike(8, onRoot(zero, 3)), all(12, 0), all(12, 0)},
		{bush(), apart(8), []uint64{1, 2, 4, 8, 16, 32, 64, 128, 0, 0, 0, 0}, []uint64{255, 170, 84, 136, 80, 32, 64, 128, 0, 0, 0, 0}},
		{star(12), apart(8), []uint64{1, 2, 4, 8, 16, 32, 64, 128, 0, 0, 0, 0}, []uint64{255, 2, 4, 8, 16, 32, 64, 128, 0, 0, 0, 0}},
		{inLine(12), apart(8), []uint64{1, 2, 4, 8, 16, 32, 64, 128, 0, 0, 0, 0}, []uint64{255, 254, 252, 248, 240, 224, 192, 128, 0, 0, 0, 0}},
		{inLine(12), votes(on(12, 1), on(12, last), no, on(1, 1), on(6, 0), on(6, 0), on(13, 4), on(2, 2)), at(12, 0, 8, 1, 128, 5, 48, 11, 3), []uint64{187, 179, 51, 51, 51, 51, 3, 3, 3, 3, 3, 3}},
		// One who is out has no vote, whoever else has.
		{inLine(2), out(votes(on(1, 1), no, on(2, 1)), 2), []uint64{1, 4}, []uint64{5, 4}},
		{inLine(2), out(votes(no, on(2, 1), on(2, 2)), 1), []uint64{0, 6}, []uint64{6, 6}},
		{inLine(2), out(votes(on(2, 1), on(1, 1), no), 4), []uint64{2, 1}, []uint64{3, 1}},
	} {
		bal := upTo(len(c.v.L))
		holdOwn(t, c.x, c.v, bal, c.own)
		holdWeights(t, c.x, c.v, bal, c.subs)
		// What was voted tells, not of which epoch.
		for i := range c.v.L {
			if c.v.L[i].Has {
				c.v.L[i].Epoch += 1 << 63
			}
		}
		holdOwn(t, c.x, c.v, bal, c.own)
		holdWeights(t, c.x, c.v, bal, c.subs)
	}
}

// P14.1: balances of 0, of 1 and of 2^40.
func TestOwnByBalances(t *testing.T) {
	x := inLine(3)
	v := votes(on(3, 1), on(3, 2), on(2, 1), no)
	for _, c := range []struct{ bal, own, subs []uint64 }{
		{[]uint64{0, 0, 0, 0}, []uint64{0, 0, 0}, []uint64{0, 0, 0}},
		{[]uint64{0, 0, 0, top}, []uint64{0, 0, 0}, []uint64{0, 0, 0}},
		{[]uint64{1, 1, 1, 1}, []uint64{0, 1, 2}, []uint64{3, 3, 2}},
		{[]uint64{1, 0, 1, 0}, []uint64{0, 1, 1}, []uint64{2, 2, 1}},
		{[]uint64{0, 0, 1, 0}, []uint64{0, 1, 0}, []uint64{1, 1, 0}},
		{[]uint64{top, 0, 1, top}, []uint64{0, 1, top}, []uint64{top + 1, top + 1, top}},
		{[]uint64{top, 1, 0, 0}, []uint64{0, 0, top + 1}, []uint64{top + 1, top + 1, top + 1}},
		{[]uint64{top, top, top, top}, []uint64{0, top, 2 * top}, []uint64{3 * top, 3 * top, 2 * top}},
		{[]uint64{top - 1, top - 2, 5, 7}, []uint64{0, 5, 2*top - 3}, []uint64{2*top + 2, 2*top + 2, 2*top - 3}},
	} {
		holdOwn(t, x, v, c.bal, c.own)
		holdWeights(t, x, v, c.bal, c.subs)
	}
	// All that there may be, of one node.
	eight := all(8, top)
	holdOwn(t, inLine(12), alike(8, on(12, 1)), eight, at(12, 11, 8*top))
	holdWeights(t, inLine(12), alike(8, on(12, 1)), eight, all(12, 8*top))
	holdOwn(t, inLine(12), apart(8), eight, slices.Concat(all(8, top), all(4, 0)))
	holdWeights(t, inLine(12), apart(8), eight, []uint64{8 * top, 7 * top, 6 * top, 5 * top, 4 * top, 3 * top, 2 * top, top, 0, 0, 0, 0})
	holdOf(t, inLine(12), alike(8, on(1, 1)), alike(8, on(12, 1)), eight, at(12, 11, 8*top), at(12, 0, 8*top))
	holdPass(t, inLine(12), alike(8, on(1, 1)), alike(8, on(12, 1)), eight)
	holdOwn(t, inLine(1), votes(on(1, 1)), []uint64{top}, []uint64{top})
	holdOwn(t, inLine(1), votes(on(1, 1)), []uint64{0}, []uint64{0})
	holdOf(t, inLine(1), votes(no), votes(on(1, 1)), []uint64{0}, []uint64{0}, []uint64{0})
}

// P14.1, P14.2: of each place of a tree, by each validator, alone.
func TestEachPlace(t *testing.T) {
	for _, x := range []api.Tree{inLine(1), inLine(12), star(12), bush()} {
		n := len(x.N)
		for vals := 1; vals <= 8; vals++ {
			bal := upTo(vals)
			for val := range vals {
				for i := range n {
					v := with(fresh(vals), val, onRoot(x.N[i].Root, 4))
					want := at(n, uint64(i), bal[val])
					holdOwn(t, x, v, bal, want)
					holdOf(t, x, fresh(vals), v, bal, want, all(n, 0))
					holdOf(t, x, v, v, bal, all(n, 0), all(n, 0))
				}
			}
		}
	}
}

// P14.1, P14.2: a root that no node has is nobody's, though it differs from one of a node in one byte alone.
func TestNoNodesRoot(t *testing.T) {
	for _, x := range []api.Tree{inLine(1), star(2), inLine(12), bush()} {
		n := len(x.N)
		none := all(n, 0)
		for _, r := range stray {
			v := votes(onRoot(r, 1), onRoot(r, 2))
			holdOwn(t, x, v, upTo(2), none)
			holdWeights(t, x, v, upTo(2), none)
			holdOf(t, x, fresh(2), v, upTo(2), none, none)
			holdOf(t, x, votes(on(1, 1), onRoot(r, 2)), v, upTo(2), none, at(n, 0, 1))
			holdOf(t, x, votes(on(1, 1), on(1, 2)), v, upTo(2), none, at(n, 0, 3))
		}
		for i := range x.N {
			for b := range zero {
				r := x.N[i].Root
				r[b] ^= 64
				holdOwn(t, x, votes(onRoot(r, 1)), upTo(1), none)
			}
		}
	}
}

// P14.1, P14.2: the zero root is a root as any other one, where a node has it: who voted for it counts, who has no vote does not.
func TestZeroRoot(t *testing.T) {
	for _, place := range []int{0, 1, 2} {
		x := named(inLine(3), place, zero)
		one := func(n uint64) []uint64 { return at(3, uint64(place), n) }
		none := all(3, 0)
		holdOwn(t, x, fresh(2), upTo(2), none)
		holdWeights(t, x, fresh(2), upTo(2), none)
		holdOwn(t, x, out(fresh(2), 3), upTo(2), none)
		holdOwn(t, x, votes(onRoot(zero, 0), no), upTo(2), one(1))
		holdOwn(t, x, votes(no, onRoot(zero, 0)), upTo(2), one(2))
		holdOwn(t, x, out(votes(onRoot(zero, 7), no), 2), upTo(2), one(1))
		holdOwn(t, x, votes(onRoot(zero, 0), onRoot(zero, 1)), upTo(2), one(3))
		// From no vote to one of epoch 0, and back.
		holdOf(t, x, fresh(2), votes(onRoot(zero, 0), no), upTo(2), one(1), none)
		holdOf(t, x, fresh(2), alike(2, onRoot(zero, 0)), upTo(2), one(3), none)
		holdOf(t, x, fresh(2), out(fresh(2), 2), upTo(2), none, none)
		holdOf(t, x, alike(2, onRoot(zero, 0)), out(votes(no, onRoot(zero, 0)), 1), upTo(2), none, one(1))
		holdOf(t, x, alike(2, onRoot(zero, 0)), votes(onRoot(zero, 1), onRoot(zero, 0)), upTo(2), one(1), one(1))
		// From another one's root to none, where the zero one must not have it.
		holdOf(t, x, alike(2, on(77, 3)), fresh(2), upTo(2), none, none)
	}
}

// P14.2: written out; each balance has a bit of its own.
func TestOf(t *testing.T) {
	x := inLine(4)
	base := votes(on(1, 4), on(2, 5), on(3, 6), on(4, 7))
	none := all(4, 0)
	for _, c := range []struct {
		was, is     api.Votes
		plus, minus []uint64
	}{
		// Nobody's changed.
		{base, base, none, none},
		{fresh(4), fresh(4), none, none},
		{alike(4, on(2, 5)), alike(4, on(2, 5)), none, none},
		{alike(4, on(9, 5)), alike(4, on(9, 5)), none, none},
		// All did: each one's root, each one's epoch, both; each had none, and has none any more.
		{base, votes(on(2, 4), on(3, 5), on(4, 6), on(1, 7)), []uint64{8, 1, 2, 4}, []uint64{1, 2, 4, 8}},
		{base, votes(on(1, 5), on(2, 6), on(3, 7), on(4, 8)), []uint64{1, 2, 4, 8}, []uint64{1, 2, 4, 8}},
		{base, votes(on(4, 5), on(3, 6), on(2, 7), on(1, 8)), []uint64{8, 4, 2, 1}, []uint64{1, 2, 4, 8}},
		{fresh(4), base, []uint64{1, 2, 4, 8}, none},
		{base, out(fresh(4), 15), none, []uint64{1, 2, 4, 8}},
		{base, alike(4, on(3, 9)), []uint64{0, 0, 15, 0}, []uint64{1, 2, 4, 8}},
		{alike(4, on(2, 9)), alike(4, on(2, 8)), []uint64{0, 15, 0, 0}, []uint64{0, 15, 0, 0}},
		// One's root alone.
		{base, with(base, 0, on(2, 4)), []uint64{0, 1, 0, 0}, []uint64{1, 0, 0, 0}},
		{base, with(base, 1, on(4, 5)), []uint64{0, 0, 0, 2}, []uint64{0, 2, 0, 0}},
		{base, with(base, 3, on(1, 7)), []uint64{8, 0, 0, 0}, []uint64{0, 0, 0, 8}},
		{base, with(base, 2, on(9, 6)), none, []uint64{0, 0, 4, 0}},
		{base, with(base, 2, onRoot(zero, 6)), none, []uint64{0, 0, 4, 0}},
		// One's epoch alone: as much goes as comes.
		{base, with(base, 0, on(1, 5)), []uint64{1, 0, 0, 0}, []uint64{1, 0, 0, 0}},
		{base, with(base, 1, on(2, 4)), []uint64{0, 2, 0, 0}, []uint64{0, 2, 0, 0}},
		{base, with(base, 2, on(3, 6+1<<32)), []uint64{0, 0, 4, 0}, []uint64{0, 0, 4, 0}},
		{base, with(base, 3, on(4, 7+1<<63)), []uint64{0, 0, 0, 8}, []uint64{0, 0, 0, 8}},
		{base, with(base, 3, on(4, 0)), []uint64{0, 0, 0, 8}, []uint64{0, 0, 0, 8}},
		// Both.
		{base, with(base, 0, on(3, 5)), []uint64{0, 0, 1, 0}, []uint64{1, 0, 0, 0}},
		{base, with(base, 3, on(3, 8)), []uint64{0, 0, 8, 0}, []uint64{0, 0, 0, 8}},
		{base, with(base, 2, on(9, 7)), none, []uint64{0, 0, 4, 0}},
		// One had none before, whether it is out or not.
		{with(base, 1, no), base, []uint64{0, 2, 0, 0}, none},
		{out(with(base, 1, no), 2), base, []uint64{0, 2, 0, 0}, none},
		{with(base, 1, no), with(base, 1, on(4, 0)), []uint64{0, 0, 0, 2}, none},
		{with(base, 1, no), with(base, 1, on(9, 5)), none, none},
		{with(base, 1, no), with(base, 1, onRoot(zero, 0)), none, none},
		// One has none any more.
		{base, with(base, 2, no), none, []uint64{0, 0, 4, 0}},
		{base, out(with(base, 2, no), 4), none, []uint64{0, 0, 4, 0}},
		{with(base, 2, on(9, 6)), out(with(base, 2, no), 4), none, none},
		// One goes from a root, and another one's comes to it.
		{votes(on(1, 1), on(2, 1), no, no), votes(on(3, 1), on(1, 1), no, no), []uint64{2, 0, 1, 0}, []uint64{1, 2, 0, 0}},
		{votes(on(1, 1), on(2, 1), no, no), votes(on(2, 1), on(1, 1), no, no), []uint64{2, 1, 0, 0}, []uint64{1, 2, 0, 0}},
		{votes(on(3, 1), no, on(3, 1), no), votes(no, on(3, 1), on(3, 1), no), []uint64{0, 0, 2, 0}, []uint64{0, 0, 1, 0}},
		{votes(on(3, 1), no, no, on(1, 2)), votes(no, on(3, 1), no, on(3, 2)), []uint64{0, 0, 10, 0}, []uint64{8, 0, 1, 0}},
		{votes(on(9, 1), on(1, 1), no, no), votes(on(1, 1), on(9, 1), no, no), []uint64{1, 0, 0, 0}, []uint64{2, 0, 0, 0}},
		// Who is out tells nothing by itself.
		{fresh(4), out(fresh(4), 15), none, none},
		{with(base, 0, no), out(with(base, 0, no), 1), none, none},
		{out(fresh(4), 5), out(fresh(4), 10), none, none},
	} {
		holdOf(t, x, c.was, c.is, upTo(4), c.plus, c.minus)
		holdPass(t, x, c.was, c.is, upTo(4))
		holdPass(t, x, c.is, c.was, upTo(4))
	}
}

// P14.2: each validator's place of eight, whether its vote's root, epoch, both, or all of it changed, among those that stayed.
func TestOfEachValidator(t *testing.T) {
	x := bush()
	for n := 1; n <= 8; n++ {
		bal := upTo(n)
		for val := range n {
			old := apart(n)
			i, b, none := uint64(val), bal[val], all(12, 0)
			k := uint64(val+5) % 12
			for _, epoch := range []uint64{0, 1, 7*i + 1, 7*i + 1<<8, 7*i + 1<<32, 7*i + 1<<63, last} {
				if epoch == 7*i {
					continue
				}
				holdOf(t, x, old, with(old, val, on(val+1, epoch)), bal, at(12, i, b), at(12, i, b))
				holdOf(t, x, old, with(old, val, on(int(k)+1, epoch)), bal, at(12, k, b), at(12, i, b))
			}
			holdOf(t, x, old, with(old, val, on(int(k)+1, 7*i)), bal, at(12, k, b), at(12, i, b))
			holdOf(t, x, old, with(old, val, no), bal, none, at(12, i, b))
			holdOf(t, x, old, out(with(old, val, no), 1<<val), bal, none, at(12, i, b))
			holdOf(t, x, old, with(old, val, on(77, 7*i)), bal, none, at(12, i, b))
		}
	}
}

// P14.2: where a root differs in one byte alone, it is another one; where two nodes' roots do, each has its own.
func TestOfNearRoots(t *testing.T) {
	for b := range zero {
		near := name(2)
		near[b] ^= 1
		x := named(inLine(3), 2, near)
		holdOwn(t, x, votes(on(2, 1), onRoot(near, 1)), upTo(2), []uint64{0, 1, 2})
		holdOf(t, x, votes(on(2, 1), no), votes(onRoot(near, 1), no), upTo(2), []uint64{0, 0, 1}, []uint64{0, 1, 0})
		holdOf(t, inLine(3), votes(on(2, 1), no), votes(onRoot(near, 1), no), upTo(2), all(3, 0), []uint64{0, 1, 0})
	}
}

// trees that may be.
func goodTrees() []api.Tree {
	l := []api.Tree{bush(), named(bush(), 4, zero), {N: []api.Node{{Parent: -1}}}, {N: []api.Node{{Root: name(1), Parent: -1, Slot: top, Just: last}}}}
	for n := 1; n <= 12; n++ {
		l = append(l, inLine(n), star(n))
	}
	return l
}

// badTrees may not be for one thing alone.
func badTrees() []api.Tree {
	l := []api.Tree{{}, {N: []api.Node{}}, {N: make([]api.Node, 0, 12)}, inLine(13), star(13), inLine(300)}
	for _, x := range []api.Tree{inLine(1), inLine(3), bush()} {
		for _, p := range []int{0, 1, -2, least, greatest} {
			l = append(l, changed(x, 0, func(n *api.Node) { n.Parent = p }))
		}
		for i := range x.N {
			l = append(l, changed(x, i, func(n *api.Node) { n.Slot = top + 1 }), changed(x, i, func(n *api.Node) { n.Slot = last }))
			if i > 0 {
				l = append(l, named(x, i, name(1)), changed(x, i, func(n *api.Node) { n.Parent = i }), changed(x, i, func(n *api.Node) { n.Parent = -1 }), changed(x, i, func(n *api.Node) { n.Slot = 49999 }))
			}
		}
	}
	return l
}

// goodVotes are of so many.
func goodVotes(n int) []api.Votes {
	whole := uint64(1)<<n - 1
	l := []api.Votes{fresh(n), apart(n), alike(n, on(1, 2)), alike(n, on(2, 3)), alike(n, onRoot(zero, 0)), out(fresh(n), whole), out(with(apart(n), n-1, no), 1<<(n-1))}
	for _, r := range stray {
		l = append(l, with(apart(n), n/2, onRoot(r, last)))
	}
	return l
}

// badVotes are of so many, and may not be for one thing alone.
func badVotes(n int) []api.Votes {
	l := []api.Votes{out(apart(n), 1), out(apart(n), 1<<(n-1)), out(fresh(n), 1<<n), out(fresh(n), 1<<63), out(apart(n), last), out(apart(n), 256)}
	for i := range n {
		for _, x := range []api.Latest{{Root: name(1)}, {Root: api.Root{31: 1}}, {Epoch: 1}, {Root: name(1), Epoch: 1}, {Epoch: last}} {
			l = append(l, with(fresh(n), i, x), with(apart(n), i, x))
		}
		l = append(l, out(with(fresh(n), i, on(1, 1)), 1<<i))
	}
	return l
}

// badBalances are as many as that, and may not be for one thing alone.
func badBalances(n int) [][]uint64 {
	var l [][]uint64
	for i := range n {
		for _, x := range []uint64{top + 1, 2 * top, 1 << 63, last} {
			l = append(l, at(n, uint64(i), x))
			l = append(l, slices.Concat(upTo(i), []uint64{x}, all(n-i-1, 1)))
		}
	}
	return l
}

// P14.1, P14.2: of a tree that may not be.
func TestTreeMayNotBe(t *testing.T) {
	for _, x := range badTrees() {
		for n := 1; n <= 8; n++ {
			for _, v := range goodVotes(n) {
				holdNone(t, x, v, apart(n), upTo(n))
				holdNone(t, x, v, fresh(n), all(n, 0))
			}
		}
	}
}

// P14.1, P14.2: of votes that may not be: was alone, is alone, and both.
func TestVotesMayNotBe(t *testing.T) {
	for _, x := range goodTrees() {
		for n := 1; n <= 8; n++ {
			for i, v := range badVotes(n) {
				holdNone(t, x, v, apart(n), upTo(n))
				holdNone(t, x, v, fresh(n), all(n, 0))
				// Both, of two kinds.
				w := badVotes(n)[(i+3)%len(badVotes(n))]
				holdOf(t, x, v, w, upTo(n), nil, nil)
			}
		}
		for _, v := range []api.Votes{{}, {L: []api.Latest{}}, {Out: 1}, fresh(9), apart(9), apart(64), alike(9, on(1, 1)), alike(257, on(1, 1))} {
			n := len(v.L)
			holdNone(t, x, v, apart(8), upTo(8))
			holdNone(t, x, v, apart(1), upTo(1))
			// As many balances: then these may not be either.
			holdNone(t, x, v, v, all(n, 1))
			holdNone(t, x, v, apart(8), all(n, 1))
		}
	}
}

// P14.1, P14.2: of balances that may not be.
func TestBalancesMayNotBe(t *testing.T) {
	for _, x := range goodTrees() {
		for n := 1; n <= 8; n++ {
			for _, bal := range badBalances(n) {
				for _, v := range []api.Votes{fresh(n), apart(n), alike(n, on(1, 2))} {
					holdNone(t, x, v, apart(n), bal)
				}
			}
		}
	}
}

// P14.1, P14.2: one balance more, and one less, than there are votes, and other numbers of them, and none; was alone, is alone, and both.
func TestHowManyBalances(t *testing.T) {
	for _, x := range goodTrees() {
		for n := 1; n <= 8; n++ {
			for k := range 11 {
				bal := all(k, 1)
				if k == n {
					if own, fits := Own(x, apart(n), bal); !fits || len(own) != len(x.N) {
						t.Errorf("Own of %d and %d = %v, %v", n, k, own, fits)
					}
					continue
				}
				holdNone(t, x, apart(n), fresh(n), bal)
				holdNone(t, x, fresh(n), apart(n), bal)
				if 1 <= k && k <= 8 {
					holdNone(t, x, apart(n), apart(k), bal)
					holdNone(t, x, fresh(n), fresh(k), bal)
				}
			}
			holdNone(t, x, apart(n), apart(n), nil)
			holdNone(t, x, apart(n), apart(n), []uint64{})
			holdNone(t, x, apart(n), apart(n), all(n, 1)[:n-1])
		}
		// One longer than the other one, by one that has no vote.
		holdOf(t, x, votes(on(1, 1)), votes(on(1, 1), no), upTo(1), nil, nil)
		holdOf(t, x, votes(on(1, 1)), votes(on(1, 1), no), upTo(2), nil, nil)
	}
}

// P14.1, P14.2: two things that do not fit are no better than one, nor are three.
func TestTwoThatDoNotFit(t *testing.T) {
	for n := 1; n <= 8; n++ {
		good, bad := []api.Votes{apart(n), fresh(n)}, badVotes(n)
		bals := slices.Concat(badBalances(n), [][]uint64{nil, all(n-1, 1), all(n+1, 1), all(n+1, last)})
		for i, x := range badTrees() {
			v, bal := bad[i%len(bad)], bals[(i*5+1)%len(bals)]
			holdNone(t, x, v, apart(n), upTo(n))
			holdNone(t, x, good[i%2], apart(n), bal)
			holdNone(t, x, v, apart(n), bal)
			holdNone(t, x, v, bad[(i+7)%len(bad)], bal)
		}
		for i, v := range bad {
			for _, bal := range bals {
				x := goodTrees()[i%len(goodTrees())]
				holdNone(t, x, v, apart(n), bal)
				holdNone(t, x, v, bad[(i+1)%len(bad)], bal)
			}
		}
	}
	for _, x := range slices.Concat(goodTrees(), badTrees()) {
		holdNone(t, x, api.Votes{}, api.Votes{}, nil)
		holdNone(t, x, api.Votes{}, fresh(1), nil)
		holdNone(t, x, fresh(9), fresh(9), all(9, 1))
		holdNone(t, x, fresh(9), fresh(9), nil)
		holdNone(t, x, fresh(9), fresh(8), all(9, last))
	}
}

// shapes are all trees of so many nodes, by their parents.
func shapes(n int) []api.Tree {
	lists := [][]int{{-1}}
	for i := 1; i < n; i++ {
		var next [][]int
		for _, l := range lists {
			for p := range i {
				next = append(next, slices.Concat(l, []int{p}))
			}
		}
		lists = next
	}
	var l []api.Tree
	for _, parents := range lists {
		l = append(l, grown(parents...))
	}
	return l
}

// small are all votes of so many, of one of a few parts each, whether they may be or not.
func small(n int, from []api.Latest) []api.Votes {
	l := []api.Votes{{}}
	for range n {
		var next []api.Votes
		for _, v := range l {
			for _, x := range from {
				next = append(next, votes(append(slices.Clone(v.L), x)...))
			}
		}
		l = next
	}
	var each []api.Votes
	for _, v := range l {
		for mask := range uint64(1) << (n + 1) {
			each = append(each, out(v, mask))
		}
	}
	return each
}

// P14.1 to P14.3: of all votes of up to two, held against all others, by the plain ways, on trees of which one has the zero root.
func TestAllSmall(t *testing.T) {
	trees := []api.Tree{inLine(2), named(inLine(2), 0, zero), named(inLine(2), 1, zero), {}}
	one := []api.Latest{no, onRoot(zero, 0), on(1, 0), on(2, 0), on(1, 1), on(9, 1), {Root: name(1)}, {Epoch: 1}}
	two := []api.Latest{no, onRoot(zero, 0), on(1, 0), on(2, 1), {Epoch: 1}}
	for _, l := range [][]api.Votes{small(0, one), small(1, one), small(2, two)} {
		for i, was := range l {
			for k, is := range l {
				x := trees[(i+k)%len(trees)]
				holdPlain(t, x, was, is, upTo(len(was.L)))
			}
		}
	}
	for i, was := range slices.Concat(small(0, one), small(1, one)) {
		for k, is := range small(2, two) {
			holdPlain(t, trees[(i+k)%3], was, is, upTo((i+k)%3))
		}
	}
}

// P14.1 to P14.3: of all trees of up to five nodes, by the plain ways.
func TestAllShapes(t *testing.T) {
	chance := rand.New(rand.NewSource(141))
	for n := 1; n <= 5; n++ {
		for _, x := range shapes(n) {
			for i := range n {
				y := named(x, i, zero)
				vals := 1 + chance.Intn(8)
				holdPlain(t, y, mixed(chance, y, vals), mixed(chance, y, vals), upTo(vals))
			}
			for vals := 1; vals <= 8; vals++ {
				was := mixed(chance, x, vals)
				holdPlain(t, x, was, mixed(chance, x, vals), upTo(vals))
				holdPlain(t, x, was, moved(chance, x, was), upTo(vals))
			}
		}
	}
}

func someVote(chance *rand.Rand, x api.Tree) api.Latest {
	r := x.N[chance.Intn(len(x.N))].Root
	if chance.Intn(5) == 0 {
		r = stray[chance.Intn(len(stray))]
	}
	epochs := []uint64{0, 1, 2, 3, 1 << 63, last}
	return onRoot(r, epochs[chance.Intn(len(epochs))])
}

// mixed are votes by chance that may be, for nodes of a tree, and for no node, the same for the same chance.
func mixed(chance *rand.Rand, x api.Tree, n int) api.Votes {
	v := fresh(n)
	for i := range v.L {
		switch chance.Intn(6) {
		case 0:
		case 1:
			v.Out |= 1 << i
		default:
			v.L[i] = someVote(chance, x)
		}
	}
	return v
}

// moved are the votes with some of them changed in a part, by vote's own calls, too.
func moved(chance *rand.Rand, x api.Tree, v api.Votes) api.Votes {
	v = clone(v)
	for i := range v.L {
		next := someVote(chance, x)
		switch chance.Intn(6) {
		case 0:
			v, _, _ = vote.Put(v, i, next.Root, next.Epoch)
		case 1:
			if v.L[i].Has {
				v.L[i].Root = next.Root
			}
		case 2:
			if v.L[i].Has {
				v.L[i].Epoch = next.Epoch
			}
		case 3:
			v = vote.Drop(v, []api.Root{next.Root, x.N[0].Root, x.N[len(x.N)-1].Root})
		}
	}
	return v
}

// byChance is a tree of so many nodes, the same for the same chance. A parent is at most so many places ahead: the fewer these are, the deeper the tree.
func byChance(chance *rand.Rand, n, ahead int) api.Tree {
	parents := []int{-1}
	for i := 1; i < n; i++ {
		parents = append(parents, i-1-chance.Intn(min(i, ahead)))
	}
	x := grown(parents...)
	if chance.Intn(3) == 0 {
		x = named(x, chance.Intn(n), zero)
	}
	return x
}

func someBalances(chance *rand.Rand, n int) []uint64 {
	l := all(n, 0)
	for i := range l {
		from := []uint64{0, 1, 2, uint64(chance.Intn(1000)), top - 1, top}
		l[i] = from[chance.Intn(len(from))]
	}
	return l
}

// P14.1 to P14.3: of many, by the plain ways, also where something does not fit.
func TestMany(t *testing.T) {
	chance := rand.New(rand.NewSource(142))
	for i := range 6000 {
		x := byChance(chance, 1+chance.Intn(12), 1+chance.Intn(12))
		n := 1 + chance.Intn(8)
		was := mixed(chance, x, n)
		is := moved(chance, x, was)
		if i%3 == 0 {
			is = mixed(chance, x, n)
		}
		bal := someBalances(chance, n)
		switch i % 12 {
		case 4:
			is.Out ^= 1 << chance.Intn(9)
		case 5:
			bal[chance.Intn(n)] += uint64(chance.Intn(3))
		case 7:
			was = mixed(chance, x, 1+chance.Intn(9))
		case 8:
			bal = someBalances(chance, chance.Intn(10))
		case 10:
			x.N[chance.Intn(len(x.N))].Parent += chance.Intn(3) - 1
		}
		holdPlain(t, x, was, is, bal)
	}
}

// P14.3: from no vote on, by what each vote that is put brings and takes, one comes to the Weights of what is, at each step, and so at the end.
func TestPassOnAndOn(t *testing.T) {
	chance := rand.New(rand.NewSource(143))
	for range 150 {
		x := byChance(chance, 12, 1+chance.Intn(12))
		n := 1 + chance.Intn(8)
		bal := someBalances(chance, n)
		v, w := fresh(n), all(12, 0)
		for range 40 {
			next := moved(chance, x, v)
			plus, minus, fits := Of(x, v, next, bal)
			got, can := weight.Pass(x, w, plus, minus)
			if !fits || !can {
				t.Fatalf("Of(%v, %v, %v, %v) = %v, %v, %v; Pass of %v: %v", x, v, next, bal, plus, minus, fits, w, can)
			}
			v, w = next, got
			holdWeights(t, x, v, bal, w)
		}
	}
}

// around lays a list into another one, so that there is something ahead of it and behind it.
func around[E any](l []E, mark E) (whole, piece []E) {
	whole = slices.Concat([]E{mark, mark}, l, []E{mark, mark})
	return whole, whole[2 : 2+len(l)]
}

// spoil changes all that can be reached from a list.
func spoil[E any](l []E, mark E) {
	l = l[:cap(l)]
	for i := range l {
		l[i] = mark
	}
}

// handed is what is handed in, each list as a piece of a longer one, and a copy of it.
type handed struct {
	nodes, oldNodes       []api.Node
	was, oldWas, is, oldI []api.Latest
	bal, oldBal           []uint64
	x                     api.Tree
	before, after         api.Votes
	bals                  []uint64
}

func hand(x api.Tree, was, is api.Votes, bal []uint64) *handed {
	h := &handed{x: x, before: was, after: is}
	h.nodes, h.x.N = around(x.N, api.Node{Root: name(99), Parent: 99})
	h.was, h.before.L = around(was.L, on(98, 98))
	h.is, h.after.L = around(is.L, on(97, 97))
	h.bal, h.bals = around(bal, 96)
	h.oldNodes, h.oldWas, h.oldI, h.oldBal = slices.Clone(h.nodes), slices.Clone(h.was), slices.Clone(h.is), slices.Clone(h.bal)
	return h
}

// stays tells whether all is as it was handed in, around it too.
func (h *handed) stays() bool {
	return slices.Equal(h.nodes, h.oldNodes) && slices.Equal(h.was, h.oldWas) && slices.Equal(h.is, h.oldI) && slices.Equal(h.bal, h.oldBal)
}

func (h *handed) spoil() {
	spoil(h.nodes, api.Node{Root: name(42)})
	spoil(h.was, on(42, 42))
	spoil(h.is, on(41, 41))
	spoil(h.bal, 4242)
}

// answers are all that the calls answer of it, in a list.
func (h *handed) answers() [][]uint64 {
	own, _ := Own(h.x, h.before, h.bals)
	w, _ := Weights(h.x, h.before, h.bals)
	plus, minus, _ := Of(h.x, h.before, h.after, h.bals)
	return [][]uint64{own, w, plus, minus}
}

// R3: what is handed in stays as it was, also when what was answered is changed later; what was answered stays when what was handed in, or another answer, is changed.
func TestHandedInStays(t *testing.T) {
	chance := rand.New(rand.NewSource(144))
	for i := range 300 {
		x := byChance(chance, 1+chance.Intn(12), 12)
		n := 1 + chance.Intn(8)
		was := mixed(chance, x, n)
		is := moved(chance, x, was)
		if i%5 == 0 {
			is = fresh(n + 1)
		}
		h := hand(x, was, is, upTo(n))
		l := h.answers()
		if !h.stays() {
			t.Fatalf("%v, %v, %v was handed in, and is changed", x, was, is)
		}
		for k := range l {
			var others [][]uint64
			for _, o := range l {
				others = append(others, slices.Clone(o))
			}
			spoil(l[k], 777)
			for m := range l {
				if m != k && !slices.Equal(l[m], others[m]) {
					t.Fatalf("answer %d is changed, and answer %d with it", k, m)
				}
			}
		}
		if !h.stays() {
			t.Fatalf("%v, %v, %v was handed in, and is changed with its answers", x, was, is)
		}
		l = h.answers()
		again := h.answers()
		h.spoil()
		for k := range l {
			if !slices.Equal(l[k], again[k]) {
				t.Fatalf("answer %d is changed with what was handed in", k)
			}
		}
	}
}

// P1: whoever ranges over votes may stop at any of them.
func TestNewsMayStop(t *testing.T) {
	v := with(apart(8), 3, no)
	for stop := range 7 {
		var l []uint64
		for _, bal := range news(fresh(8), v, upTo(8)) {
			l = append(l, bal)
			if len(l) > stop {
				break
			}
		}
		if !slices.Equal(l, []uint64{1, 2, 4, 16, 32, 64, 128}[:stop+1]) {
			t.Error(stop, l)
		}
	}
}

// R3: one list of votes handed in twice is read only, and plus and minus are apart though they are alike.
func TestOneListTwice(t *testing.T) {
	x, v := inLine(3), votes(on(1, 1), on(3, 2))
	plus, minus, fits := Of(x, v, v, upTo(2))
	if !fits || !slices.Equal(plus, all(3, 0)) || !slices.Equal(minus, all(3, 0)) {
		t.Error(plus, minus, fits)
	}
	plus[0], plus[1], plus[2] = 5, 6, 7
	if !slices.Equal(minus, all(3, 0)) {
		t.Error(minus)
	}
	holdOf(t, x, v, v, upTo(2), all(3, 0), all(3, 0))
	holdOwn(t, x, v, upTo(2), []uint64{1, 0, 2})
}

// R5: each call answers the same again, whatever was asked between.
func TestAskedAgain(t *testing.T) {
	x, was, is := inLine(3), votes(on(1, 1), on(3, 1)), votes(on(1, 1), on(2, 1))
	for range 50 {
		holdOwn(t, x, was, upTo(2), []uint64{1, 0, 2})
		holdOwn(t, x, is, []uint64{5, 6}, []uint64{5, 6, 0})
		holdOf(t, x, was, is, upTo(2), []uint64{0, 2, 0}, []uint64{0, 0, 2})
		holdOf(t, x, was, is, []uint64{1, top}, []uint64{0, top, 0}, []uint64{0, 0, top})
		holdWeights(t, x, was, upTo(2), []uint64{3, 2, 2})
		holdWeights(t, star(3), was, upTo(2), []uint64{3, 0, 2})
		holdWeights(t, api.Tree{}, was, upTo(2), nil)
	}
}

// P1: very many nodes, votes and balances.
func TestVeryMany(t *testing.T) {
	const n = 300000
	x, v, bal := inLine(n), alike(n, on(1, 1)), all(n, 1)
	holdNone(t, x, v, v, bal)
	holdNone(t, x, apart(8), apart(8), upTo(8))
	holdNone(t, bush(), v, apart(8), upTo(8))
	holdNone(t, bush(), apart(8), v, bal)
	holdNone(t, bush(), v, v, bal)
}

// parentsOf makes a tree of a byte a node, whose first one may have the zero root.
func parentsOf(in []byte) api.Tree {
	var parents []int
	for _, p := range in {
		parents = append(parents, int(int8(p)))
	}
	x := grown(parents...)
	if len(in)%2 == 0 && len(in) > 0 {
		x.N[0].Root = zero
	}
	return x
}

// votesOf are one of each three bytes: how it is, the root's name, and its epoch.
func votesOf(in []byte) api.Votes {
	var v api.Votes
	for ; len(in) >= 3; in = in[3:] {
		l := api.Latest{Has: in[0]%4 != 0, Root: name(int(in[1] % 14)), Epoch: uint64(int64(int8(in[2])))}
		if in[0]%8 < 2 {
			l = no
		}
		v.L = append(v.L, l)
	}
	return v
}

// few are so many votes that may be.
func few(v api.Votes, n int, mask uint64) api.Votes {
	v.L = append(slices.Clone(v.L), make([]api.Latest, n)...)[:n]
	v.Out = mask & (1<<n - 1)
	for i := range v.L {
		if !v.L[i].Has || v.Out>>i&1 == 1 {
			v.L[i] = no
		}
	}
	return v
}

// P1, P14.1 to P14.3: whatever the tree, the votes, and the balances.
func FuzzDelta(f *testing.F) {
	f.Add([]byte{}, []byte{}, []byte{}, uint64(0), []byte{})
	f.Add([]byte{255, 0}, []byte("\x05\x01\x00"), []byte("\x05\x02\x00"), uint64(0), []byte("\x03\x00\x00\x00\x00\x00\x00\x00"))
	f.Add([]byte{255, 0, 1}, []byte("\x05\x01\x00\x00\x00\x00"), []byte("\x05\x02\x01\x05\x03\x00"), uint64(2), []byte("\x03\x00\x00\x00\x00\x00\x00\x00\x03\x00\x00\x00\x00\x01\x00\x00"))
	f.Add([]byte{255, 0, 0, 1, 2, 3, 4, 5, 6, 7, 8, 9}, []byte("\x05\x01\x00\x06\x02\x01\x07\x03\x02"), []byte("\x05\x01\x00\x06\x02\x02\x07\x04\x02"), uint64(9), []byte("123456\x00\x00"))
	f.Fuzz(func(t *testing.T, in, before, after []byte, mask uint64, numbers []byte) {
		x, was, is := parentsOf(in), votesOf(before), votesOf(after)
		var bal []uint64
		for b := numbers; len(b) >= 8; b = b[8:] {
			bal = append(bal, binary.LittleEndian.Uint64(b))
		}
		holdPlain(t, x, was, is, bal)
		holdPlain(t, x, out(was, mask), out(is, mask%256), bal)
		// The same, as many as fit, of balances that may be.
		n := 1 + int(mask%8)
		for i := range bal {
			bal[i] %= top + 1
		}
		bal = append(bal, upTo(n)...)[:n]
		was, is = few(was, n, mask>>3), few(is, n, mask>>11)
		holdPlain(t, x, was, is, bal)
		if tree.May(x) {
			holdPass(t, x, was, is, bal)
			holdPlain(t, x, was, was, bal)
		}
		holdPlain(t, bush(), was, is, bal)
		holdPass(t, bush(), was, is, bal)
	})
}
