package final

import (
	"bytes"
	"math"
	"math/rand"
	"slices"
	"testing"

	"areopagus/api"
	"areopagus/link"
	"areopagus/stake"
	"areopagus/tree"
)

const (
	last = uint64(math.MaxUint64)
	half = uint64(1) << 63
)

var zero = api.Root{}

// name hangs on its number at both ends, so that half of a root is not taken for it; of two the one of the greater number is the greater one.
func name(n int) api.Root { return api.Root{byte(n), 15: byte(n), 31: byte(n)} }

func check(epoch uint64, n int) api.Check { return api.Check{Epoch: epoch, Root: name(n)} }

func checks(l ...api.Check) []api.Check { return l }

func by(mask uint64, s, t api.Check) api.Link { return api.Link{S: s, T: t, Mask: mask} }

func links(l ...api.Link) []api.Link { return l }

// treeOf has a node for each parent, the first one of root name(1), the next one of name(2), and so on.
func treeOf(parents ...int) api.Tree {
	var t api.Tree
	for i, p := range parents {
		t.N = append(t.N, api.Node{Root: name(i + 1), Parent: p, Slot: uint64(4 * i)})
	}
	return t
}

// fork is 1, 2 behind it, and 3 behind that; and 4 behind 1.
func fork() api.Tree { return treeOf(-1, 0, 1, 0) }

// row is so many nodes, each behind the one before.
func row(n int) api.Tree {
	var parents []int
	for i := range n {
		parents = append(parents, i-1)
	}
	return treeOf(parents...)
}

// three have a third each, so that 3, 5 and 6 are two thirds, and 1, 2 and 4 are not.
func three() []uint64 { return []uint64{1, 1, 1} }

// steps are so many links by all of three, from epoch 0 of root 1 to epoch 1 of root 2, and so on.
func steps(n int) []api.Link {
	var l []api.Link
	for i := range n {
		l = append(l, by(7, check(uint64(i), i+1), check(uint64(i+1), i+2)))
	}
	return l
}

// stops are the checkpoints of so many steps, the first one too.
func stops(n int) []api.Check {
	var l []api.Check
	for i := range n + 1 {
		l = append(l, check(uint64(i), i+1))
	}
	return l
}

func with[E any](l []E, i int, e E) []E {
	l = slices.Clone(l)
	l[i] = e
	return l
}

func behind[E any](l []E, e ...E) []E { return append(slices.Clone(l), e...) }

func reversed[E any](l []E) []E {
	l = slices.Clone(l)
	slices.Reverse(l)
	return l
}

// noted are the same nodes with another one at a place.
func noted(t api.Tree, i int, change func(*api.Node)) api.Tree {
	n := t.N[i]
	change(&n)
	return api.Tree{N: with(t.N, i, n)}
}

// ground is what a case is told of.
type ground struct {
	t   api.Tree
	l   []api.Link
	bal []uint64
}

func (g ground) clone() ground {
	return ground{api.Tree{N: slices.Clone(g.t.N)}, slices.Clone(g.l), slices.Clone(g.bal)}
}

func (g ground) same(o ground) bool {
	return slices.Equal(g.t.N, o.t.N) && slices.Equal(g.l, o.l) && slices.Equal(g.bal, o.bal)
}

func badTrees() []api.Tree {
	return []api.Tree{
		{},
		{N: []api.Node{}},
		row(13),
		treeOf(0, 0, 1, 0),
		treeOf(-1, 0, 1, 3),
		treeOf(-1, 0, 1, -1),
		treeOf(-1, 0, 2, 0),
		noted(fork(), 3, func(n *api.Node) { n.Root = name(1) }),
		noted(fork(), 3, func(n *api.Node) { n.Root = name(3) }),
		noted(fork(), 3, func(n *api.Node) { n.Slot = 1<<40 + 1 }),
		noted(fork(), 3, func(n *api.Node) { n.Slot = 0 }),
		noted(fork(), 2, func(n *api.Node) { n.Slot = 4 }),
	}
}

// badLinks are those of which each would justify all, but for what may not be.
func badLinks() [][]api.Link {
	l := steps(3)
	out := [][]api.Link{
		behind(l, l[0]),
		behind(l, by(1, l[2].S, l[2].T)),
		behind(l, by(0, check(1, 1), check(5, 2))),
		behind(l, by(256, check(1, 1), check(5, 2))),
		behind(l, by(half|7, check(1, 1), check(5, 2))),
		behind(l, by(7, check(5, 1), check(5, 2))),
		behind(l, by(7, check(5, 1), check(4, 2))),
		behind(l, by(7, check(last, 1), check(0, 2))),
		behind(l, api.Link{}),
	}
	for i := range 14 {
		l = behind(l, by(1, check(0, 1), check(uint64(20+i), 2)))
	}
	out = append(out, l)
	for _, x := range slices.Clone(out) {
		out = append(out, reversed(x))
	}
	return out
}

func badBalances() [][]uint64 {
	return [][]uint64{
		nil,
		{},
		slices.Repeat([]uint64{1}, 9),
		{1, 1, 1, 1<<40 + 1},
		{1<<40 + 1, 1, 1},
		{last, last, last},
		{1, 1, last},
	}
}

// mayNotBe are grounds that may not be told by one part alone.
func mayNotBe() []ground {
	var out []ground
	for _, t := range badTrees() {
		out = append(out, ground{t, steps(2), three()})
	}
	for _, l := range badLinks() {
		out = append(out, ground{row(4), l, three()})
	}
	for _, bal := range badBalances() {
		out = append(out, ground{fork(), steps(2), bal})
	}
	return append(out, ground{}, ground{t: fork()}, ground{t: fork(), l: steps(17)}, ground{row(13), steps(17), nil})
}

// plainBehind goes up from a node's place by parents; it, and all plain ways, are the tests' own, by the words.
func plainBehind(t api.Tree, c, front api.Check) bool {
	if !tree.May(t) {
		return false
	}
	at := slices.IndexFunc(t.N, func(n api.Node) bool { return n.Root == c.Root })
	for ; at >= 0; at = t.N[at].Parent {
		if t.N[at].Root == front.Root {
			return true
		}
	}
	return false
}

func plainMost(bal []uint64, mask uint64) bool {
	var some, total uint64
	for v, b := range bal {
		total += b
		if mask>>v&1 == 1 {
			some += b
		}
	}
	return 3*some >= 2*total
}

func plainTold(g ground) bool { return tree.May(g.t) && link.May(g.l) && stake.May(g.bal) }

func plainCounts(g ground, k api.Link) bool {
	return plainBehind(g.t, k.T, k.S) && plainMost(g.bal, k.Mask)
}

func plainMore(g ground, js []api.Check) []api.Check {
	out := append([]api.Check(nil), js...)
	for plainTold(g) {
		i := slices.IndexFunc(g.l, func(k api.Link) bool {
			return slices.Contains(out, k.S) && !slices.Contains(out, k.T) && plainCounts(g, k)
		})
		if i < 0 {
			break
		}
		out = append(out, g.l[i].T)
	}
	return out
}

func plainFinals(g ground, js []api.Check) []api.Check {
	var out []api.Check
	for _, c := range js {
		if plainTold(g) && slices.ContainsFunc(g.l, func(k api.Link) bool {
			return k.S == c && k.T.Epoch == c.Epoch+1 && slices.Contains(js, k.T) && plainCounts(g, k)
		}) {
			out = append(out, c)
		}
	}
	return out
}

// plainBest is the better one of all, each held against each other one.
func plainBest(l []api.Check) api.Check {
	for _, c := range l {
		if !slices.ContainsFunc(l, func(o api.Check) bool {
			return o.Epoch > c.Epoch || o.Epoch == c.Epoch && bytes.Compare(o.Root[:], c.Root[:]) > 0
		}) {
			return c
		}
	}
	panic("none")
}

func plainNext(g ground, js []api.Check, fin api.Check) api.Check {
	l := checks(fin)
	for _, c := range plainFinals(g, js) {
		if plainBehind(g.t, c, fin) && c.Epoch > fin.Epoch {
			l = append(l, c)
		}
	}
	return plainBest(l)
}

func plainBestOf(t api.Tree, js []api.Check, fin api.Check) api.Check {
	l := checks(fin)
	for _, c := range js {
		if plainBehind(t, c, fin) {
			l = append(l, c)
		}
	}
	return plainBest(l)
}

func plainChain(t api.Tree, l []api.Check) bool {
	for i, a := range l {
		for _, b := range l[:i] {
			if !plainBehind(t, a, b) && !plainBehind(t, b, a) {
				return false
			}
		}
	}
	return tree.May(t)
}

func holdMore(t *testing.T, g ground, js, want []api.Check) {
	t.Helper()
	was, wasJs := g.clone(), slices.Clone(js)
	if got := More(g.t, g.l, g.bal, js); !slices.Equal(got, want) {
		t.Errorf("More(%v, %v) = %v, want %v", g, js, got, want)
	}
	if !g.same(was) || !slices.Equal(js, wasJs) {
		t.Errorf("More changed %v and %v to %v and %v", was, wasJs, g, js)
	}
}

func holdFinals(t *testing.T, g ground, js, want []api.Check) {
	t.Helper()
	was, wasJs := g.clone(), slices.Clone(js)
	if got := Finals(g.t, g.l, g.bal, js); !slices.Equal(got, want) {
		t.Errorf("Finals(%v, %v) = %v, want %v", g, js, got, want)
	}
	if !g.same(was) || !slices.Equal(js, wasJs) {
		t.Errorf("Finals changed %v and %v to %v and %v", was, wasJs, g, js)
	}
}

func holdNext(t *testing.T, g ground, js []api.Check, fin, want api.Check) {
	t.Helper()
	was, wasJs := g.clone(), slices.Clone(js)
	if got := Next(g.t, g.l, g.bal, js, fin); got != want {
		t.Errorf("Next(%v, %v, %v) = %v, want %v", g, js, fin, got, want)
	}
	if !g.same(was) || !slices.Equal(js, wasJs) {
		t.Errorf("Next changed %v and %v to %v and %v", was, wasJs, g, js)
	}
}

func holdBest(t *testing.T, x api.Tree, js []api.Check, fin, want api.Check) {
	t.Helper()
	was, wasJs := slices.Clone(x.N), slices.Clone(js)
	if got := Best(x, js, fin); got != want {
		t.Errorf("Best(%v, %v, %v) = %v, want %v", x, js, fin, got, want)
	}
	if !slices.Equal(x.N, was) || !slices.Equal(js, wasJs) {
		t.Errorf("Best changed %v and %v to %v and %v", was, wasJs, x, js)
	}
}

func holdChain(t *testing.T, x api.Tree, l []api.Check, want bool) {
	t.Helper()
	was, wasL := slices.Clone(x.N), slices.Clone(l)
	if got := Chain(x, l); got != want {
		t.Errorf("Chain(%v, %v) = %v, want %v", x, l, got, want)
	}
	if !slices.Equal(x.N, was) || !slices.Equal(l, wasL) {
		t.Errorf("Chain changed %v and %v to %v and %v", was, wasL, x, l)
	}
}

// holdUntold wants nothing to be told.
func holdUntold(t *testing.T, g ground, js []api.Check, fin api.Check) {
	t.Helper()
	holdMore(t, g, js, js)
	holdFinals(t, g, js, nil)
	holdNext(t, g, js, fin, fin)
}

// holdPlain holds all calls by the plain ways.
func holdPlain(t *testing.T, g ground, js []api.Check, fin api.Check) {
	t.Helper()
	more := plainMore(g, js)
	holdMore(t, g, js, more)
	for _, l := range [][]api.Check{js, more} {
		holdFinals(t, g, l, plainFinals(g, l))
		holdNext(t, g, l, fin, plainNext(g, l, fin))
		holdBest(t, g.t, l, fin, plainBestOf(g.t, l, fin))
		holdChain(t, g.t, l, plainChain(g.t, l))
	}
}

// P16.1, P16.2: the chapter's example: three of four attest epochs 0 to 1, and 1 to 2.
func TestExample(t *testing.T) {
	g := ground{row(3), links(by(7, check(0, 1), check(1, 2)), by(14, check(1, 2), check(2, 3))), []uint64{1, 1, 1, 1}}
	js := checks(check(0, 1), check(1, 2), check(2, 3))
	holdMore(t, g, js[:1], js)
	holdFinals(t, g, js, js[:2])
	holdNext(t, g, js, js[0], js[1])
	holdBest(t, g.t, js, js[0], js[2])
	holdChain(t, g.t, js, true)
	// Two of four justify nothing.
	g.l[1].Mask = 6
	holdMore(t, g, js[:1], js[:2])
	holdFinals(t, g, js[:2], js[:1])
	holdNext(t, g, js[:2], js[0], js[0])
}

// P16.1, P16.2: what may not be told, by the tree, by the links, by the balances, each one alone.
func TestUntold(t *testing.T) {
	for _, g := range mayNotBe() {
		for _, js := range [][]api.Check{nil, {}, stops(0), stops(1), stops(3), checks(check(0, 1), check(0, 1)), checks(check(7, 7))} {
			for _, fin := range []api.Check{check(0, 1), check(1, 2), check(9, 9), {}} {
				holdUntold(t, g, js, fin)
			}
		}
	}
	// The same that may be is told.
	g := ground{fork(), steps(2), three()}
	holdMore(t, g, stops(0), stops(2))
	holdFinals(t, g, stops(2), stops(1))
	holdNext(t, g, stops(2), check(0, 1), check(1, 2))
	g = ground{row(4), steps(3), three()}
	holdMore(t, g, stops(0), stops(3))
	holdNext(t, g, stops(3), check(0, 1), check(2, 3))
}

// P16.1, P16.2: as much as may be is told.
func TestTheGreatest(t *testing.T) {
	bal := slices.Repeat([]uint64{1 << 40}, 8)
	l := steps(11)
	for i := range l {
		l[i].Mask = 255 &^ (1 << (i % 8)) &^ (1 << ((i + 3) % 8))
	}
	for i := range 5 {
		l = append(l, by(255, check(uint64(11+i), 12), check(uint64(12+i), 12)))
	}
	js := stops(11)
	for i := range 5 {
		js = append(js, check(uint64(12+i), 12))
	}
	x := row(12)
	x.N[11].Slot = 1 << 40
	for _, order := range [][]api.Link{l, reversed(l)} {
		g := ground{x, order, bal}
		holdMore(t, g, js[:1], js)
		holdFinals(t, g, js, js[:16])
		holdNext(t, g, js, js[0], js[15])
		holdBest(t, x, js, js[0], js[16])
		holdChain(t, x, js, true)
		holdPlain(t, g, js[:1], js[0])
	}
	for i := range l {
		// One less than two thirds.
		g := ground{x, slices.Clone(l), bal}
		g.l[i].Mask = 31
		holdMore(t, g, js[:1], js[:i+1])
		holdPlain(t, g, js[:1], js[0])
	}
}

// P16.1: no links, nil and empty: nothing is justified by them, or final.
func TestNoLinks(t *testing.T) {
	for _, l := range [][]api.Link{nil, {}} {
		for _, js := range [][]api.Check{nil, {}, stops(0), stops(3), checks(check(4, 9), check(4, 9))} {
			holdUntold(t, ground{fork(), l, three()}, js, check(0, 1))
		}
	}
}

// P16.1, P16.2: none is justified: nothing is justified from there on.
func TestNoJustified(t *testing.T) {
	for _, js := range [][]api.Check{nil, {}} {
		g := ground{fork(), steps(2), three()}
		holdUntold(t, g, js, check(0, 1))
		holdBest(t, g.t, js, check(0, 1), check(0, 1))
		g.l = links(by(7, api.Check{}, check(1, 1)))
		holdUntold(t, g, js, api.Check{})
	}
}

// P16.1: js in which one is twice, which stays twice; js of roots that the tree has not.
func TestOddJustified(t *testing.T) {
	g := ground{fork(), steps(2), three()}
	a, b, c := check(0, 1), check(1, 2), check(2, 3)
	odd := check(5, 9)
	holdMore(t, g, checks(a, a), checks(a, a, b, c))
	holdMore(t, g, checks(b, a, b), checks(b, a, b, c))
	holdMore(t, g, checks(c, c, b), checks(c, c, b))
	holdMore(t, g, checks(c, a, c), checks(c, a, c, b))
	holdMore(t, g, checks(odd), checks(odd))
	holdMore(t, g, checks(odd, odd), checks(odd, odd))
	holdMore(t, g, checks(odd, a, check(7, 8)), checks(odd, a, check(7, 8), b, c))
	// Links from, and to, and between roots that the tree has not.
	g.l = links(by(7, odd, check(6, 3)), by(7, a, check(5, 9)), by(7, odd, check(6, 9)), by(7, odd, check(8, 8)), by(7, a, b))
	holdMore(t, g, checks(odd, a), checks(odd, a, b))
	holdMore(t, g, checks(a), checks(a, b))
	holdFinals(t, g, checks(odd, check(6, 3), check(6, 9), a), nil)
	holdFinals(t, g, checks(odd, check(6, 3), check(6, 9), a, b), checks(a))
	// A zero root is one as any other is.
	g = ground{api.Tree{N: []api.Node{{Parent: -1}}}, links(by(7, api.Check{}, api.Check{Epoch: 1})), three()}
	holdMore(t, g, checks(api.Check{}), checks(api.Check{}, api.Check{Epoch: 1}))
	holdFinals(t, g, checks(api.Check{}, api.Check{Epoch: 1}), checks(api.Check{}))
	g.t = fork()
	holdMore(t, g, checks(api.Check{}), checks(api.Check{}))
	holdFinals(t, g, checks(api.Check{}, api.Check{Epoch: 1}), nil)
}

// P16.1: in whatever order links stand all is justified; what is justified first is the target of the first link, of all, that may go on then.
func TestMoreByOrder(t *testing.T) {
	g := ground{row(5), steps(4), three()}
	holdMore(t, g, stops(0), stops(4))
	g.l = reversed(g.l)
	holdMore(t, g, stops(0), stops(4))
	// Two ways on: each time it is begun again with the first link.
	a, b, c, d, e := check(0, 1), check(1, 2), check(2, 3), check(3, 4), check(4, 5)
	ab, bc, ad, de, ae := by(7, a, b), by(7, b, c), by(7, a, d), by(7, d, e), by(7, a, e)
	for _, x := range []struct {
		l    []api.Link
		want []api.Check
	}{
		{links(ab, bc, ad, de), checks(a, b, c, d, e)},
		{links(bc, ab, de, ad), checks(a, b, c, d, e)},
		{links(ad, de, ab, bc), checks(a, d, e, b, c)},
		{links(de, ad, bc, ab), checks(a, d, e, b, c)},
		{links(ab, ad, bc, de), checks(a, b, d, c, e)},
		{links(ad, ab, de, bc), checks(a, d, b, e, c)},
		{links(bc, ad, ab, de), checks(a, d, b, c, e)},
		{links(de, ab, ad, bc), checks(a, b, d, e, c)},
		{links(de, bc, ad, ab), checks(a, d, e, b, c)},
		{links(de, bc, ab, ad), checks(a, b, c, d, e)},
		{links(ae, de, ad, bc, ab), checks(a, e, d, b, c)},
		{links(de, ad, ae, bc, ab), checks(a, d, e, b, c)},
	} {
		g.l = x.l
		holdMore(t, g, checks(a), x.want)
		holdPlain(t, g, checks(a), a)
	}
}

// P16.1: in each order of few links.
func TestMoreByEachOrder(t *testing.T) {
	a, b, c, d := check(0, 1), check(1, 2), check(2, 3), check(2, 2)
	l := links(by(7, a, b), by(3, b, c), by(6, a, c), by(5, b, d), by(1, a, d))
	var orders func(done, rest []api.Link)
	orders = func(done, rest []api.Link) {
		holdPlain(t, ground{row(3), done, three()}, checks(a), a)
		for i, k := range rest {
			orders(behind(done, k), slices.Delete(slices.Clone(rest), i, i+1))
		}
	}
	orders(nil, l)
}

// P16.1: a target that is there already, or a source that is not: by its epoch alone, by its root alone.
func TestMoreByWhatIsThere(t *testing.T) {
	s, e := check(2, 2), check(3, 3)
	g := ground{row(4), links(by(7, s, e)), three()}
	holdMore(t, g, checks(s), checks(s, e))
	holdMore(t, g, checks(s, e), checks(s, e))
	holdMore(t, g, checks(e, s), checks(e, s))
	holdMore(t, g, checks(e), checks(e))
	// The target is not there if it is one of another epoch, or root.
	for _, near := range []api.Check{check(2, 3), check(4, 3), check(3, 2), check(3, 4), check(3, 9), check(last, 3)} {
		holdMore(t, g, checks(s, near), checks(s, near, e))
		holdMore(t, g, checks(near, s), checks(near, s, e))
	}
	// The source is not there if one of another epoch, or root, is.
	for _, near := range []api.Check{check(1, 2), check(3, 2), check(0, 2), check(2, 1), check(2, 3), check(2, 9), check(2+half, 2)} {
		holdMore(t, g, checks(near), checks(near))
		holdMore(t, g, checks(near, near), checks(near, near))
	}
	for i := range zero {
		near := s
		near.Root[i] ^= 32
		holdMore(t, g, checks(near), checks(near))
		near = e
		near.Root[i] ^= 32
		holdMore(t, g, checks(s, near), checks(s, near, e))
	}
	// Nor is it if one of its epoch, and one of its root, are.
	holdMore(t, g, checks(check(2, 1), check(1, 2)), checks(check(2, 1), check(1, 2)))
}

// P16.1: the target is behind the source, by the tree, and not above it, or beside it.
func TestMoreByTree(t *testing.T) {
	// 1, 2 behind it, 3 and 5 behind that, 6 behind 5; 4 behind 1.
	x := treeOf(-1, 0, 1, 0, 1, 4)
	is := map[[2]int]int{{1, 1}: 1, {1, 2}: 1, {1, 3}: 1, {1, 4}: 1, {1, 5}: 1, {1, 6}: 1, {2, 2}: 1, {2, 3}: 1, {2, 5}: 1, {2, 6}: 1, {3, 3}: 1, {4, 4}: 1, {5, 5}: 1, {5, 6}: 1, {6, 6}: 1}
	for s := range 9 {
		for e := range 9 {
			for _, to := range []uint64{1, 2, last} {
				a, b := check(0, s), check(to, e)
				g := ground{x, links(by(7, a, b)), three()}
				js, finals := checks(a), checks()
				if is[[2]int{s, e}] == 1 {
					js = checks(a, b)
					if to == 1 {
						finals = checks(a)
					}
				}
				holdMore(t, g, checks(a), js)
				holdFinals(t, g, checks(a, b), finals)
				holdPlain(t, g, checks(a), a)
			}
		}
	}
}

// P16.1, P16.2: what counts is two thirds, of all that there is, and no less.
func TestByBalances(t *testing.T) {
	a, b := check(0, 1), check(1, 2)
	for _, c := range []struct {
		bal  []uint64
		mask uint64
		want bool
	}{
		{[]uint64{1, 1, 1}, 7, true},
		{[]uint64{1, 1, 1}, 3, true},
		{[]uint64{1, 1, 1}, 5, true},
		{[]uint64{1, 1, 1}, 6, true},
		{[]uint64{1, 1, 1}, 1, false},
		{[]uint64{1, 1, 1}, 4, false},
		// Bits of those that there are not have nothing.
		{[]uint64{1, 1, 1}, 8, false},
		{[]uint64{1, 1, 1}, 248, false},
		{[]uint64{1, 1, 1}, 249, false},
		{[]uint64{1, 1, 1}, 251, true},
		{[]uint64{1, 1, 1, 1}, 3, false},
		{[]uint64{1, 1, 1, 1}, 7, true},
		{[]uint64{2, 1}, 1, true},
		{[]uint64{2, 1}, 2, false},
		{[]uint64{20, 10}, 1, true},
		{[]uint64{19, 10}, 1, false},
		{[]uint64{20, 11}, 1, false},
		{[]uint64{21, 10}, 1, true},
		{[]uint64{1}, 1, true},
		{[]uint64{1}, 2, false},
		{[]uint64{1}, 254, false},
		{[]uint64{1 << 40, 1 << 40, 1 << 40}, 6, true},
		{[]uint64{1 << 40, 1 << 40, 1<<40 - 1}, 6, false},
		{[]uint64{1 << 40, 1 << 40, 1<<40 - 1}, 3, true},
		{[]uint64{1, 0, 0}, 1, true},
		{[]uint64{1, 0, 0}, 6, false},
		// Nobody is two thirds where there is nothing.
		{[]uint64{0}, 1, true},
		{[]uint64{0}, 128, true},
		{[]uint64{0, 0, 0}, 1, true},
		{[]uint64{0, 0, 0}, 8, true},
		{slices.Repeat([]uint64{0}, 8), 16, true},
		{slices.Repeat([]uint64{5}, 8), 255, true},
		{slices.Repeat([]uint64{5}, 8), 63, true},
		{slices.Repeat([]uint64{5}, 8), 31, false},
		// None at all, and no mask: it may not be told.
		{nil, 7, false},
		{[]uint64{}, 7, false},
		{[]uint64{1, 1, 1}, 0, false},
		{[]uint64{0}, 0, false},
		{[]uint64{0}, 256, false},
	} {
		g := ground{fork(), links(by(c.mask, a, b)), c.bal}
		js, finals, next := checks(a), checks(), a
		if c.want {
			js, finals, next = checks(a, b), checks(a), b
		}
		holdMore(t, g, checks(a), js)
		holdFinals(t, g, checks(a, b), finals)
		// Onto the target, as what is final in an epoch before.
		g.l = links(by(c.mask, b, check(2, 2)))
		holdNext(t, g, checks(b, check(2, 2)), a, next)
	}
}

// P16.1: two links that count to one target justify it once, by whichever is first.
func TestMoreByTwoToOne(t *testing.T) {
	a, b, c := check(0, 1), check(1, 2), check(2, 3)
	ab, ac, bc := by(7, a, b), by(3, a, c), by(6, b, c)
	for _, x := range []struct {
		l    []api.Link
		want []api.Check
	}{
		{links(ab, ac, bc), checks(a, b, c)},
		{links(ab, bc, ac), checks(a, b, c)},
		{links(ac, ab, bc), checks(a, c, b)},
		{links(ac, bc, ab), checks(a, c, b)},
		{links(bc, ac, ab), checks(a, c, b)},
		{links(bc, ab, ac), checks(a, b, c)},
	} {
		g := ground{fork(), x.l, three()}
		holdMore(t, g, checks(a), x.want)
		holdFinals(t, g, x.want, checks(a, b))
		holdNext(t, g, x.want, a, b)
	}
	// The first one of both does not count.
	g := ground{fork(), links(by(1, a, c), bc, ab), three()}
	holdMore(t, g, checks(a), checks(a, b, c))
	g = ground{fork(), links(by(7, check(0, 4), c), bc, ab), three()}
	holdMore(t, g, checks(check(0, 4), a), checks(check(0, 4), a, b, c))
}

// P16.1: sources that nobody justifies stay so, though they justify one another; a ring of them may not be, by their epochs, and a ring of roots may.
func TestMoreBySourcesOfNobody(t *testing.T) {
	a, b, c, d := check(0, 1), check(1, 2), check(2, 2), check(3, 2)
	g := ground{fork(), links(by(7, b, c), by(7, c, d), by(7, b, d), by(7, d, check(4, 2))), three()}
	holdMore(t, g, checks(a), checks(a))
	holdFinals(t, g, checks(a), nil)
	// One that is there is from where it is gone on, and not back.
	holdMore(t, g, checks(a, c), checks(a, c, d, check(4, 2)))
	holdMore(t, g, checks(d), checks(d, check(4, 2)))
	g.l = behind(g.l, by(7, check(4, 2), b))
	holdUntold(t, g, checks(a), a)
	holdUntold(t, g, checks(b), b)
	g.l = links(by(7, b, c), by(7, c, b))
	holdUntold(t, g, checks(a, b), a)
	g.l = links(by(7, check(1, 2), check(2, 3)), by(7, check(2, 3), check(3, 2)), by(7, check(3, 2), check(4, 3)))
	holdMore(t, g, checks(a), checks(a))
	// From 3 to 2 does not count, as 2 is above 3.
	holdMore(t, g, checks(check(1, 2)), checks(check(1, 2), check(2, 3)))
}

// P16.2: the target is of the next epoch, and of js.
func TestFinalsByEpoch(t *testing.T) {
	for _, s := range []uint64{0, 1, 2, 1<<32 - 1, half - 1, half, last - 2, last - 1} {
		for _, e := range []uint64{0, 1, 2, 3, 4, 1 << 32, half, half + 1, half + 2, last - 1, last} {
			for _, r := range []int{2, 3} {
				a, b := check(s, 2), check(e, r)
				g := ground{fork(), links(by(7, a, b)), three()}
				if e == s+1 {
					holdFinals(t, g, checks(a, b), checks(a))
					holdNext(t, g, checks(a, b), check(0, 1), plainNext(g, checks(a, b), check(0, 1)))
				} else {
					holdFinals(t, g, checks(a, b), nil)
					holdNext(t, g, checks(a, b), check(0, 1), check(0, 1))
				}
				// No matter what else is of js, the target is to be.
				holdFinals(t, g, checks(a), nil)
				holdFinals(t, g, checks(a, check(s+1, 1), check(s+2, r), check(0, r)), plainFinals(g, checks(a, check(s+1, 1), check(s+2, r), check(0, r))))
				holdFinals(t, g, checks(b), nil)
				holdFinals(t, g, checks(b, check(s, 3)), nil)
			}
		}
	}
	// At the greatest epoch there is no next one: not even epoch 0.
	a, b := check(last, 2), check(0, 3)
	g := ground{fork(), links(by(7, a, b)), three()}
	holdUntold(t, g, checks(a, b), check(0, 1))
	g.l = links(by(7, check(last-1, 2), check(last, 2)))
	holdMore(t, g, checks(check(last-1, 2)), checks(check(last-1, 2), check(last, 2)))
	holdFinals(t, g, checks(check(last, 2), check(0, 2), check(last-1, 2)), checks(check(last-1, 2)))
	holdNext(t, g, checks(check(last-1, 2), check(last, 2)), check(last-2, 1), check(last-1, 2))
	holdNext(t, g, checks(check(last-1, 2), check(last, 2)), check(last, 1), check(last, 1))
}

// P16.2: several links from one checkpoint: one that counts, goes to the next epoch, and to one of js, is enough.
func TestFinalsBySeveral(t *testing.T) {
	a := check(1, 1)
	good, other := by(7, a, check(2, 2)), by(3, a, check(2, 4))
	none := links(by(7, a, check(3, 2)), by(7, a, check(3, 3)), by(1, a, check(2, 3)), by(7, a, check(2, 9)), by(7, a, check(2, 1)))
	js := checks(a, check(2, 2), check(2, 3), check(2, 4), check(3, 2), check(2, 9))
	g := ground{fork(), none, three()}
	holdFinals(t, g, js, nil)
	for i := range len(none) + 1 {
		g.l = slices.Insert(slices.Clone(none), i, good)
		holdFinals(t, g, js, checks(a))
		g.l = slices.Insert(slices.Clone(g.l), i/2, other)
		holdFinals(t, g, js, checks(a))
		holdFinals(t, g, js[:2], checks(a))
		holdFinals(t, g, checks(a, check(2, 4)), checks(a))
	}
}

// P16.2: in the order of js, also where js has one twice.
func TestFinalsByOrder(t *testing.T) {
	a, b, c, d := check(0, 1), check(1, 2), check(2, 3), check(3, 4)
	g := ground{row(4), steps(3), three()}
	for _, x := range []struct{ js, want []api.Check }{
		{checks(a, b, c, d), checks(a, b, c)},
		{checks(d, c, b, a), checks(c, b, a)},
		{checks(b, d, a, c), checks(b, a, c)},
		{checks(a, a, b, b), checks(a, a)},
		{checks(a, b, a), checks(a, a)},
		{checks(b, a, b, a, c), checks(b, a, b, a)},
		{checks(c, d, c, d, c), checks(c, c, c)},
		{checks(d, d), nil},
		{checks(a, c), nil},
		{checks(a, c, d), checks(c)},
		{checks(check(9, 9), a, check(1, 1), b, check(9, 9)), checks(a)},
	} {
		holdFinals(t, g, x.js, x.want)
		g.l = reversed(g.l)
		holdFinals(t, g, x.js, x.want)
	}
}

// P16.2: Finals tells of js, whatever justified it.
func TestFinalsOfWhateverIsThere(t *testing.T) {
	// Nothing justifies 2 of epoch 5, or 3 of epoch 6, but they are there.
	a, b := check(5, 2), check(6, 3)
	g := ground{fork(), links(by(5, a, b)), three()}
	holdFinals(t, g, checks(a, b), checks(a))
	holdFinals(t, g, checks(b, a), checks(a))
	holdNext(t, g, checks(b, a), check(0, 1), a)
	holdNext(t, g, checks(b, a), check(5, 1), check(5, 1))
}

// pair are two, of which the first one is final by the second one, and the link that makes it so.
func pair(epoch uint64, n int) ([]api.Check, api.Link) {
	a, b := check(epoch, n), check(epoch+1, n)
	return checks(a, b), by(7, a, b)
}

// P16.2: what may be final is next if it is behind fin, and of a greater epoch.
func TestNextByOne(t *testing.T) {
	is := map[[2]int]int{{1, 1}: 1, {1, 2}: 1, {1, 3}: 1, {1, 4}: 1, {2, 2}: 1, {2, 3}: 1, {3, 3}: 1, {4, 4}: 1}
	for of := range 7 {
		for n := range 7 {
			for _, fe := range []uint64{0, 4, 5, 6, half, last - 1, last} {
				for _, e := range []uint64{0, 4, 5, 6, half, last - 1} {
					js, k := pair(e, n)
					g := ground{fork(), links(k), three()}
					fin := check(fe, of)
					want := fin
					if is[[2]int{of, n}] == 1 && e > fe {
						want = js[0]
					}
					holdNext(t, g, js, fin, want)
					holdNext(t, g, reversed(js), fin, want)
					// It is not final where fin alone, or it alone, is of js.
					holdNext(t, g, checks(fin, js[0]), fin, plainNext(g, checks(fin, js[0]), fin))
					holdNext(t, g, nil, fin, fin)
				}
			}
		}
	}
}

// P16.2: of several the one of the greatest epoch, and of the same of the greater root, wherever they stand.
func TestNextByBetter(t *testing.T) {
	// 1, and behind it 2, 3, 4 and 5, and behind 2 also 6.
	x := treeOf(-1, 0, 0, 0, 0, 1)
	for _, c := range []struct {
		of, l []api.Check
		want  api.Check
	}{
		{nil, checks(check(1, 2), check(1, 3)), check(1, 3)},
		{nil, checks(check(1, 5), check(1, 3), check(1, 4)), check(1, 5)},
		{nil, checks(check(2, 2), check(1, 5)), check(2, 2)},
		{nil, checks(check(9, 2), check(7, 2), check(8, 2)), check(9, 2)},
		{nil, checks(check(half, 2), check(half-1, 5)), check(half, 2)},
		{nil, checks(check(0, 2), check(0, 5)), check(0, 1)},
		{nil, checks(check(0, 5), check(1, 1)), check(1, 1)},
		// Those beside fin, or of no greater epoch, do not matter.
		{checks(check(3, 2)), checks(check(9, 5), check(4, 2), check(4, 6), check(8, 3)), check(4, 6)},
		{checks(check(4, 2)), checks(check(9, 5), check(4, 6), check(3, 6)), check(4, 2)},
		{checks(check(3, 2)), checks(check(4, 1), check(5, 1)), check(3, 2)},
	} {
		fin := check(0, 1)
		for _, f := range c.of {
			fin = f
		}
		var js []api.Check
		var l []api.Link
		for _, f := range c.l {
			two, k := pair(f.Epoch, 0)
			two[0].Root, two[1].Root, k.S.Root, k.T.Root = f.Root, f.Root, f.Root, f.Root
			js, l = append(js, two...), append(l, k)
		}
		holdNext(t, ground{x, l, three()}, js, fin, c.want)
		holdNext(t, ground{x, reversed(l), three()}, reversed(js), fin, c.want)
	}
}

// P16.2: Next by each byte of a root, of which the first one that differs tells.
func TestNextByEachByte(t *testing.T) {
	for i := range zero {
		for j := range zero {
			a, b := zero, zero
			a[i]++
			b[j] += 2
			x := api.Tree{N: []api.Node{{Root: name(7), Parent: -1}, {Root: a, Slot: 1}, {Root: b, Slot: 1}}}
			ca, cb := api.Check{Epoch: 4, Root: a}, api.Check{Epoch: 4, Root: b}
			na, nb := api.Check{Epoch: 5, Root: a}, api.Check{Epoch: 5, Root: b}
			want, best := cb, nb
			if i < j {
				want, best = ca, na
			}
			g := ground{x, links(by(7, ca, na), by(7, cb, nb)), three()}
			for _, js := range [][]api.Check{{ca, na, cb, nb}, {nb, cb, na, ca}} {
				holdNext(t, g, js, check(0, 7), want)
				holdBest(t, x, js, check(0, 7), best)
				holdBest(t, x, js, check(5, 7), check(5, 7))
			}
		}
	}
}

// P16.2: it is next, but not final, that fin is itself, and of a root that the tree has not nothing is behind.
func TestNextOfFinItself(t *testing.T) {
	js, k := pair(4, 2)
	g := ground{fork(), links(k), three()}
	holdNext(t, g, js, js[0], js[0])
	holdNext(t, g, js, js[1], js[1])
	holdNext(t, g, js, check(3, 2), js[0])
	holdNext(t, g, js, check(3, 9), check(3, 9))
	holdNext(t, g, js, check(3, 0), check(3, 0))
	js, k = pair(4, 9)
	g.l = links(k)
	holdNext(t, g, js, check(3, 9), check(3, 9))
	holdNext(t, g, js, check(3, 1), check(3, 1))
}

// P16.3: written out.
func TestBest(t *testing.T) {
	x := fork()
	for _, c := range []struct {
		js        []api.Check
		fin, want api.Check
	}{
		{nil, check(2, 2), check(2, 2)},
		{checks(), check(2, 2), check(2, 2)},
		{checks(), api.Check{}, api.Check{}},
		{checks(check(2, 2)), check(2, 2), check(2, 2)},
		// Behind it, of a greater, the same and a less epoch, and of a greater root, and the same.
		{checks(check(3, 3)), check(2, 2), check(3, 3)},
		{checks(check(2, 3)), check(2, 2), check(2, 3)},
		{checks(check(1, 3)), check(2, 2), check(2, 2)},
		{checks(check(3, 2)), check(2, 2), check(3, 2)},
		{checks(check(1, 2)), check(2, 2), check(2, 2)},
		{checks(check(last, 3)), check(2, 2), check(last, 3)},
		{checks(check(last, 3)), check(last, 2), check(last, 3)},
		{checks(check(0, 3)), check(last, 2), check(last, 2)},
		{checks(check(half, 3)), check(half-1, 2), check(half, 3)},
		// Above it, and beside it, and in no tree.
		{checks(check(3, 1)), check(2, 2), check(2, 2)},
		{checks(check(3, 4)), check(2, 2), check(2, 2)},
		{checks(check(3, 9)), check(2, 2), check(2, 2)},
		{checks(check(3, 2)), check(2, 3), check(2, 3)},
		{checks(check(3, 2)), check(2, 4), check(2, 4)},
		{checks(check(9, 1), check(9, 4), check(9, 9)), check(2, 2), check(2, 2)},
		// Of several the better one.
		{checks(check(3, 2), check(3, 3)), check(2, 2), check(3, 3)},
		{checks(check(3, 3), check(3, 2)), check(2, 2), check(3, 3)},
		{checks(check(4, 2), check(3, 3)), check(2, 2), check(4, 2)},
		{checks(check(3, 3), check(4, 2)), check(2, 2), check(4, 2)},
		{checks(check(3, 3), check(9, 4), check(4, 2), check(9, 9), check(2, 3)), check(2, 2), check(4, 2)},
		{checks(check(5, 2), check(5, 4), check(5, 3)), check(0, 1), check(5, 4)},
		{checks(check(5, 4), check(5, 4)), check(0, 1), check(5, 4)},
		// Behind fin, of which one is behind a better one of js, does not matter.
		{checks(check(7, 4), check(6, 3)), check(0, 1), check(7, 4)},
		// In a tree that has not fin's root.
		{checks(check(7, 4), check(6, 9)), check(0, 9), check(0, 9)},
		{checks(check(7, 0)), api.Check{}, api.Check{}},
	} {
		holdBest(t, x, c.js, c.fin, c.want)
		holdBest(t, x, reversed(c.js), c.fin, c.want)
		for _, bad := range badTrees() {
			holdBest(t, bad, c.js, c.fin, c.fin)
		}
	}
}

// P16.3: of the same epoch and a less root fin stays.
func TestBestByLessRoot(t *testing.T) {
	x := api.Tree{N: []api.Node{{Root: name(5), Parent: -1}, {Root: name(3), Slot: 1}, {Root: name(7), Slot: 1}}}
	holdBest(t, x, checks(check(2, 3)), check(2, 5), check(2, 5))
	holdBest(t, x, checks(check(2, 3), check(2, 7)), check(2, 5), check(2, 7))
	holdBest(t, x, checks(check(3, 3), check(2, 7)), check(2, 5), check(3, 3))
	// By epochs Next asks for a greater one, by roots it does not.
	js, k := pair(2, 7)
	holdNext(t, ground{x, links(k), three()}, js, check(2, 5), check(2, 5))
	holdNext(t, ground{x, links(k), three()}, js, check(1, 5), check(2, 7))
}

// P16.3: written out, in each order, with each tree that may not be.
func TestChain(t *testing.T) {
	// 1, 2 behind it, 3 and 5 behind that, 6 behind 5; 4 behind 1.
	x := treeOf(-1, 0, 1, 0, 1, 4)
	for _, c := range []struct {
		l    []api.Check
		want bool
	}{
		{nil, true},
		{checks(), true},
		{checks(check(0, 1)), true},
		{checks(check(9, 6)), true},
		{checks(check(0, 9)), true},
		{checks(api.Check{}), true},
		{checks(check(0, 1), check(1, 2)), true},
		{checks(check(5, 1), check(1, 6)), true},
		{checks(check(1, 2), check(1, 2)), true},
		{checks(check(1, 2), check(8, 2)), true},
		{checks(check(0, 3), check(0, 3), check(0, 3)), true},
		{checks(check(0, 9), check(0, 9)), false},
		{checks(check(0, 9), check(1, 9)), false},
		{checks(check(0, 9), check(0, 8)), false},
		{checks(check(0, 9), check(0, 1)), false},
		{checks(check(0, 3), check(0, 5)), false},
		{checks(check(0, 2), check(0, 4)), false},
		{checks(check(0, 6), check(0, 4)), false},
		{checks(check(0, 6), check(7, 3)), false},
		{checks(check(0, 1), check(0, 2), check(0, 3)), true},
		{checks(check(0, 1), check(0, 2), check(0, 6)), true},
		{checks(check(0, 2), check(0, 5), check(0, 6)), true},
		{checks(check(0, 1), check(0, 4), check(0, 4)), true},
		{checks(check(0, 1), check(0, 2), check(0, 4)), false},
		{checks(check(0, 1), check(0, 3), check(0, 6)), false},
		{checks(check(0, 2), check(0, 3), check(0, 5)), false},
		{checks(check(0, 3), check(0, 5), check(0, 6)), false},
		{checks(check(0, 1), check(0, 2), check(0, 9)), false},
		{checks(check(0, 1), check(0, 2), check(0, 5), check(0, 6)), true},
		{checks(check(0, 1), check(0, 2), check(0, 5), check(0, 3)), false},
	} {
		holdChain(t, x, c.l, c.want)
		holdChain(t, x, reversed(c.l), c.want)
		for i := range c.l {
			holdChain(t, x, behind(c.l[i:], c.l[:i]...), c.want)
		}
		for _, bad := range badTrees() {
			holdChain(t, bad, c.l, false)
		}
	}
}

// P16.3: of all lists of up to four roots of a tree, and one that it has not.
func TestChainOfAll(t *testing.T) {
	x := treeOf(-1, 0, 1, 0, 1, 4)
	lists := [][]api.Check{nil}
	for range 5 {
		var next [][]api.Check
		for _, l := range lists {
			holdChain(t, x, l, plainChain(x, l))
			for n := 1; n < 8; n++ {
				next = append(next, behind(l, check(uint64(n%3), n)))
			}
		}
		lists = next
	}
}

// anyTree is one of up to twelve nodes, each behind any one before.
func anyTree(chance *rand.Rand) api.Tree {
	parents := []int{-1}
	for range chance.Intn(12) {
		parents = append(parents, chance.Intn(min(len(parents), 1+chance.Intn(12))))
	}
	return treeOf(parents...)
}

// anyLinks are up to sixteen that may be, of which most count.
func anyLinks(chance *rand.Rand, nodes, wide int) []api.Link {
	var l []api.Link
	for range chance.Intn(40) {
		// Roots that rise with epochs are behind one another more often.
		s := chance.Intn(wide)
		e := s + 1 + chance.Intn(1+chance.Intn(wide))
		a, b := check(uint64(s), 1+chance.Intn(nodes+1)), check(uint64(e), 1+chance.Intn(nodes+1))
		if chance.Intn(2) == 0 {
			a, b = check(uint64(s), 1+s*nodes/(wide+2)), check(uint64(e), 1+min(nodes-1, e*nodes/(wide+2)))
		}
		k := by(1+chance.Uint64()%255, a, b)
		if chance.Intn(4) > 0 {
			k.Mask |= 255 &^ (1 << chance.Intn(8))
		}
		if next := behind(l, k); link.May(next) {
			l = next
		}
	}
	return l
}

func anyBalances(chance *rand.Rand) []uint64 {
	var bal []uint64
	for range 1 + chance.Intn(8) {
		bal = append(bal, uint64(chance.Intn(4)))
	}
	return bal
}

// P16.1 to P16.3: of many, by the plain ways, also where something may not be.
func TestMany(t *testing.T) {
	chance := rand.New(rand.NewSource(161))
	justified, finals := 0, 0
	for i := range 12000 {
		x := anyTree(chance)
		wide := 1 + chance.Intn(10)
		g := ground{x, anyLinks(chance, len(x.N), wide), anyBalances(chance)}
		var js []api.Check
		for range chance.Intn(4) {
			js = append(js, check(uint64(chance.Intn(wide)), 1+chance.Intn(len(x.N)+1)))
		}
		if chance.Intn(3) > 0 {
			js = append(js, check(0, 1))
		}
		fin := check(uint64(chance.Intn(wide)), 1+chance.Intn(len(x.N)+1))
		if chance.Intn(2) == 0 {
			fin = check(0, 1)
		}
		switch i % 20 {
		case 3:
			g.t = badTrees()[chance.Intn(len(badTrees()))]
		case 7:
			g.bal = badBalances()[chance.Intn(len(badBalances()))]
		case 11:
			g.l = behind(g.l, by(0, check(0, 1), check(99, 1)))
		}
		justified, finals = max(justified, len(plainMore(g, js))), max(finals, len(plainFinals(g, plainMore(g, js))))
		holdPlain(t, g, js, fin)
	}
	if justified < 12 || finals < 6 {
		t.Errorf("at most %d were justified, and %d final", justified, finals)
	}
}

// P16.1 to P16.3: of all lists of up to two links of few ends, by the plain ways.
func TestAllSmall(t *testing.T) {
	var ends []api.Check
	for e := range uint64(3) {
		for _, n := range []int{1, 2, 9} {
			ends = append(ends, check(e, n))
		}
	}
	var some []api.Link
	for _, s := range ends {
		for _, e := range ends {
			if s.Epoch < e.Epoch {
				some = append(some, by(1, s, e), by(3, s, e))
			}
		}
	}
	js := [][]api.Check{ends[:1], {ends[0], ends[4]}, {ends[3], ends[1], ends[1]}, {ends[2], ends[8]}}
	trees := []api.Tree{row(2), treeOf(-1), {N: []api.Node{{Root: name(2), Parent: -1}, {Root: name(1), Slot: 1}}}, {N: []api.Node{{Root: name(8), Parent: -1}, {Root: name(1), Slot: 1}, {Root: name(2), Slot: 1}}}}
	for _, x := range trees {
		for i, a := range some {
			holdPlain(t, ground{x, links(a), three()}, js[i%len(js)], ends[i%len(ends)])
			for j, b := range some {
				g := ground{x, links(a, b), three()}
				holdPlain(t, g, js[(i+j)%len(js)], ends[(i+j)%len(ends)])
			}
		}
	}
}

// lineTo are checkpoints of rising epochs, from one at 1 on, each behind the one before, down to a node.
func lineTo(chance *rand.Rand, x api.Tree, node int) []api.Check {
	var path []int
	for at := node; at >= 0; at = x.N[at].Parent {
		path = append(path, at)
	}
	var l []api.Check
	for e := range uint64(4) {
		l = append(l, api.Check{Epoch: e, Root: x.N[path[len(path)-1]].Root})
		for len(path) > 1 && (e == 0 || chance.Intn(2) == 0) {
			path = path[:len(path)-1]
		}
	}
	return l
}

// castAll has validators attest links along two lines, those of free whatever they like, and the others nothing by which they would be guilty.
func castAll(chance *rand.Rand, x api.Tree, free uint64, vals int) []api.Link {
	var pool []api.Link
	for range 2 {
		line := lineTo(chance, x, chance.Intn(len(x.N)))
		for i, s := range line {
			for _, e := range line[i+1:] {
				if e.Epoch == s.Epoch+1 || chance.Intn(3) == 0 {
					pool = append(pool, by(1, s, e))
				}
			}
		}
	}
	var l []api.Link
	for range 100 {
		k := pool[chance.Intn(len(pool))]
		next, e := link.Put(l, k.S, k.T, chance.Intn(vals))
		if e == api.OK && link.Guilty(next)&^free == 0 {
			l = next
		}
	}
	return l
}

// P16.4: if those who are guilty have less than one third, all that are final are on one chain, and so is the first one. Whatever they do, Next is behind what was final.
func TestOneChain(t *testing.T) {
	chance := rand.New(rand.NewSource(164))
	finals, forks := 0, 0
	for i := range 2000 {
		x := anyTree(chance)
		vals := 1 + chance.Intn(4)
		var bal []uint64
		for range vals {
			bal = append(bal, 1+uint64(chance.Intn(3)))
		}
		free := uint64(0)
		for v := range vals {
			if chance.Intn(3) > 0 && (i%2 == 0 || !stake.Some(bal, free|1<<v)) {
				free |= 1 << v
			}
		}
		g := ground{x, castAll(chance, x, free, vals), bal}
		first := check(0, 1)
		js := More(g.t, g.l, g.bal, checks(first))
		all := behind(Finals(g.t, g.l, g.bal, js), first)
		if Chain(g.t, all) {
			finals = max(finals, len(all)-1)
		} else {
			forks++
			if !stake.Some(bal, link.Guilty(g.l)) {
				t.Fatalf("%v: of %v there are final %v", g, js, all)
			}
		}
		for _, fin := range all {
			if next := Next(g.t, g.l, g.bal, js, fin); !plainBehind(g.t, next, fin) || next != fin && next.Epoch <= fin.Epoch {
				t.Fatalf("%v: Next of %v is %v", g, fin, next)
			}
		}
		holdPlain(t, g, js, first)
	}
	// Both were to be seen: what is final, and that one third may make two chains of it.
	if finals < 3 || forks < 100 {
		t.Errorf("there were at most %d final, and %d times two chains", finals, forks)
	}
}

// P16.4: two of three who are guilty make two chains of what is final.
func TestTwoChains(t *testing.T) {
	a := check(0, 1)
	g := ground{fork(), links(by(3, a, check(1, 2)), by(3, check(1, 2), check(2, 3)), by(6, a, check(1, 4)), by(6, check(1, 4), check(2, 4))), three()}
	js := checks(a, check(1, 2), check(2, 3), check(1, 4), check(2, 4))
	holdMore(t, g, checks(a), js)
	holdFinals(t, g, js, checks(a, check(1, 2), check(1, 4)))
	holdChain(t, g.t, Finals(g.t, g.l, g.bal, js), false)
	if !stake.Some(g.bal, link.Guilty(g.l)) || link.Guilty(g.l) != 2 {
		t.Error("they are not guilty")
	}
	// Of both the greater one is next, and what is final on one chain goes on there.
	holdNext(t, g, js, a, check(1, 4))
	holdNext(t, g, js, check(1, 2), check(1, 2))
	holdNext(t, g, js, check(0, 2), check(1, 2))
	holdNext(t, g, js, check(0, 4), check(1, 4))
}

// spoil changes all that can be reached from a list.
func spoil[E any](l []E, mark E) {
	l = l[:cap(l)]
	for i := range l {
		l[i] = mark
	}
}

// around lays a list into another one, so that there is something ahead of it and behind it.
func around[E any](l []E, mark E) (whole, piece []E) {
	whole = slices.Concat([]E{mark, mark}, l, []E{mark, mark})
	return whole, whole[2 : 2+len(l)]
}

// grounds are such as may be told, and such as may not.
func grounds() []ground {
	return append(mayNotBe(),
		ground{fork(), steps(2), three()},
		ground{fork(), reversed(steps(2)), three()},
		ground{row(12), steps(11), slices.Repeat([]uint64{1}, 8)},
		ground{row(4), steps(3), three()},
		ground{fork(), nil, three()},
		ground{treeOf(-1), links(by(1, check(0, 1), check(1, 1))), []uint64{0}},
	)
}

// R3: what is handed in stays as it was, around it too, also when what was answered is changed later; what was answered stays when what was handed in is changed.
func TestOwn(t *testing.T) {
	mark := check(77, 77)
	for _, g := range grounds() {
		for _, js := range [][]api.Check{nil, {}, stops(0), stops(1), stops(2), stops(11), checks(check(0, 1), check(0, 1)), checks(mark)} {
			wholeN, n := around(g.t.N, api.Node{Root: name(70), Parent: 5})
			wholeL, l := around(g.l, by(7, mark, check(78, 77)))
			wholeB, bal := around(g.bal, 99)
			wholeJ, pieceJ := around(js, mark)
			was, wasJ := ground{api.Tree{N: wholeN}, wholeL, wholeB}.clone(), slices.Clone(wholeJ)
			x := api.Tree{N: n}
			more, finals := More(x, l, bal, pieceJ), Finals(x, l, bal, pieceJ)
			Next(x, l, bal, pieceJ, check(0, 1))
			Best(x, pieceJ, check(0, 1))
			Chain(x, pieceJ)
			stays := func() bool {
				return was.same(ground{api.Tree{N: wholeN}, wholeL, wholeB}) && slices.Equal(wholeJ, wasJ)
			}
			wantMore, wantFinals := plainMore(g, js), plainFinals(g, js)
			if !stays() || !slices.Equal(more, wantMore) || !slices.Equal(finals, wantFinals) {
				t.Fatalf("%v and %v were handed in; answered was %v, %v", g, js, more, finals)
			}
			_ = append(more, check(66, 66))
			spoil(more, check(66, 66))
			if !stays() || !slices.Equal(finals, wantFinals) {
				t.Fatalf("%v and %v were handed in, and are changed with More's answer", g, js)
			}
			spoil(finals, check(66, 66))
			if !stays() {
				t.Fatalf("%v and %v were handed in, and are changed with Finals' answer", g, js)
			}
			more, finals = More(x, l, bal, pieceJ), Finals(x, l, bal, pieceJ)
			spoil(wholeN, api.Node{})
			spoil(wholeL, api.Link{})
			spoil(wholeB, 55)
			spoil(wholeJ, check(66, 66))
			if !slices.Equal(more, wantMore) || !slices.Equal(finals, wantFinals) {
				t.Fatalf("%v, %v were answered, and are changed with what was handed in to %v, %v", wantMore, wantFinals, more, finals)
			}
		}
	}
}

// R3: where js has room for more, what comes behind it is put elsewhere, and two answers are two.
func TestRoomForMore(t *testing.T) {
	g := ground{row(4), steps(3), three()}
	for n := range 5 {
		room := make([]api.Check, n, 40)
		copy(room, stops(3))
		behindIt := room[:40]
		for i := n; i < 40; i++ {
			behindIt[i] = check(66, 66)
		}
		want := plainMore(g, room)
		a, b := More(g.t, g.l, g.bal, room), More(g.t, g.l, g.bal, room)
		for i := n; i < 40; i++ {
			if behindIt[i] != check(66, 66) {
				t.Fatalf("behind js of %d there is %v", n, behindIt[i])
			}
		}
		_ = append(a, check(55, 55))
		_ = append(room, check(44, 44))
		spoil(a, check(55, 55))
		spoil(room, check(33, 33))
		if !slices.Equal(b, want) {
			t.Fatalf("%v was answered, and is %v", want, b)
		}
	}
	// Nothing comes behind: it is another list all the same.
	room := make([]api.Check, 1, 8)
	got := More(api.Tree{}, nil, nil, room)
	got[0] = check(9, 9)
	if room[0] != (api.Check{}) {
		t.Error("js alone is the one that was handed in")
	}
	_ = append(room, check(1, 1))
	got = append(got, check(2, 2))
	if room[:2][1] != check(1, 1) || got[1] != check(2, 2) {
		t.Error("what is put onto js, and onto the answer, is one")
	}
}

// R3: of Finals' answer, where all of js are final or none is, nothing is js.
func TestFinalsAreOwn(t *testing.T) {
	// 1 of epoch 0 is final by 1 of epoch 1, which is twice.
	js, k := pair(0, 1)
	g := ground{fork(), links(k), three()}
	got := Finals(g.t, g.l, g.bal, js)
	got[0] = check(9, 9)
	if js[0] != check(0, 1) || js[1] != check(1, 1) {
		t.Errorf("js is %v", js)
	}
	_ = append(got, check(8, 8))
	if js[1] != check(1, 1) {
		t.Errorf("js is %v", js)
	}
	// Next asks for Finals, and leaves js in order.
	js = checks(check(1, 1), check(0, 1), check(5, 1), check(4, 1))
	g.l = links(by(7, check(0, 1), check(1, 1)), by(7, check(4, 1), check(5, 1)))
	was := slices.Clone(js)
	holdNext(t, g, js, check(2, 1), check(4, 1))
	if !slices.Equal(js, was) {
		t.Errorf("js is %v", js)
	}
}

// R5: each call answers the same again, whatever was asked between.
func TestAgain(t *testing.T) {
	a := ground{fork(), steps(2), three()}
	b := ground{row(4), reversed(steps(3)), three()}
	for range 50 {
		holdMore(t, a, stops(0), stops(2))
		holdMore(t, b, stops(0), stops(3))
		holdFinals(t, a, stops(2), stops(1))
		holdFinals(t, b, reversed(stops(3)), reversed(stops(2)))
		holdNext(t, a, stops(2), check(0, 1), check(1, 2))
		holdNext(t, b, stops(3), check(0, 1), check(2, 3))
		holdBest(t, a.t, stops(3), check(0, 1), check(3, 4))
		holdBest(t, b.t, stops(3), check(0, 1), check(3, 4))
		holdChain(t, a.t, stops(3), false)
		holdChain(t, b.t, stops(3), true)
		holdUntold(t, ground{a.t, a.l, nil}, stops(3), check(0, 1))
	}
}

// P1: very many checkpoints, links, nodes and balances.
func TestVeryMany(t *testing.T) {
	const n = 300000
	var rising, odd []api.Check
	for i := range n {
		rising = append(rising, check(uint64(i), 2+i%2))
		odd = append(odd, check(uint64(i), 9))
	}
	g := ground{fork(), links(by(7, check(1, 3), check(5, 3)), by(7, check(n-2, 2), check(n-1, 3)), by(7, check(n-1, 3), check(n, 3))), three()}
	more := More(g.t, g.l, g.bal, rising)
	if len(more) != n+1 || !slices.Equal(more[:n], rising) || more[n] != check(n, 3) {
		t.Error("More of very many")
	}
	holdFinals(t, g, rising, checks(check(n-2, 2)))
	holdNext(t, g, rising, check(0, 2), check(n-2, 2))
	holdBest(t, g.t, rising, check(0, 1), check(n-1, 3))
	holdBest(t, g.t, odd, check(0, 1), check(0, 1))
	holdChain(t, g.t, rising, true)
	holdChain(t, g.t, odd, false)
	holdChain(t, g.t, append(slices.Clone(rising), check(0, 4)), false)
	big := ground{row(n), steps(n), slices.Repeat([]uint64{1}, n)}
	for _, g := range []ground{{big.t, g.l, g.bal}, {g.t, big.l, g.bal}, {g.t, g.l, big.bal}, big} {
		if got := More(g.t, g.l, g.bal, rising); !slices.Equal(got, rising) {
			t.Error("More of what may not be told")
		}
		if len(Finals(g.t, g.l, g.bal, rising)) != 0 || Next(g.t, g.l, g.bal, rising, check(0, 2)) != check(0, 2) {
			t.Error("Finals, or Next, of what may not be told")
		}
	}
	if Best(big.t, rising, check(0, 1)) != check(0, 1) || Chain(big.t, rising) || Chain(big.t, nil) {
		t.Error("Best, or Chain, of a tree that may not be")
	}
}

// checksOf are one of each byte: few epochs, few roots.
func checksOf(in []byte) []api.Check {
	var l []api.Check
	for _, b := range in {
		l = append(l, checkOf(b))
	}
	return l
}

// checkOf is one of few epochs, at both ends, and few roots.
func checkOf(b byte) api.Check { return check(uint64(int64(b>>4)-2), int(b&15)) }

// linksOf are one of each three bytes, two ends and a Mask.
func linksOf(in []byte) []api.Link {
	var l []api.Link
	for ; len(in) >= 3; in = in[3:] {
		l = append(l, by(uint64(in[2]), checkOf(in[0]), checkOf(in[1])))
	}
	return l
}

// P1, P16.1 to P16.3: whatever the tree, the links, the balances, and what is justified.
func FuzzFinal(f *testing.F) {
	f.Add([]byte{0, 1, 0}, []byte{0x21, 0x32, 7, 0x32, 0x43, 14}, []byte{1, 1, 1, 1}, []byte{0x21}, byte(0x21))
	f.Add([]byte{0, 1, 0}, []byte{0x43, 0x54, 7, 0x32, 0x43, 7, 0x21, 0x32, 7}, []byte{1, 1, 1}, []byte{0x21, 0x21}, byte(0x21))
	f.Add([]byte{0, 0, 1, 2, 3, 4, 5, 6, 7, 8, 9}, []byte{0x02, 0x12, 255, 0x12, 0x21, 255}, []byte{0}, []byte{0x02, 0x12}, byte(0x02))
	f.Add([]byte{}, []byte{}, []byte{}, []byte{}, byte(0))
	f.Fuzz(func(t *testing.T, parents, in, bals, justs []byte, of byte) {
		// The plain ways hold each checkpoint against all others.
		var ps []int
		for i, p := range parents[:min(len(parents), 13)] {
			ps = append(ps, int(p)%(i+1))
		}
		x := treeOf(append([]int{-1}, ps...)...)
		var bal []uint64
		for _, b := range bals[:min(len(bals), 10)] {
			bal = append(bal, uint64(b%16)<<(b>>4*2))
		}
		l := linksOf(in[:min(len(in), 60)])
		js := checksOf(justs[:min(len(justs), 40)])
		fin := checkOf(of)
		holdPlain(t, ground{x, l, bal}, js, fin)
		// The same, as far as it may be.
		var fits []api.Link
		for _, k := range l {
			if next := behind(fits, k); link.May(next) {
				fits = next
			}
		}
		x.N = x.N[:min(len(x.N), 12)]
		bal = append([]uint64{1}, bal[:min(len(bal), 7)]...)
		for i := range bal {
			bal[i] = min(bal[i], 1<<40)
		}
		g := ground{x, fits, bal}
		if !plainTold(g) {
			t.Fatal("it may not be told")
		}
		holdPlain(t, g, js, fin)
		holdPlain(t, g, append(js, fin), fin)
	})
}
