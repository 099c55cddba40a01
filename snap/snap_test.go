package snap

import (
	"bytes"
	"math"
	"math/rand"
	"slices"
	"testing"

	"areopagus/api"
	"areopagus/engine"
	"areopagus/tree"
)

const (
	least    = math.MinInt
	greatest = math.MaxInt
	top      = uint64(1) << 40
	last     = uint64(math.MaxUint64)
)

// name hangs on its number at both ends, so that half of a root is not taken for it; of two the one of the greater number is the greater one.
func name(n int) api.Root { return api.Root{byte(n), 15: byte(n), 31: byte(n)} }

func check(epoch uint64, n int) api.Check { return api.Check{Epoch: epoch, Root: name(n)} }

func by(mask uint64, s, t api.Check) api.Link { return api.Link{S: s, T: t, Mask: mask} }

func on(n int, epoch uint64) api.Latest { return api.Latest{Has: true, Root: name(n), Epoch: epoch} }

func att(val int, slot uint64, head int, s, t api.Check) api.Att {
	return api.Att{Val: val, Slot: slot, Head: name(head), Source: s, Target: t}
}

// bush is 1; 2 and 3 behind it; 4 and 5 behind 2, 6 behind 3; 7 and 8 behind 4. Its leaves are 5, 6, 7 and 8.
func bush() api.Tree {
	return api.Tree{N: []api.Node{
		{Root: name(1), Parent: -1, Slot: 3, Just: 0},
		{Root: name(2), Parent: 0, Slot: 5, Just: 0},
		{Root: name(3), Parent: 0, Slot: 4, Just: 0},
		{Root: name(4), Parent: 1, Slot: 9, Just: 1},
		{Root: name(5), Parent: 1, Slot: 8, Just: 1},
		{Root: name(6), Parent: 2, Slot: 20, Just: 0},
		{Root: name(7), Parent: 3, Slot: 12, Just: 2},
		{Root: name(8), Parent: 3, Slot: 13, Just: 1},
	}}
}

// ready is an engine of four of whom three attested epochs 0 to 1, and one waits: 1 is final, and 2 justified. Of each two children one weighs more, the later one each time but at 2.
func ready() api.Eng {
	return weighed(api.Eng{
		T:    bush(),
		Bal:  []uint64{10, 11, 13, 17},
		V:    api.Votes{L: []api.Latest{on(7, 2), on(8, 2), on(5, 1), on(6, 1)}},
		Late: []api.Att{att(3, 20, 6, check(0, 1), check(1, 3))},
		K:    []api.Link{by(7, check(0, 1), check(1, 2))},
		J:    []api.Check{check(0, 1), check(1, 2)},
		Fin:  check(0, 1),
		Now:  20,
	})
}

// later is the same, but 2 is final, and 4 justified.
func later() api.Eng {
	return changed(ready(), func(e *api.Eng) {
		e.K = append(e.K, by(7, check(1, 2), check(2, 4)))
		e.J = append(e.J, check(2, 4))
		e.Fin = check(1, 2)
	})
}

// free is the same without links and what waits, so that whatever it is told of may be justified, and final.
func free(fin api.Check, js ...api.Check) api.Eng {
	return changed(ready(), func(e *api.Eng) {
		e.Late, e.K, e.J, e.Fin = nil, nil, append(js, fin), fin
	})
}

// begun has one block alone.
func begun() api.Eng {
	e, _ := engine.New(name(1), []uint64{1, 1, 1})
	return e
}

func clone(e api.Eng) api.Eng {
	e.T.N = slices.Clone(e.T.N)
	e.Bal = slices.Clone(e.Bal)
	e.V.L = slices.Clone(e.V.L)
	e.W = slices.Clone(e.W)
	e.Late = slices.Clone(e.Late)
	e.K = slices.Clone(e.K)
	e.J = slices.Clone(e.J)
	return e
}

// changed is the engine with something else, in lists of its own.
func changed(e api.Eng, change func(*api.Eng)) api.Eng {
	e = clone(e)
	change(&e)
	return e
}

// weighed is the engine with W as its tree, votes and balances have it.
func weighed(e api.Eng) api.Eng {
	e.W = make([]uint64, len(e.T.N))
	for i, n := range e.T.N {
		for val, l := range e.V.L {
			if l.Has && above(e.T, n.Root, l.Root) {
				e.W[i] += e.Bal[val]
			}
		}
	}
	return e
}

// voted is the engine with each one's vote for another one, by numbers; 0 is none.
func voted(e api.Eng, names ...int) api.Eng {
	return weighed(changed(e, func(e *api.Eng) {
		for val, n := range names {
			e.V.L[val] = api.Latest{}
			if n > 0 {
				e.V.L[val] = on(n, 1)
			}
		}
	}))
}

// told is the engine whose nodes, in order, are told of these epochs.
func told(e api.Eng, epochs ...uint64) api.Eng {
	return changed(e, func(e *api.Eng) {
		for i, epoch := range epochs {
			e.T.N[i].Just = epoch
		}
	})
}

// isSameEng, and isSame, are the tests' own.
func isSameEng(a, b api.Eng) bool {
	return slices.Equal(a.T.N, b.T.N) && slices.Equal(a.Bal, b.Bal) && slices.Equal(a.V.L, b.V.L) && a.V.Out == b.V.Out &&
		slices.Equal(a.W, b.W) && slices.Equal(a.Late, b.Late) && slices.Equal(a.K, b.K) && slices.Equal(a.J, b.J) &&
		a.Fin == b.Fin && a.Now == b.Now
}

func isSame(a, b api.Snap) bool {
	return a.Ver == b.Ver && slices.Equal(a.T.N, b.T.N) && a.Head == b.Head && a.Just == b.Just && a.Fin == b.Fin
}

func cloneSnap(s api.Snap) api.Snap {
	s.T.N = slices.Clone(s.T.N)
	return s
}

func changedSnap(s api.Snap, change func(*api.Snap)) api.Snap {
	s = cloneSnap(s)
	change(&s)
	return s
}

// The plain ways are the tests' own, by the words; of what is below they ask for what may be alone.

func place(t api.Tree, r api.Root) int {
	return slices.IndexFunc(t.N, func(n api.Node) bool { return n.Root == r })
}

// above goes up from a root by parents, in a tree that may be.
func above(t api.Tree, up, down api.Root) bool {
	for at := place(t, down); at >= 0; at = t.N[at].Parent {
		if t.N[at].Root == up {
			return true
		}
	}
	return false
}

func greater(a, b api.Root) bool { return bytes.Compare(a[:], b[:]) > 0 }

func plainJust(e api.Eng) api.Check {
	out := e.Fin
	for _, c := range e.J {
		if !above(e.T, e.Fin.Root, c.Root) {
			continue
		}
		if c.Epoch > out.Epoch || c.Epoch == out.Epoch && greater(c.Root, out.Root) {
			out = c
		}
	}
	return out
}

// plainLeads asks for a leaf below a root.
func plainLeads(e api.Eng, epoch uint64, r api.Root) bool {
	for i, n := range e.T.N {
		isParent := slices.ContainsFunc(e.T.N, func(k api.Node) bool { return k.Parent == i })
		if !isParent && n.Just >= epoch && above(e.T, e.Fin.Root, n.Root) && above(e.T, r, n.Root) {
			return true
		}
	}
	return false
}

func plainHead(e api.Eng, just api.Check) api.Root {
	head := place(e.T, just.Root)
	for {
		next := -1
		for i, n := range e.T.N {
			if n.Parent != head || !plainLeads(e, just.Epoch, n.Root) {
				continue
			}
			if next < 0 || e.W[i] > e.W[next] || e.W[i] == e.W[next] && greater(n.Root, e.T.N[next].Root) {
				next = i
			}
		}
		if next < 0 {
			return e.T.N[head].Root
		}
		head = next
	}
}

func plainOf(e api.Eng, ver int) api.Snap {
	if !engine.May(e) {
		return api.Snap{}
	}
	just := plainJust(e)
	return api.Snap{Ver: ver, T: e.T, Head: plainHead(e, just), Just: just, Fin: e.Fin}
}

func plainMay(s api.Snap) bool {
	if !tree.May(s.T) {
		return false
	}
	for _, r := range []api.Root{s.Head, s.Just.Root, s.Fin.Root} {
		if place(s.T, r) < 0 {
			return false
		}
	}
	return above(s.T, s.Fin.Root, s.Head) && above(s.T, s.Fin.Root, s.Just.Root)
}

func plainAnc(t api.Tree, r api.Root, slot uint64) api.Resp {
	at := place(t, r)
	if at < 0 {
		return api.Resp{E: api.ErrUnknown}
	}
	for ; at >= 0; at = t.N[at].Parent {
		if t.N[at].Slot <= slot {
			return api.Resp{R: t.N[at].Root}
		}
	}
	return api.Resp{E: api.ErrOld}
}

func plainAsk(s api.Snap, c api.Call) api.Resp {
	if !plainMay(s) {
		return api.Resp{E: api.ErrArg}
	}
	switch c.Kind {
	case 5:
		return api.Resp{R: s.Head}
	case 6:
		return plainAnc(s.T, c.A, c.Slot)
	case 7:
		if place(s.T, c.A) < 0 || place(s.T, c.B) < 0 {
			return api.Resp{E: api.ErrUnknown}
		}
		return api.Resp{Is: above(s.T, c.A, c.B)}
	case 8:
		return api.Resp{C: s.Fin}
	}
	return api.Resp{E: api.ErrArg}
}

// holdOf wants what is published of an engine, and that the engine stays as it was.
func holdOf(t *testing.T, what string, e api.Eng, ver int, want api.Snap) {
	t.Helper()
	was := clone(e)
	got := Of(e, ver)
	if plain := plainOf(was, ver); !isSame(got, want) || !isSame(plain, want) {
		t.Errorf("%s: Of(%v, %d)\n= %v, the plain way %v,\nwant %v", what, was, ver, got, plain, want)
	}
	if !isSameEng(e, was) {
		t.Errorf("%s: Of changed %v to %v", what, was, e)
	}
}

// holdHead wants that head, and what is justified, of an engine that may be; all else is the engine's.
func holdHead(t *testing.T, what string, e api.Eng, head int, just api.Check) {
	t.Helper()
	if !engine.May(e) {
		t.Fatalf("%s: %v may not be", what, e)
	}
	holdOf(t, what, e, 9, api.Snap{Ver: 9, T: e.T, Head: name(head), Just: just, Fin: e.Fin})
	if s := Of(e, 9); !May(s) {
		t.Errorf("%s: %v may not be", what, s)
	}
}

func holdMay(t *testing.T, what string, s api.Snap, want bool) {
	t.Helper()
	was := cloneSnap(s)
	if got := May(s); got != want || plainMay(s) != want {
		t.Errorf("%s: May(%v) = %v, the plain way %v, want %v", what, s, got, plainMay(s), want)
	}
	if !isSame(s, was) {
		t.Errorf("%s: May changed %v to %v", what, was, s)
	}
}

func holdAsk(t *testing.T, s api.Snap, c api.Call, want api.Resp) {
	t.Helper()
	was, raw := cloneSnap(s), slices.Clone(c.Raw)
	if got := Ask(s, c); got != want || plainAsk(s, c) != want {
		t.Errorf("Ask(%v, %v) = %v, the plain way %v, want %v", s, c, got, plainAsk(s, c), want)
	}
	if !isSame(s, was) || !bytes.Equal(c.Raw, raw) {
		t.Errorf("Ask changed %v to %v, or %v to %v", was, s, raw, c.Raw)
	}
}

// of is an engine, and what is to be seen by it.
type of struct {
	what string
	e    api.Eng
}

func with(what string, e api.Eng, change func(*api.Eng)) of { return of{what, changed(e, change)} }

// seen is a snapshot, and what is to be seen by it.
type seen struct {
	what string
	s    api.Snap
}

// shot is what is published of ready.
func shot() api.Snap {
	return api.Snap{Ver: 4, T: bush(), Head: name(8), Just: check(1, 2), Fin: check(0, 1)}
}

func but(what string, change func(*api.Snap)) seen { return seen{what, changedSnap(shot(), change)} }

// calls are of all kinds that there are, and of some that there are not.
func calls() []api.Call {
	var out []api.Call
	for _, kind := range kinds() {
		out = append(out,
			api.Call{Kind: kind},
			api.Call{Kind: kind, Raw: []byte{1, 2, 3}, A: name(2), B: name(7), Slot: 9},
			api.Call{Kind: kind, A: name(7), B: name(2), Slot: 4},
			api.Call{Kind: kind, A: name(9), B: name(2), Slot: last})
	}
	return out
}

func kinds() []int {
	return append([]int{0, 1, 2, 3, 4, 5, 6, 7, 8}, kindsThatAreNone()...)
}

func kindsThatAreNone() []int {
	return []int{least, least + 5, -8, -7, -6, -5, -2, -1, 9, 10, 13, 64 + 5, 256 + 5, 256 + 6, 1<<32 + 5, 1<<32 + 7, greatest - 1, greatest}
}

// The chapter's example: of an engine that begins the head is its first block.
func TestExample(t *testing.T) {
	for _, r := range []api.Root{{}, name(1), {31: 1}} {
		e, is := engine.New(r, []uint64{1, 1, 1})
		if !is {
			t.Fatal("there is none")
		}
		first := api.Check{Root: r}
		want := api.Snap{Ver: 0, T: api.Tree{N: []api.Node{{Root: r, Parent: -1}}}, Head: r, Just: first, Fin: first}
		holdOf(t, "it begins", e, 0, want)
		s := Of(e, 0)
		holdMay(t, "it begins", s, true)
		holdAsk(t, s, api.Call{Kind: api.CallHead}, api.Resp{R: r})
		holdAsk(t, s, api.Call{Kind: api.CallFin}, api.Resp{C: first})
		holdAsk(t, s, api.Call{Kind: api.CallAnc, A: r}, api.Resp{R: r})
		holdAsk(t, s, api.Call{Kind: api.CallDesc, A: r, B: r}, api.Resp{Is: true})
	}
}

// P18.1: what is published tells the engine's tree and what is final, of whatever version.
func TestOfAnyVersion(t *testing.T) {
	for _, ver := range []int{0, 1, 7, 255, 256, 1 << 32, -1, -7, least, least + 1, greatest - 1, greatest} {
		holdOf(t, "ready", ready(), ver, api.Snap{Ver: ver, T: bush(), Head: name(8), Just: check(1, 2), Fin: check(0, 1)})
		holdOf(t, "later", later(), ver, api.Snap{Ver: ver, T: bush(), Head: name(7), Just: check(2, 4), Fin: check(1, 2)})
		holdOf(t, "begun", begun(), ver, api.Snap{Ver: ver, T: begun().T, Head: name(1), Just: check(0, 1), Fin: check(0, 1)})
		holdOf(t, "a zero one", api.Eng{}, ver, api.Snap{})
		holdOf(t, "one that may not be", changed(ready(), func(e *api.Eng) { e.W[0]++ }), ver, api.Snap{})
	}
}

// P18.1: what is justified: the better one of what is final, and of those of J behind it.
func TestJust(t *testing.T) {
	holdHead(t, "by a link", ready(), 8, check(1, 2))
	holdHead(t, "by two links", later(), 7, check(2, 4))
	holdHead(t, "the first block, which is final", free(check(0, 1)), 8, check(0, 1))
	holdHead(t, "the first block, which is final, of an epoch", free(check(7, 1)), 1, check(7, 1))
	holdHead(t, "the first block, of a later epoch", free(check(0, 1), check(1, 1)), 8, check(1, 1))
	holdHead(t, "a later one, which is final", free(check(1, 4)), 8, check(1, 4))
	holdHead(t, "what is final, and one ahead of it of a less epoch", free(check(1, 2), check(0, 1)), 8, check(1, 2))
	holdHead(t, "what is final, and one ahead of it of a greater epoch", free(check(1, 2), check(2, 1)), 8, check(1, 2))
	holdHead(t, "what is final, and one beside it of a greater epoch", free(check(0, 3), check(5, 2)), 6, check(0, 3))
	holdHead(t, "one behind, of a less epoch than what is final", free(check(2, 2), check(1, 4)), 7, check(2, 2))
	holdHead(t, "of two epochs the greater one, there first", free(check(0, 1), check(2, 4), check(1, 8)), 7, check(2, 4))
	holdHead(t, "of two epochs the greater one, there last", free(check(0, 1), check(1, 8), check(2, 4)), 7, check(2, 4))
	holdHead(t, "of one epoch the greater root", free(check(0, 1), check(1, 5), check(1, 4)), 5, check(1, 5))
	holdHead(t, "of one epoch the greater root, there last", free(check(0, 1), check(1, 4), check(1, 5)), 5, check(1, 5))
	holdHead(t, "of what is final, too", free(check(1, 2), check(1, 4)), 8, check(1, 4))
	holdHead(t, "the greatest epoch", free(check(last-1, 1), check(last, 2)), 2, check(last, 2))
	holdHead(t, "the greatest epoch, final", free(check(last, 2), check(0, 4)), 2, check(last, 2))
}

// P18.1: from where one begins down, where it ends at once.
func TestHeadAtOnce(t *testing.T) {
	holdHead(t, "a leaf that may be a head", free(check(0, 1), check(2, 7)), 7, check(2, 7))
	holdHead(t, "a leaf that may not be a head", free(check(0, 1), check(3, 7)), 7, check(3, 7))
	holdHead(t, "a leaf of another branch", free(check(0, 1), check(9, 6)), 6, check(9, 6))
	holdHead(t, "a leaf that is final", free(check(1, 5), check(3, 2)), 5, check(1, 5))
	holdHead(t, "one behind which no leaf may be a head, but beside it", free(check(0, 1), check(1, 3)), 3, check(1, 3))
	holdHead(t, "one behind which no leaf may be a head, nor any", free(check(0, 1), check(3, 2)), 2, check(3, 2))
	holdHead(t, "the first one, where no leaf may be a head", free(check(0, 1), check(3, 1)), 1, check(3, 1))
	holdHead(t, "one that is told of the epoch itself, but no leaf is", told(free(check(0, 1), check(3, 4)), 3, 3, 3, 3, 2, 2, 2, 2), 4, check(3, 4))
}

// P18.1: which one of several weighs most, and of the same the greater root.
func TestHeadByWeight(t *testing.T) {
	all := free(check(0, 1))
	holdHead(t, "the one branch", voted(all, 5, 5, 5, 5), 5, check(0, 1))
	holdHead(t, "the other branch", voted(all, 0, 0, 0, 3), 6, check(0, 1))
	holdHead(t, "the other branch, by one more", voted(all, 2, 3, 0, 0), 6, check(0, 1))
	holdHead(t, "more there together, but behind 2 less", voted(all, 7, 8, 5, 6), 8, check(0, 1))
	holdHead(t, "each leaf weighs less than 6", voted(all, 8, 0, 5, 6), 5, check(0, 1))
	holdHead(t, "no votes at all", voted(all, 0, 0, 0, 0), 6, check(0, 1))
	holdHead(t, "the same at each fork", voted(all, 1, 1, 2, 4), 8, check(0, 1))
	holdHead(t, "votes ahead of where one begins", voted(free(check(0, 2)), 1, 1, 6, 6), 5, check(0, 2))
	same := changed(voted(all, 4, 5, 5, 4), func(e *api.Eng) { e.Bal = []uint64{5, 5, 8, 8} })
	holdHead(t, "two that weigh the same", weighed(same), 5, check(0, 1))
	turned := changed(weighed(same), func(e *api.Eng) { e.T.N[3].Root, e.V.L[0].Root, e.V.L[3].Root = name(50), name(50), name(50) })
	holdHead(t, "two that weigh the same, the first one of the greater root", turned, 8, check(0, 1))
	holdHead(t, "one more there", weighed(changed(same, func(e *api.Eng) { e.Bal[3]++ })), 8, check(0, 1))
	most := changed(voted(all, 5, 4, 4, 0), func(e *api.Eng) { e.Bal = []uint64{top, top, 0, 0} })
	holdHead(t, "the most that there may be, the same", weighed(most), 5, check(0, 1))
	holdHead(t, "the most that there may be", weighed(changed(most, func(e *api.Eng) { e.Bal[2] = 1 })), 8, check(0, 1))
}

// P18.1: leaves that are told of another epoch than what is justified.
func TestHeadByEpochs(t *testing.T) {
	heavy := voted(free(check(2, 1)), 8, 8, 8, 6)
	for _, x := range []struct {
		five, six, seven, eight uint64
		want                    int
	}{
		{2, 2, 2, 2, 8},
		{2, 2, 2, 3, 8},
		{2, 2, 2, last, 8},
		{2, 2, 2, 1, 7},
		{2, 2, 2, 0, 7},
		{2, 2, 1, 1, 5},
		{1, 2, 1, 1, 6},
		{0, 2, 3, 0, 7},
		{1, 1, 1, 2, 8},
		{1, 1, 1, 1, 1},
		{0, 3, 0, 0, 6},
		{0, 0, 0, 0, 1},
		{last, 0, 0, 1, 5},
	} {
		// What is above a leaf may be told of any.
		for _, up := range []uint64{0, 2, last} {
			e := told(heavy, up, up, up, up, x.five, x.six, x.seven, x.eight)
			holdHead(t, "leaves of other epochs", e, x.want, check(2, 1))
		}
	}
	// It is the epoch of what is justified, not of what is final, nor of a greater one that is not behind it.
	holdHead(t, "by what is justified", told(free(check(1, 1), check(2, 2)), 0, 0, 0, 0, 1, 9, 2, 1), 7, check(2, 2))
	holdHead(t, "not by what is beside it", told(free(check(1, 2), check(2, 3)), 0, 0, 0, 0, 1, 9, 2, 1), 8, check(1, 2))
	holdHead(t, "by the greatest epoch", told(free(check(0, 1), check(last, 2)), 0, 0, 0, 0, last, 0, last-1, last-1), 5, check(last, 2))
}

func badTrees() []of {
	return []of{
		with("no tree", ready(), func(e *api.Eng) { e.T = api.Tree{} }),
		with("no tree, no W", free(check(0, 1)), func(e *api.Eng) { e.T, e.W = api.Tree{}, nil }),
		with("thirteen nodes", ready(), func(e *api.Eng) {
			for i := 9; i < 14; i++ {
				e.T.N, e.W = append(e.T.N, api.Node{Root: name(i), Parent: 0, Slot: 30}), append(e.W, 0)
			}
		}),
		with("two nodes of one root", ready(), func(e *api.Eng) { e.T.N[2].Root = name(4) }),
		with("a slot above 2^40", ready(), func(e *api.Eng) { e.T.N[7].Slot = top + 1 }),
		with("a slot that is its parent's", ready(), func(e *api.Eng) { e.T.N[7].Slot = 9 }),
		with("two without a parent", ready(), func(e *api.Eng) { e.T.N[2].Parent = -1 }),
		with("a parent that comes later", ready(), func(e *api.Eng) { e.T.N[5].Parent = 7 }),
		with("a parent of the first one", ready(), func(e *api.Eng) { e.T.N[0].Parent = 0 }),
	}
}

func badVotes() []of {
	return []of{
		with("no balances", free(check(0, 1)), func(e *api.Eng) { e.Bal, e.V, e.W = nil, api.Votes{}, make([]uint64, 8) }),
		with("nine balances", ready(), func(e *api.Eng) {
			e.Bal, e.V.L = append(e.Bal, make([]uint64, 5)...), append(e.V.L, make([]api.Latest, 5)...)
		}),
		with("a balance above 2^40", voted(free(check(0, 1)), 7, 8, 5, 0), func(e *api.Eng) { e.Bal[3] = top + 1 }),
		with("a balance more than there are votes", ready(), func(e *api.Eng) { e.Bal = append(e.Bal, 0) }),
		with("a vote more than there are balances", ready(), func(e *api.Eng) { e.V.L = append(e.V.L, api.Latest{}) }),
		with("out is one who is none", ready(), func(e *api.Eng) { e.V.Out = 16 }),
		with("out is one who has a vote", ready(), func(e *api.Eng) { e.V.Out = 1 }),
		with("an epoch without a vote", voted(ready(), 7, 8, 5, 0), func(e *api.Eng) { e.V.L[3].Epoch = 1 }),
		with("a vote for a root that is not there", voted(ready(), 7, 8, 5, 0), func(e *api.Eng) { e.V.L[3] = on(9, 1) }),
		with("a W more", ready(), func(e *api.Eng) { e.W = append(e.W, 0) }),
		with("a W fewer", ready(), func(e *api.Eng) { e.W = e.W[:7] }),
		with("no W", ready(), func(e *api.Eng) { e.W = nil }),
		with("the first W one more", ready(), func(e *api.Eng) { e.W[0]++ }),
		with("the last W one less", ready(), func(e *api.Eng) { e.W[7]-- }),
	}
}

func badLate() []of {
	return []of{
		with("seven wait", ready(), func(e *api.Eng) { e.Late = slices.Repeat(e.Late, 7) }),
		with("one waits for a slot above 2^40", ready(), func(e *api.Eng) { e.Late[0].Slot = top + 1 }),
		with("a Slot below Now", ready(), func(e *api.Eng) { e.Late[0].Slot = 19 }),
		with("Now above 2^40", ready(), func(e *api.Eng) { e.Now, e.Late = top+1, nil }),
	}
}

func badLinks() []of {
	return []of{
		with("two links that are one", ready(), func(e *api.Eng) { e.K = append(e.K, by(1, check(0, 1), check(1, 2))) }),
		with("seventeen links", free(check(0, 1)), func(e *api.Eng) {
			for i := range 17 {
				e.K = append(e.K, by(1, check(0, 1), check(uint64(i+1), 1)))
			}
		}),
		with("a link of nobody", ready(), func(e *api.Eng) { e.K = append(e.K, by(0, check(1, 2), check(2, 4))) }),
		with("a link to the same epoch", ready(), func(e *api.Eng) { e.K = append(e.K, by(1, check(1, 2), check(1, 4))) }),
		with("a link's source is not there", ready(), func(e *api.Eng) { e.K = append(e.K, by(1, check(0, 9), check(1, 2))) }),
		with("a link's target is not there", ready(), func(e *api.Eng) { e.K = append(e.K, by(1, check(0, 1), check(1, 9))) }),
	}
}

func badChecks() []of {
	return []of{
		with("Fin not of J, another root", ready(), func(e *api.Eng) { e.Fin = check(0, 2) }),
		with("Fin not of J, another epoch", ready(), func(e *api.Eng) { e.Fin = check(2, 1) }),
		with("Fin not of J, nor in T", ready(), func(e *api.Eng) { e.Fin = check(0, 9) }),
		with("no J", free(check(0, 1)), func(e *api.Eng) { e.J = nil }),
		with("one twice in J", ready(), func(e *api.Eng) { e.J = append(e.J, check(1, 2)) }),
		with("a root of J is not there", ready(), func(e *api.Eng) { e.J = append(e.J, check(5, 9)) }),
		of{"the root of Fin is not there", free(check(0, 9))},
		with("more is justified", ready(), func(e *api.Eng) { e.J = e.J[:1] }),
		with("a later one is final", later(), func(e *api.Eng) { e.Fin = check(0, 1) }),
	}
}

func engsThatMayNotBe() []of {
	return slices.Concat([]of{{"a zero one", api.Eng{}}}, badTrees(), badVotes(), badLate(), badLinks(), badChecks())
}

// P18.1: of an engine that may not be, by each part alone, a zero one.
func TestOfEngineThatMayNotBe(t *testing.T) {
	for _, e := range []api.Eng{ready(), later(), free(check(0, 1)), voted(ready(), 7, 8, 5, 0), begun()} {
		if !engine.May(e) || isSame(Of(e, 3), api.Snap{}) {
			t.Fatalf("%v may not be", e)
		}
	}
	for _, x := range engsThatMayNotBe() {
		for _, ver := range []int{0, 3, -1} {
			holdOf(t, x.what, x.e, ver, api.Snap{})
		}
	}
}

// treesThatMayNotBe are such as may not be for one thing alone.
func treesThatMayNotBe() []api.Tree {
	out := []api.Tree{{}, {N: []api.Node{}}}
	for _, x := range badTrees() {
		out = append(out, x.e.T)
	}
	return out
}

// snapsThatMay are by whatever they are not asked for.
func snapsThatMay() []seen {
	out := []seen{
		{"of ready", shot()}, {"of one", Of(begun(), 0)}, {"of later", Of(later(), 5)},
		but("a version below 0", func(s *api.Snap) { s.Ver = -1 }),
		but("the least version", func(s *api.Snap) { s.Ver = least }),
		but("the greatest version", func(s *api.Snap) { s.Ver = greatest }),
		but("Fin of a greater epoch than Just", func(s *api.Snap) { s.Fin.Epoch = 9 }),
		but("Fin of the greatest epoch", func(s *api.Snap) { s.Fin.Epoch = last }),
		but("Just of the greatest epoch", func(s *api.Snap) { s.Just.Epoch = last }),
		but("all one", func(s *api.Snap) { s.Head, s.Just, s.Fin = name(7), check(2, 7), check(2, 7) }),
		but("Just is Fin's, and Head is behind", func(s *api.Snap) { s.Just, s.Fin = check(2, 4), check(1, 4) }),
		but("Head is Fin's, and Just is behind", func(s *api.Snap) { s.Head, s.Just, s.Fin = name(2), check(1, 8), check(0, 2) }),
		but("Head is above Just", func(s *api.Snap) { s.Head, s.Just = name(2), check(1, 8) }),
		but("Head is beside Just", func(s *api.Snap) { s.Head = name(6) }),
		but("Just is beside Head", func(s *api.Snap) { s.Just = check(1, 3) }),
		but("Head is no leaf", func(s *api.Snap) { s.Head = name(4) }),
		but("another leaf weighs more", func(s *api.Snap) { s.Head = name(7) }),
		but("the zero root", func(s *api.Snap) {
			s.T.N[7].Root, s.Head, s.Just.Root = api.Root{}, api.Root{}, api.Root{}
		}),
		but("all of the zero root", func(s *api.Snap) {
			s.T.N[0].Root, s.Head, s.Just.Root, s.Fin.Root = api.Root{}, api.Root{}, api.Root{}, api.Root{}
		}),
	}
	for n := 1; n <= 8; n++ {
		out = append(out, but("any head", func(s *api.Snap) { s.Head = name(n) }), but("any that is justified", func(s *api.Snap) { s.Just = check(7, n) }))
	}
	return out
}

// snapsThatMayNot are such for one thing alone.
func snapsThatMayNot() []seen {
	out := []seen{
		{"a zero one", api.Snap{}}, {"of a zero engine", Of(api.Eng{}, 4)},
		but("Head is not there", func(s *api.Snap) { s.Head = name(9) }),
		but("Head is the zero root", func(s *api.Snap) { s.Head = api.Root{} }),
		but("Head is another one by the last byte", func(s *api.Snap) { s.Head[31]++ }),
		but("Just's Root is not there", func(s *api.Snap) { s.Just.Root = name(9) }),
		but("Just's Root is the zero one", func(s *api.Snap) { s.Just = api.Check{} }),
		but("Fin's Root is not there", func(s *api.Snap) { s.Fin.Root = name(9) }),
		but("Fin's Root is the zero one", func(s *api.Snap) { s.Fin = api.Check{} }),
		but("none of them is there", func(s *api.Snap) { s.Head, s.Just.Root, s.Fin.Root = name(9), name(9), name(9) }),
		but("Fin and Just are not there", func(s *api.Snap) { s.Just.Root, s.Fin.Root = name(9), name(9) }),
		but("Fin and Head are not there", func(s *api.Snap) { s.Head, s.Fin.Root = name(9), name(9) }),
		but("Fin is beside Just", func(s *api.Snap) { s.Just, s.Fin = check(1, 5), check(0, 4) }),
		but("Fin is below Just", func(s *api.Snap) { s.Just, s.Fin = check(1, 2), check(0, 4) }),
		but("Fin is beside Head", func(s *api.Snap) { s.Head, s.Just, s.Fin = name(6), check(1, 4), check(0, 2) }),
		but("Fin is below Head", func(s *api.Snap) { s.Head, s.Just, s.Fin = name(2), check(1, 8), check(0, 4) }),
		but("Fin is below both", func(s *api.Snap) { s.Head, s.Just, s.Fin = name(2), check(1, 2), check(0, 4) }),
	}
	for _, tr := range treesThatMayNotBe() {
		out = append(out, but("the tree may not be", func(s *api.Snap) { s.T = tr }))
	}
	return out
}

// P18.2: May, by each of its parts alone, and whatever is not asked for.
func TestMay(t *testing.T) {
	for _, x := range snapsThatMay() {
		holdMay(t, x.what, x.s, true)
	}
	for _, x := range snapsThatMayNot() {
		holdMay(t, x.what, x.s, false)
	}
}

// P18.2: May of each three of a tree's roots, and of one that is not there.
func TestMayOfAnyRoots(t *testing.T) {
	count := 0
	for fin := 1; fin <= 9; fin++ {
		for just := 1; just <= 9; just++ {
			for head := 1; head <= 9; head++ {
				s := api.Snap{T: bush(), Head: name(head), Just: check(0, just), Fin: check(3, fin)}
				want := plainMay(s)
				holdMay(t, "any roots", s, want)
				if want {
					count++
				}
			}
		}
	}
	// All that a node is above, itself too, by itself.
	if want := 8*8 + 5*5 + 2*2 + 3*3 + 4; count != want {
		t.Errorf("%d may be, want %d", count, want)
	}
}

// differing are all that differ from shot by one part alone.
func differing() []seen {
	return []seen{
		but("the version", func(s *api.Snap) { s.Ver++ }),
		but("the version, below", func(s *api.Snap) { s.Ver = -4 }),
		but("the version, far off", func(s *api.Snap) { s.Ver += 1 << 32 }),
		but("a node's root", func(s *api.Snap) { s.T.N[5].Root = name(9) }),
		but("a node's parent", func(s *api.Snap) { s.T.N[5].Parent = 1 }),
		but("a node's slot", func(s *api.Snap) { s.T.N[5].Slot++ }),
		but("what a node is told of", func(s *api.Snap) { s.T.N[5].Just++ }),
		but("the first node's slot", func(s *api.Snap) { s.T.N[0].Slot-- }),
		but("a node fewer", func(s *api.Snap) { s.T.N = s.T.N[:7] }),
		but("a node more", func(s *api.Snap) { s.T.N = append(s.T.N, api.Node{Root: name(9), Slot: 30}) }),
		but("no nodes", func(s *api.Snap) { s.T = api.Tree{} }),
		but("nodes in another order", func(s *api.Snap) { slices.Reverse(s.T.N) }),
		but("two nodes in another order", func(s *api.Snap) { s.T.N[3], s.T.N[4] = s.T.N[4], s.T.N[3] }),
		but("the head", func(s *api.Snap) { s.Head = name(7) }),
		but("the head's first byte", func(s *api.Snap) { s.Head[0]++ }),
		but("the head's last byte", func(s *api.Snap) { s.Head[31]++ }),
		but("Just's epoch", func(s *api.Snap) { s.Just.Epoch++ }),
		but("Just's root", func(s *api.Snap) { s.Just.Root = name(4) }),
		but("Fin's epoch", func(s *api.Snap) { s.Fin.Epoch = last }),
		but("Fin's root", func(s *api.Snap) { s.Fin.Root = name(2) }),
		but("Just and Fin, each the other one", func(s *api.Snap) { s.Just, s.Fin = s.Fin, s.Just }),
	}
}

// P18.2: two are the same, if no part is another one.
func TestSame(t *testing.T) {
	all := slices.Concat([]seen{{"of ready", shot()}, {"a zero one", api.Snap{}}, {"of later", Of(later(), 5)}}, differing())
	for i, a := range all {
		for k, b := range all {
			was, to := cloneSnap(a.s), cloneSnap(b.s)
			if Same(a.s, b.s) != (i == k) || Same(a.s, to) != (i == k) {
				t.Errorf("Same of %s and %s", a.what, b.what)
			}
			if !isSame(a.s, was) || !isSame(b.s, to) {
				t.Errorf("Same changed %s, or %s", a.what, b.what)
			}
		}
	}
	// R6: nil and empty.
	empty := api.Snap{T: api.Tree{N: []api.Node{}}}
	if !Same(empty, api.Snap{}) || !Same(api.Snap{}, empty) {
		t.Error("Same of nil and empty")
	}
	if !Same(shot(), Of(ready(), 4)) || Same(shot(), Of(ready(), 5)) {
		t.Error("Same of what is published")
	}
}

// P18.2: what is told of any snapshot, also of one that may not be.
func TestNote(t *testing.T) {
	if got, want := Note(shot()), (api.Note{Ver: 4, Head: name(8), Fin: check(0, 1)}); got != want {
		t.Errorf("Note of %v = %v, want %v", shot(), got, want)
	}
	odd := api.Snap{Ver: -3, Head: name(80), Just: check(1, 81), Fin: check(last, 82)}
	if got, want := Note(odd), (api.Note{Ver: -3, Head: name(80), Fin: check(last, 82)}); got != want {
		t.Errorf("Note of %v = %v, want %v", odd, got, want)
	}
	for _, x := range slices.Concat(snapsThatMay(), snapsThatMayNot(), differing()) {
		was := cloneSnap(x.s)
		if got, want := Note(x.s), (api.Note{Ver: x.s.Ver, Head: x.s.Head, Fin: x.s.Fin}); got != want || !isSame(x.s, was) {
			t.Errorf("%s: Note of %v = %v, and it is %v", x.what, was, got, x.s)
		}
	}
}

// P18.3: of a snapshot that may not be, whatever is asked: ErrArg.
func TestAskOfOneThatMayNotBe(t *testing.T) {
	for _, x := range snapsThatMayNot() {
		for _, c := range calls() {
			holdAsk(t, x.s, c, api.Resp{E: api.ErrArg})
		}
	}
}

// P18.3: the head, and what is final, whatever else is told.
func TestAskHeadAndFin(t *testing.T) {
	for _, s := range []api.Snap{
		shot(), Of(begun(), 1), Of(later(), -2),
		changedSnap(shot(), func(s *api.Snap) { s.Head, s.Just, s.Fin = name(5), check(6, 8), check(last, 2) }),
	} {
		for _, c := range []api.Call{{}, {A: name(9), B: name(9), Slot: 1}, {A: name(1), B: name(2), Slot: last}, {Raw: []byte{1, 2}}} {
			c.Kind = api.CallHead
			holdAsk(t, s, c, api.Resp{R: s.Head})
			c.Kind = api.CallFin
			holdAsk(t, s, c, api.Resp{C: s.Fin})
		}
	}
}

// P18.3: the ancestor at a slot.
func TestAskAnc(t *testing.T) {
	s := shot()
	for _, x := range []struct {
		a    int
		slot uint64
		want int
	}{
		// Its own slot, and later ones.
		{7, 12, 7}, {7, 13, 7}, {7, 20, 7}, {7, top, 7}, {7, top + 1, 7}, {7, last, 7},
		{1, 3, 1}, {1, 4, 1}, {1, last, 1}, {6, 20, 6}, {6, last, 6}, {8, 13, 8}, {2, 5, 2},
		// Just below it, between two, at those above.
		{7, 11, 4}, {7, 10, 4}, {7, 9, 4}, {7, 8, 2}, {7, 6, 2}, {7, 5, 2}, {7, 4, 1}, {7, 3, 1},
		{8, 12, 4}, {8, 8, 2}, {6, 19, 3}, {6, 5, 3}, {6, 4, 3}, {6, 3, 1}, {5, 7, 2}, {5, 4, 1}, {2, 4, 1}, {3, 3, 1},
		// Ahead of the first one's: 0 is none.
		{7, 2, 0}, {7, 0, 0}, {1, 2, 0}, {1, 0, 0}, {6, 2, 0}, {6, 1, 0}, {2, 2, 0},
	} {
		want := api.Resp{R: name(x.want)}
		if x.want == 0 {
			want = api.Resp{E: api.ErrOld}
		}
		for _, b := range []int{0, 2, 7, 9} {
			holdAsk(t, s, api.Call{Kind: api.CallAnc, A: name(x.a), B: name(b), Slot: x.slot}, want)
			holdAsk(t, s, api.Call{Kind: api.CallAnc, A: name(x.a), B: name(b), Slot: x.slot, Raw: []byte{7}}, want)
		}
	}
	// Not there, by any slot.
	for _, a := range []api.Root{{}, name(9), {7}, {31: 7}, {7, 15: 7}, {7, 15: 7, 31: 8}} {
		for _, slot := range []uint64{0, 2, 3, 12, top, last} {
			holdAsk(t, s, api.Call{Kind: api.CallAnc, A: a, B: name(2), Slot: slot}, api.Resp{E: api.ErrUnknown})
		}
	}
	// Ahead of what is final it is asked as any other one.
	beyond := changedSnap(s, func(s *api.Snap) { s.Just, s.Fin = check(2, 4), check(1, 4) })
	holdAsk(t, beyond, api.Call{Kind: api.CallAnc, A: name(7), Slot: 4}, api.Resp{R: name(1)})
	holdAsk(t, beyond, api.Call{Kind: api.CallAnc, A: name(6), Slot: 4}, api.Resp{R: name(3)})
	// The first block in slot 0, and the last one in the greatest one.
	ends := changedSnap(s, func(s *api.Snap) { s.T.N[0].Slot, s.T.N[7].Slot = 0, top })
	holdAsk(t, ends, api.Call{Kind: api.CallAnc, A: name(8)}, api.Resp{R: name(1)})
	holdAsk(t, ends, api.Call{Kind: api.CallAnc, A: name(8), Slot: top - 1}, api.Resp{R: name(4)})
	holdAsk(t, ends, api.Call{Kind: api.CallAnc, A: name(8), Slot: top}, api.Resp{R: name(8)})
	// The zero root is one as any other, where it is there.
	zero := changedSnap(s, func(s *api.Snap) { s.T.N[2].Root = api.Root{} })
	holdAsk(t, zero, api.Call{Kind: api.CallAnc, Slot: 4}, api.Resp{})
	holdAsk(t, zero, api.Call{Kind: api.CallAnc, Slot: 3}, api.Resp{R: name(1)})
	holdAsk(t, zero, api.Call{Kind: api.CallAnc, A: name(6), Slot: 9}, api.Resp{})
}

// P18.3: whether one descends from another one.
func TestAskDesc(t *testing.T) {
	s := shot()
	below := map[int][]int{1: {1, 2, 3, 4, 5, 6, 7, 8}, 2: {2, 4, 5, 7, 8}, 3: {3, 6}, 4: {4, 7, 8}, 5: {5}, 6: {6}, 7: {7}, 8: {8}}
	for a := range 11 {
		for b := range 11 {
			want := api.Resp{Is: slices.Contains(below[a], b)}
			if below[a] == nil || below[b] == nil {
				want = api.Resp{E: api.ErrUnknown}
			}
			for _, slot := range []uint64{0, 4, last} {
				holdAsk(t, s, api.Call{Kind: api.CallDesc, A: name(a), B: name(b), Slot: slot}, want)
				holdAsk(t, s, api.Call{Kind: api.CallDesc, A: name(a), B: name(b), Slot: slot, Raw: []byte{7}}, want)
			}
		}
	}
	for _, odd := range []api.Root{{}, {2}, {31: 2}, {2, 15: 2, 31: 3}} {
		for _, r := range []api.Root{odd, name(1), name(7)} {
			holdAsk(t, s, api.Call{Kind: api.CallDesc, A: odd, B: r}, api.Resp{E: api.ErrUnknown})
			holdAsk(t, s, api.Call{Kind: api.CallDesc, A: r, B: odd}, api.Resp{E: api.ErrUnknown})
		}
	}
	zero := changedSnap(s, func(s *api.Snap) { s.T.N[2].Root = api.Root{} })
	holdAsk(t, zero, api.Call{Kind: api.CallDesc}, api.Resp{Is: true})
	holdAsk(t, zero, api.Call{Kind: api.CallDesc, B: name(6)}, api.Resp{Is: true})
	holdAsk(t, zero, api.Call{Kind: api.CallDesc, B: name(1)}, api.Resp{})
}

// P18.3: of every other kind ErrArg, whatever else is told.
func TestAskOfOtherKinds(t *testing.T) {
	others := append([]int{api.CallBlock, api.CallAtt, api.CallTick, api.CallPrune, api.CallClose, api.CallKinds}, kindsThatAreNone()...)
	for _, x := range snapsThatMay() {
		for _, kind := range others {
			holdAsk(t, x.s, api.Call{Kind: kind}, api.Resp{E: api.ErrArg})
			holdAsk(t, x.s, api.Call{Kind: kind, Raw: []byte{1}, A: name(2), B: name(7), Slot: 9}, api.Resp{E: api.ErrArg})
		}
	}
}

// P18.2, P18.3: each call of each snapshot by the plain ways.
func TestEachOfEach(t *testing.T) {
	for _, x := range slices.Concat(snapsThatMay(), snapsThatMayNot(), differing()) {
		holdMay(t, x.what, x.s, plainMay(x.s))
		for _, c := range calls() {
			holdAsk(t, x.s, c, plainAsk(x.s, c))
		}
	}
}

// shapes are all trees of so many nodes, by their parents.
func shapes(n int) [][]int {
	lists := [][]int{{-1}}
	for i := 1; i < n; i++ {
		var next [][]int
		for _, l := range lists {
			for p := range i {
				next = append(next, slices.Concat(l, []int{p}))
			}
		}
		lists = next
	}
	return lists
}

// grown is a tree of so many parents, whose names rise, or fall, and whose nodes are told of an epoch as bits have it.
func grown(parents []int, fall bool, bits int) api.Tree {
	var t api.Tree
	for i, p := range parents {
		n := api.Node{Root: name(i + 1), Parent: p, Slot: uint64(2 + 2*i), Just: uint64(bits >> i & 1)}
		if fall {
			n.Root = name(len(parents) - i)
		}
		t.N = append(t.N, n)
	}
	return t
}

// holdSmall holds what is published of a tree, of each two checkpoints of it, the one final, by each vote.
func holdSmall(t *testing.T, tr api.Tree) {
	t.Helper()
	for _, fin := range tr.N {
		for _, just := range tr.N {
			for epoch := range uint64(2) {
				e := api.Eng{T: tr, Bal: []uint64{3}, Fin: api.Check{Root: fin.Root}}
				e.J = []api.Check{e.Fin}
				if j := (api.Check{Epoch: epoch, Root: just.Root}); j != e.Fin {
					e.J = append(e.J, j)
				}
				for vote := 0; vote <= len(tr.N); vote++ {
					e.V = api.Votes{L: make([]api.Latest, 1)}
					if vote > 0 {
						e.V.L[0] = on(vote, 1)
					}
					e = weighed(e)
					if got, want := Of(e, vote), plainOf(e, vote); !isSame(got, want) || !May(got) {
						t.Fatalf("Of(%v, %d)\n= %v\nwant %v", e, vote, got, want)
					}
				}
			}
		}
	}
}

// P18.1: of all trees of up to four nodes.
func TestOfAllSmall(t *testing.T) {
	for n := 1; n <= 4; n++ {
		for _, parents := range shapes(n) {
			for bits := range 1 << n {
				holdSmall(t, grown(parents, false, bits))
				holdSmall(t, grown(parents, true, bits))
			}
		}
	}
}

// P18.3: all that can be asked of all trees of up to five nodes.
func TestAskAllSmall(t *testing.T) {
	for n := 1; n <= 5; n++ {
		for _, parents := range shapes(n) {
			tr := grown(parents, false, 0)
			s := api.Snap{T: tr, Head: tr.N[n-1].Root, Just: check(0, 1), Fin: check(0, 1)}
			for a := range n + 2 {
				for b := range n + 2 {
					c := api.Call{Kind: api.CallDesc, A: name(a), B: name(b)}
					holdAsk(t, s, c, plainAsk(s, c))
				}
				for slot := range uint64(2*n + 4) {
					c := api.Call{Kind: api.CallAnc, A: name(a), Slot: slot}
					holdAsk(t, s, c, plainAsk(s, c))
				}
			}
		}
	}
}

// picker picks a number from 0 to below n, by chance or by bytes.
type picker func(n int) int

// anyTree is one of so many nodes, of names in any order.
func anyTree(pick picker, n int) api.Tree {
	var t api.Tree
	for i := range n {
		x := api.Node{Root: name(i + 1), Parent: -1, Slot: uint64(pick(4)), Just: uint64(pick(4))}
		if i > 0 {
			x.Parent = i - 1 - pick(min(i, 4))
			x.Slot += t.N[x.Parent].Slot + 1
		}
		t.N = append(t.N, x)
	}
	for i := range t.N {
		k := i + pick(n-i)
		t.N[i].Root, t.N[k].Root = t.N[k].Root, t.N[i].Root
	}
	return t
}

// anyEng is one that may be, without links, so that whatever is justified, and final, may be.
func anyEng(pick picker) api.Eng {
	e := api.Eng{T: anyTree(pick, 1+pick(12))}
	some := func() int { return 1 + pick(len(e.T.N)) }
	for range 1 + pick(5) {
		e.Bal = append(e.Bal, uint64(pick(3)))
		l := api.Latest{}
		if pick(4) > 0 {
			l = on(some(), uint64(pick(3)))
		}
		e.V.L = append(e.V.L, l)
	}
	for range 1 + pick(5) {
		if c := check(uint64(pick(4)), some()); !slices.Contains(e.J, c) {
			e.J = append(e.J, c)
		}
	}
	e.Fin = e.J[pick(len(e.J))]
	return weighed(e)
}

// oddEng is the engine with one part changed, so that it may not be, or is another one.
func oddEng(pick picker, e api.Eng) api.Eng {
	return changed(e, func(e *api.Eng) {
		switch pick(9) {
		case 0:
			e.W[pick(len(e.W))] += uint64(pick(3)) - 1
		case 1:
			e.V.L[pick(len(e.V.L))] = on(1+pick(14), uint64(pick(4)))
		case 2:
			e.V.Out ^= 1 << pick(6)
		case 3:
			e.J = append(e.J, check(uint64(pick(6)), 1+pick(14)))
		case 4:
			e.J = slices.Delete(e.J, 0, pick(len(e.J)+1))
		case 5:
			e.Fin = check(uint64(pick(4)), 1+pick(14))
		case 6:
			e.K = append(e.K, by(uint64(1+pick(31)), check(uint64(pick(3)), 1+pick(12)), check(uint64(1+pick(4)), 1+pick(12))))
		case 7:
			e.T.N[pick(len(e.T.N))].Root = name(1 + pick(14))
		case 8:
			e.T.N[pick(len(e.T.N))].Just = uint64(pick(5))
		}
	})
}

// oddSnap is the snapshot with one part changed.
func oddSnap(pick picker, s api.Snap) api.Snap {
	return changedSnap(s, func(s *api.Snap) {
		switch pick(7) {
		case 0:
			s.Head = name(pick(14))
		case 1:
			s.Just.Root = name(pick(14))
		case 2:
			s.Fin.Root = name(pick(14))
		case 3:
			s.Fin.Epoch, s.Just.Epoch, s.Ver = uint64(pick(5)), uint64(pick(5)), pick(5)-2
		case 4:
			s.T.N[pick(len(s.T.N))].Parent = pick(len(s.T.N)+2) - 2
		case 5:
			s.T.N[pick(len(s.T.N))].Slot = uint64(pick(12))
		case 6:
			s.T.N[pick(len(s.T.N))].Root = name(pick(14))
		}
	})
}

func anyCall(pick picker) api.Call {
	c := api.Call{Kind: pick(10), A: name(1 + pick(13)), B: name(1 + pick(13)), Slot: uint64(pick(24))}
	if pick(3) > 0 {
		c.Kind = api.CallAnc + pick(2)
	}
	return c
}

// holdAny holds an engine's snapshot, and what is asked of it, by the plain ways.
func holdAny(t *testing.T, pick picker, e api.Eng) api.Snap {
	t.Helper()
	ver := pick(9) - 4
	want := plainOf(e, ver)
	holdOf(t, "any", e, ver, want)
	s := Of(e, ver)
	holdMay(t, "any", s, engine.May(e))
	for range 3 {
		c := anyCall(pick)
		holdAsk(t, s, c, plainAsk(s, c))
	}
	if len(s.T.N) > 0 {
		odd := oddSnap(pick, s)
		holdMay(t, "an odd one", odd, plainMay(odd))
		c := anyCall(pick)
		holdAsk(t, odd, c, plainAsk(odd, c))
		if Same(s, odd) != isSame(s, odd) || Note(odd) != (api.Note{Ver: odd.Ver, Head: odd.Head, Fin: odd.Fin}) {
			t.Errorf("Same, or Note, of %v and %v", s, odd)
		}
	}
	return s
}

// P18.1 to P18.3: of many by chance.
func TestOfMany(t *testing.T) {
	chance := rand.New(rand.NewSource(18))
	var others, leaves, stops, bad int
	for range 4000 {
		e := anyEng(chance.Intn)
		s := holdAny(t, chance.Intn, e)
		if len(s.T.N) == 0 {
			t.Fatalf("%v may not be", e)
		}
		if s.Just != s.Fin {
			others++
		}
		if s.Head != s.Just.Root {
			leaves++
		} else if slices.ContainsFunc(s.T.N, func(n api.Node) bool { return n.Parent == place(s.T, s.Head) }) {
			stops++
		}
		holdPruned(t, e)
		odd := oddEng(chance.Intn, e)
		if holdAny(t, chance.Intn, odd); !engine.May(odd) {
			bad++
		}
		if t.Failed() {
			return
		}
	}
	if min(others, leaves, stops, bad) < 400 {
		t.Errorf("Just was another one than Fin %d times, the head another one than Just %d times, it stopped %d times, and %d may not be", others, leaves, stops, bad)
	}
}

// holdPruned holds P18.4 of an engine that may be: the head, and what pruning changes.
func holdPruned(t *testing.T, e api.Eng) {
	t.Helper()
	pruned, err := engine.Prune(e)
	s, p := Of(e, 1), Of(pruned, 1)
	if err != api.OK || !above(s.T, s.Fin.Root, s.Head) || !May(s) || !May(p) || Note(s) != Note(p) || s.Just != p.Just {
		t.Fatalf("%v is pruned to %v: %v becomes %v", e, pruned, s, p)
	}
	final := s.T.N[place(s.T, s.Fin.Root)].Slot
	for _, a := range p.T.N {
		// Around what is final, and around each one.
		for _, slot := range []uint64{0, final - 1, final, final + 1, a.Slot - 1, a.Slot, last} {
			c := api.Call{Kind: api.CallAnc, A: a.Root, Slot: slot}
			want := Ask(s, c)
			if slot < final {
				want = api.Resp{E: api.ErrOld}
			}
			holdAsk(t, p, c, want)
		}
		for _, b := range p.T.N {
			c := api.Call{Kind: api.CallDesc, A: a.Root, B: b.Root}
			holdAsk(t, p, c, Ask(s, c))
		}
	}
}

// P18.4: what is ahead of what is final is told till it is pruned.
func TestPruned(t *testing.T) {
	for _, e := range []api.Eng{begun(), ready(), later(), free(check(1, 4), check(0, 2)), free(check(0, 6))} {
		holdPruned(t, e)
	}
	anc := api.Call{Kind: api.CallAnc, A: name(7), Slot: 4}
	holdAsk(t, Of(later(), 1), anc, api.Resp{R: name(1)})
	pruned, _ := engine.Prune(later())
	s := Of(pruned, 2)
	holdHead(t, "pruned", pruned, 7, check(2, 4))
	holdAsk(t, s, anc, api.Resp{E: api.ErrOld})
	anc.Slot = 5
	holdAsk(t, s, anc, api.Resp{R: name(2)})
	holdAsk(t, s, api.Call{Kind: api.CallAnc, A: name(6), Slot: 5}, api.Resp{E: api.ErrUnknown})
	holdAsk(t, s, api.Call{Kind: api.CallDesc, A: name(1), B: name(7)}, api.Resp{E: api.ErrUnknown})
}

// anyDeed does one thing to an engine, often one that can be done.
func anyDeed(pick picker, e api.Eng) (api.Eng, api.Errno) {
	some := func() api.Node { return e.T.N[pick(len(e.T.N))] }
	switch kind := pick(10); {
	case kind < 3:
		up := some()
		return engine.Block(e, api.Block{Root: name(1 + pick(30)), Parent: up.Root, Slot: up.Slot + uint64(1+pick(2)), Just: uint64(pick(3))})
	case kind < 7:
		a := api.Att{Val: pick(len(e.Bal)), Slot: e.Now - 1 + uint64(pick(3)), Source: e.J[pick(len(e.J))]}
		a.Target = api.Check{Epoch: a.Source.Epoch + 1, Root: some().Root}
		if len(e.K) > 0 && pick(3) > 0 {
			k := e.K[pick(len(e.K))]
			a.Source, a.Target = k.S, k.T
		}
		a.Head = a.Target.Root
		if r := some().Root; above(e.T, a.Target.Root, r) {
			a.Head = r
		}
		return engine.Att(e, a)
	case kind < 9:
		return engine.Tick(e)
	}
	if pick(3) > 0 {
		return e, api.OK
	}
	return engine.Prune(e)
}

// P18.1 to P18.4: of what many deeds, one after the other, come to; what is final goes on along one chain.
func TestOfWalks(t *testing.T) {
	chance := rand.New(rand.NewSource(181))
	var finals, heads int
	for range 40 {
		e, _ := engine.New(name(1), []uint64{1, 2, 2}[:1+chance.Intn(3)])
		s := Of(e, 0)
		for step := range 120 {
			next, err := anyDeed(chance.Intn, e)
			if err != api.OK {
				continue
			}
			e = next
			is := holdAny(t, chance.Intn, e)
			if is.Fin != s.Fin {
				finals++
				if is.Fin.Epoch <= s.Fin.Epoch || !above(is.T, s.Fin.Root, is.Fin.Root) {
					t.Fatalf("%v was final, and %v is", s.Fin, is.Fin)
				}
			}
			if is.Head != s.Head {
				heads++
			}
			if step%8 == 0 || is.Fin != s.Fin {
				holdPruned(t, e)
			}
			s = is
			if t.Failed() {
				return
			}
		}
	}
	if finals < 40 || heads < 200 {
		t.Errorf("what is final changed %d times, the head %d times", finals, heads)
	}
}

// spoil changes all that can be reached from a list.
func spoil[E any](l []E, mark E) {
	l = l[:cap(l)]
	for i := range l {
		l[i] = mark
	}
}

// around lays a list into another one, so that there is something ahead of it and behind it.
func around[E any](l []E, mark E) (whole, piece []E) {
	whole = slices.Concat([]E{mark, mark}, l, []E{mark, mark})
	return whole, whole[2 : 2+len(l)]
}

// laid is an engine whose lists are pieces of the whole one's.
func laid(e api.Eng) (whole, piece api.Eng) {
	whole, piece = e, e
	whole.T.N, piece.T.N = around(e.T.N, api.Node{Root: name(70), Parent: 5})
	whole.Bal, piece.Bal = around(e.Bal, 70)
	whole.V.L, piece.V.L = around(e.V.L, on(70, 70))
	whole.W, piece.W = around(e.W, 71)
	whole.Late, piece.Late = around(e.Late, api.Att{Val: 70})
	whole.K, piece.K = around(e.K, by(70, check(70, 70), check(71, 70)))
	whole.J, piece.J = around(e.J, check(70, 70))
	return whole, piece
}

// spoilAll spoils all lists of an engine.
func spoilAll(e api.Eng) {
	spoil(e.T.N, api.Node{Parent: 66})
	spoil(e.Bal, 66)
	spoil(e.V.L, on(66, 66))
	spoil(e.W, 67)
	spoil(e.Late, api.Att{Val: 66})
	spoil(e.K, by(66, check(66, 66), check(66, 66)))
	spoil(e.J, check(66, 66))
}

// R3, with P18.1: an engine stays as it was, around its lists, too, and what is published of it is the caller's own.
func TestOfOwns(t *testing.T) {
	all := engsThatMayNotBe()
	for _, e := range []api.Eng{ready(), later(), begun(), free(check(1, 4), check(0, 2))} {
		all = append(all, of{"one that may be", e})
	}
	for _, x := range all {
		want := plainOf(x.e, 3)
		want = cloneSnap(want)
		whole, piece := laid(x.e)
		was := clone(whole)
		one, two := Of(piece, 3), Of(piece, 3)
		if !isSame(one, want) || !isSameEng(whole, was) {
			t.Fatalf("%s: Of(%v, 3) = %v, and the engine is then in %v", x.what, x.e, one, whole)
		}
		spoil(append(one.T.N, api.Node{}), api.Node{Parent: 66})
		spoil(one.T.N, api.Node{Parent: 66})
		if !isSameEng(whole, was) || !isSame(two, want) {
			t.Fatalf("%s: with what was published %v is changed, or %v", x.what, whole, two)
		}
		spoilAll(whole)
		if !isSame(two, want) {
			t.Fatalf("%s: with the engine %v is changed to %v", x.what, want, two)
		}
	}
}

// R3: lists that have room for more, also such as have no element.
func TestRoomForMore(t *testing.T) {
	for _, e := range []api.Eng{ready(), later(), begun(), {}} {
		want := cloneSnap(plainOf(e, 3))
		e.T.N = append(make([]api.Node, 0, 40), e.T.N...)
		e.W = append(make([]uint64, 0, 40), e.W...)
		e.J = append(make([]api.Check, 0, 40), e.J...)
		one, two := Of(e, 3), Of(e, 3)
		spoil(append(one.T.N, api.Node{}), api.Node{Parent: 66})
		spoil(one.T.N, api.Node{Parent: 66})
		if three := Of(e, 3); !isSame(three, want) {
			t.Fatalf("with what was published of it %v is changed: %v", e, three)
		}
		spoilAll(e)
		if !isSame(two, want) {
			t.Fatalf("with the engine %v is changed to %v", want, two)
		}
	}
}

// R3, with P18.2 and P18.3: a snapshot, and what is called, stay as they were, around their lists, too.
func TestHandedInStays(t *testing.T) {
	for _, x := range slices.Concat(snapsThatMay(), snapsThatMayNot()) {
		piece := x.s
		var whole []api.Node
		whole, piece.T.N = around(x.s.T.N, api.Node{Root: name(70), Parent: 5})
		was := slices.Clone(whole)
		if May(piece) != plainMay(x.s) || !Same(piece, x.s) || !Same(x.s, piece) || Note(piece) != Note(x.s) {
			t.Errorf("%s: May, Same, or Note, of %v", x.what, x.s)
		}
		for _, c := range calls() {
			bytesAround, raw := around(c.Raw, 70)
			bytesWere := slices.Clone(bytesAround)
			c.Raw = raw
			if got := Ask(piece, c); got != plainAsk(x.s, c) || !bytes.Equal(bytesAround, bytesWere) {
				t.Errorf("%s: Ask(%v, %v) = %v", x.what, x.s, c, got)
			}
		}
		if !slices.Equal(whole, was) {
			t.Errorf("%s: %v became %v", x.what, was, whole)
		}
	}
}

// R5: each call answers the same again, whatever was asked between.
func TestAskedAgain(t *testing.T) {
	for range 20 {
		for _, e := range []api.Eng{ready(), later(), begun(), {}} {
			holdOf(t, "again", e, 4, plainOf(e, 4))
			s := Of(e, 4)
			for _, c := range calls() {
				holdAsk(t, s, c, plainAsk(s, c))
			}
			holdMay(t, "again", s, len(e.Bal) > 0)
		}
	}
}

// P1: very many of each.
func TestVeryMany(t *testing.T) {
	const n = 300000
	many := changed(free(check(0, 1)), func(e *api.Eng) {
		for i := range n {
			e.J = append(e.J, check(uint64(1+i), 1+i%5))
		}
	})
	holdHead(t, "very many are justified", many, 5, check(n, 5))
	for _, change := range []func(*api.Eng){
		func(e *api.Eng) { e.J = append(many.J, check(7, 9)) },
		func(e *api.Eng) { e.T.N = slices.Repeat(e.T.N, n/8) },
		func(e *api.Eng) { e.W = slices.Repeat(e.W, n/8) },
		func(e *api.Eng) { e.V.L, e.Bal = slices.Repeat(e.V.L, n/4), slices.Repeat(e.Bal, n/4) },
		func(e *api.Eng) { e.Late = slices.Repeat(e.Late, n) },
		func(e *api.Eng) { e.K = slices.Repeat(e.K, n) },
	} {
		if s := Of(changed(ready(), change), 5); !isSame(s, api.Snap{}) {
			t.Errorf("%v is published", s.Ver)
		}
	}
	long := changedSnap(shot(), func(s *api.Snap) { s.T.N = slices.Repeat(s.T.N, n/8) })
	line := shot()
	line.T.N = nil
	for i := range n {
		line.T.N = append(line.T.N, api.Node{Root: api.Root{byte(i), byte(i >> 8), byte(i >> 16)}, Parent: i - 1, Slot: uint64(i)})
	}
	line.Head, line.Just.Root, line.Fin.Root = line.T.N[n-1].Root, line.T.N[1].Root, line.T.N[0].Root
	for _, s := range []api.Snap{long, line} {
		if May(s) || !Same(s, cloneSnap(s)) || Same(s, shot()) || Note(s).Head != s.Head {
			t.Error("of very many nodes")
		}
		for _, c := range calls() {
			if got := Ask(s, c); got != (api.Resp{E: api.ErrArg}) {
				t.Errorf("Ask of very many nodes, %v = %v", c, got)
			}
		}
	}
	holdAsk(t, shot(), api.Call{Kind: api.CallHead, Raw: make([]byte, n)}, api.Resp{R: name(8)})
}

// P1, P18.1 to P18.4: of any engine, whatever is changed of it, and of what is published.
func FuzzSnap(f *testing.F) {
	f.Add([]byte{})
	f.Add([]byte{4, 0, 1, 2, 3})
	for seed := range 6 {
		chance := rand.New(rand.NewSource(int64(seed)))
		in := make([]byte, 150)
		chance.Read(in)
		f.Add(in)
	}
	f.Fuzz(func(t *testing.T, in []byte) {
		pick := func(n int) int {
			if len(in) == 0 {
				return 0
			}
			b := in[0]
			in = in[1:]
			return int(b) % n
		}
		e := anyEng(pick)
		if !engine.May(e) {
			t.Fatalf("%v may not be", e)
		}
		holdAny(t, pick, e)
		holdPruned(t, e)
		holdAny(t, pick, oddEng(pick, e))
	})
}
