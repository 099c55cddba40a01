package engine

import (
	"bytes"
	"math"
	"math/rand"
	"slices"
	"strconv"
	"testing"

	"areopagus/api"
	"areopagus/late"
	"areopagus/link"
	"areopagus/stake"
	"areopagus/tree"
	"areopagus/vote"
	"areopagus/wire"
)

const (
	least    = math.MinInt
	greatest = math.MaxInt
	top      = uint64(1) << 40
	last     = uint64(math.MaxUint64)
)

// name hangs on its number at both ends, so that half of a root is not taken for it; of two the one of the greater number is the greater one.
func name(n int) api.Root { return api.Root{byte(n), 15: byte(n), 31: byte(n)} }

func check(epoch uint64, n int) api.Check { return api.Check{Epoch: epoch, Root: name(n)} }

func by(mask uint64, s, t api.Check) api.Link { return api.Link{S: s, T: t, Mask: mask} }

func on(n int, epoch uint64) api.Latest { return api.Latest{Has: true, Root: name(n), Epoch: epoch} }

func att(val int, slot uint64, head int, s, t api.Check) api.Att {
	return api.Att{Val: val, Slot: slot, Head: name(head), Source: s, Target: t}
}

func block(n, parent int, slot uint64) api.Block {
	return api.Block{Root: name(n), Parent: name(parent), Slot: slot}
}

// four have so much that any three are two thirds, and no two are; each sum tells whose it is.
func four() []uint64 { return []uint64{10, 11, 13, 17} }

// grown is 1, 2 behind it, 3 behind that, 4 behind 1, and 5 behind 3.
func grown() api.Tree {
	var t api.Tree
	slots := []uint64{0, 4, 8, 5, 9}
	for i, p := range []int{-1, 0, 1, 0, 2} {
		t.N = append(t.N, api.Node{Root: name(i + 1), Parent: p, Slot: slots[i], Just: uint64(100 + i)})
	}
	return t
}

// ready is an engine in which three of four attested epochs 0 to 1, and one waits: 1 is final, and 2 justified.
func ready() api.Eng {
	return api.Eng{
		T:    grown(),
		Bal:  four(),
		V:    api.Votes{L: []api.Latest{on(3, 1), on(3, 1), on(3, 1), {}}},
		W:    []uint64{34, 34, 34, 0, 0},
		Late: []api.Att{att(3, 10, 3, check(0, 1), check(1, 2))},
		K:    []api.Link{by(7, check(0, 1), check(1, 2))},
		J:    []api.Check{check(0, 1), check(1, 2)},
		Fin:  check(0, 1),
		Now:  10,
	}
}

// blank is the same without votes, links, and what waits.
func blank() api.Eng {
	return changed(ready(), func(e *api.Eng) {
		e.V, e.W = api.Votes{L: make([]api.Latest, 4)}, make([]uint64, 5)
		e.Late, e.K, e.J = nil, nil, []api.Check{check(0, 1)}
	})
}

// later is an engine in which 2 is final, and 3 justified.
func later() api.Eng {
	return changed(ready(), func(e *api.Eng) {
		e.K = append(e.K, by(7, check(1, 2), check(2, 3)))
		e.J = append(e.J, check(2, 3))
		e.Fin = check(1, 2)
	})
}

func clone(e api.Eng) api.Eng {
	e.T.N = slices.Clone(e.T.N)
	e.Bal = slices.Clone(e.Bal)
	e.V.L = slices.Clone(e.V.L)
	e.W = slices.Clone(e.W)
	e.Late = slices.Clone(e.Late)
	e.K = slices.Clone(e.K)
	e.J = slices.Clone(e.J)
	return e
}

// changed is the engine with something else, in lists of its own.
func changed(e api.Eng, change func(*api.Eng)) api.Eng {
	e = clone(e)
	change(&e)
	return e
}

// isSame is the tests' own.
func isSame(a, b api.Eng) bool {
	return slices.Equal(a.T.N, b.T.N) && slices.Equal(a.Bal, b.Bal) && slices.Equal(a.V.L, b.V.L) && a.V.Out == b.V.Out &&
		slices.Equal(a.W, b.W) && slices.Equal(a.Late, b.Late) && slices.Equal(a.K, b.K) && slices.Equal(a.J, b.J) &&
		a.Fin == b.Fin && a.Now == b.Now
}

// The plain ways are the tests' own, by the words; of what is below they ask for what may be alone.

func place(t api.Tree, r api.Root) int {
	return slices.IndexFunc(t.N, func(n api.Node) bool { return n.Root == r })
}

// above goes up from a root by parents, in a tree that may be.
func above(t api.Tree, up, down api.Root) bool {
	for at := place(t, down); at >= 0; at = t.N[at].Parent {
		if t.N[at].Root == up {
			return true
		}
	}
	return false
}

// plainWeights are, of each node, the balances of those whose vote is for one that it is above.
func plainWeights(t api.Tree, v api.Votes, bal []uint64) []uint64 {
	out := make([]uint64, len(t.N))
	for i, n := range t.N {
		for val, l := range v.L {
			if l.Has && above(t, n.Root, l.Root) {
				out[i] += bal[val]
			}
		}
	}
	return out
}

func plainMost(bal []uint64, mask uint64) bool {
	var some, total uint64
	for v, b := range bal {
		total += b
		if mask>>v&1 == 1 {
			some += b
		}
	}
	return 3*some >= 2*total
}

func plainCounts(e api.Eng, k api.Link) bool {
	return above(e.T, k.S.Root, k.T.Root) && plainMost(e.Bal, k.Mask)
}

func plainMore(e api.Eng) []api.Check {
	out := slices.Clone(e.J)
	for {
		i := slices.IndexFunc(e.K, func(k api.Link) bool {
			return slices.Contains(out, k.S) && !slices.Contains(out, k.T) && plainCounts(e, k)
		})
		if i < 0 {
			return out
		}
		out = append(out, e.K[i].T)
	}
}

func plainNext(e api.Eng) api.Check {
	out := e.Fin
	for _, k := range e.K {
		if !plainCounts(e, k) || k.T.Epoch != k.S.Epoch+1 || !slices.Contains(e.J, k.S) || !slices.Contains(e.J, k.T) {
			continue
		}
		if k.S.Epoch <= e.Fin.Epoch || !above(e.T, e.Fin.Root, k.S.Root) {
			continue
		}
		if k.S.Epoch > out.Epoch || k.S.Epoch == out.Epoch && bytes.Compare(k.S.Root[:], out.Root[:]) > 0 {
			out = k.S
		}
	}
	return out
}

func plainMay(e api.Eng) bool {
	if !tree.May(e.T) || !stake.May(e.Bal) || !vote.May(e.V) || !late.May(e.Late) || !link.May(e.K) {
		return false
	}
	if len(e.V.L) != len(e.Bal) || !slices.Equal(e.W, plainWeights(e.T, e.V, e.Bal)) || e.Now > top {
		return false
	}
	for _, a := range e.Late {
		if a.Slot < e.Now {
			return false
		}
	}
	for _, l := range e.V.L {
		if l.Has && place(e.T, l.Root) < 0 {
			return false
		}
	}
	for _, k := range e.K {
		if place(e.T, k.S.Root) < 0 || place(e.T, k.T.Root) < 0 {
			return false
		}
	}
	for i, c := range e.J {
		if place(e.T, c.Root) < 0 || slices.Contains(e.J[:i], c) {
			return false
		}
	}
	return slices.Contains(e.J, e.Fin) && slices.Equal(plainMore(e), e.J) && plainNext(e) == e.Fin
}

func plainFit(e api.Eng, a api.Att) api.Errno {
	if a.Val < 0 || a.Val >= len(e.Bal) {
		return api.ErrVal
	}
	if place(e.T, a.Head) < 0 || place(e.T, a.Source.Root) < 0 || place(e.T, a.Target.Root) < 0 {
		return api.ErrUnknown
	}
	if a.Target.Epoch <= a.Source.Epoch || !above(e.T, a.Source.Root, a.Target.Root) || !above(e.T, a.Target.Root, a.Head) {
		return api.ErrLink
	}
	return api.OK
}

// plainCount weighs all votes anew.
func plainCount(e api.Eng, a api.Att) (api.Eng, api.Errno) {
	e = clone(e)
	at := slices.IndexFunc(e.K, func(k api.Link) bool { return k.S == a.Source && k.T == a.Target })
	switch {
	case at >= 0:
		e.K[at].Mask |= 1 << a.Val
	case len(e.K) == 16:
		return e, api.ErrFull
	default:
		e.K = append(e.K, by(1<<a.Val, a.Source, a.Target))
	}
	l := &e.V.L[a.Val]
	switch {
	case e.V.Out>>a.Val&1 == 1:
	case !l.Has || l.Epoch < a.Target.Epoch:
		*l = api.Latest{Has: true, Root: a.Head, Epoch: a.Target.Epoch}
	case l.Epoch == a.Target.Epoch && l.Root != a.Head:
		*l = api.Latest{}
		e.V.Out |= 1 << a.Val
	}
	e.W = plainWeights(e.T, e.V, e.Bal)
	e.J = plainMore(e)
	e.Fin = plainNext(e)
	return e, api.OK
}

func plainBlock(e api.Eng, b api.Block) (api.Eng, api.Errno) {
	e = clone(e)
	if !plainMay(e) {
		return e, api.ErrArg
	}
	parent := place(e.T, b.Parent)
	switch {
	case b.Slot > e.Now:
		return e, api.ErrFuture
	case place(e.T, b.Root) >= 0:
		return e, api.ErrKnown
	case parent < 0:
		return e, api.ErrUnknown
	case b.Slot <= e.T.N[parent].Slot:
		return e, api.ErrSlot
	case len(e.T.N) == 12:
		return e, api.ErrFull
	case !above(e.T, e.Fin.Root, b.Parent):
		return e, api.ErrOld
	}
	e.T.N = append(e.T.N, api.Node{Root: b.Root, Parent: parent, Slot: b.Slot, Just: b.Just})
	e.W = append(e.W, 0)
	return e, api.OK
}

func plainAtt(e api.Eng, a api.Att) (api.Eng, api.Errno) {
	e = clone(e)
	if !plainMay(e) {
		return e, api.ErrArg
	}
	if err := plainFit(e, a); err != api.OK {
		return e, err
	}
	switch {
	case a.Slot < e.Now:
		return plainCount(e, a)
	case a.Slot > top:
		return e, api.ErrArg
	case len(e.Late) == 6:
		return e, api.ErrFull
	}
	e.Late = append(e.Late, a)
	return e, api.OK
}

func plainTick(e api.Eng) (api.Eng, api.Errno) {
	e = clone(e)
	if !plainMay(e) {
		return e, api.ErrArg
	}
	if e.Now == top {
		return e, api.ErrFull
	}
	e.Now++
	was := e.Late
	e.Late = nil
	for _, a := range was {
		if a.Slot >= e.Now {
			e.Late = append(e.Late, a)
		} else if plainFit(e, a) == api.OK {
			e, _ = plainCount(e, a)
		}
	}
	return e, api.OK
}

func plainPrune(e api.Eng) (api.Eng, api.Errno) {
	e = clone(e)
	if !plainMay(e) {
		return e, api.ErrArg
	}
	was := e.T
	stays := func(r api.Root) bool { return above(was, e.Fin.Root, r) }
	e.T.N = nil
	for _, n := range was.N {
		if !stays(n.Root) {
			continue
		}
		if n.Parent >= 0 {
			n.Parent = place(e.T, was.N[n.Parent].Root)
		}
		e.T.N = append(e.T.N, n)
	}
	for val, l := range e.V.L {
		if !stays(l.Root) {
			e.V.L[val] = api.Latest{}
		}
	}
	e.W = plainWeights(e.T, e.V, e.Bal)
	ks, js := e.K, e.J
	e.K, e.J = nil, nil
	for _, k := range ks {
		if stays(k.S.Root) && stays(k.T.Root) && k.T.Epoch > e.Fin.Epoch {
			e.K = append(e.K, k)
		}
	}
	for _, c := range js {
		if stays(c.Root) && c.Epoch >= e.Fin.Epoch {
			e.J = append(e.J, c)
		}
	}
	return e, api.OK
}

// act is something that is done to an engine, and the plain way of it.
type act struct {
	what      string
	do, plain func(api.Eng) (api.Eng, api.Errno)
}

func putting(b api.Block) act {
	return act{
		"Block",
		func(e api.Eng) (api.Eng, api.Errno) { return Block(e, b) },
		func(e api.Eng) (api.Eng, api.Errno) { return plainBlock(e, b) },
	}
}

func attesting(a api.Att) act {
	return act{
		"Att",
		func(e api.Eng) (api.Eng, api.Errno) { return Att(e, a) },
		func(e api.Eng) (api.Eng, api.Errno) { return plainAtt(e, a) },
	}
}

func ticking() act { return act{"Tick", Tick, plainTick} }

func pruning() act { return act{"Prune", Prune, plainPrune} }

// calling has Do do the same as an act.
func calling(c api.Call, same act) act {
	return act{"Do of " + same.what, func(e api.Eng) (api.Eng, api.Errno) { return Do(e, c) }, same.plain}
}

// refused is a call that nothing comes of.
func refused(c api.Call, err api.Errno) act {
	plain := func(e api.Eng) (api.Eng, api.Errno) {
		if !plainMay(e) {
			return clone(e), api.ErrArg
		}
		return clone(e), err
	}
	return act{"Do of kind " + strconv.Itoa(c.Kind), func(e api.Eng) (api.Eng, api.Errno) { return Do(e, c) }, plain}
}

func callBlock(b api.Block) act {
	return calling(api.Call{Kind: api.CallBlock, Raw: wire.PutBlock(b)}, putting(b))
}

func callAtt(a api.Att) act {
	raw, is := wire.PutAtt(a)
	if !is {
		return refused(api.Call{Kind: api.CallAtt, Raw: raw}, api.ErrForm)
	}
	return calling(api.Call{Kind: api.CallAtt, Raw: raw}, attesting(a))
}

func callTick() act { return calling(api.Call{Kind: api.CallTick}, ticking()) }

func callPrune() act { return calling(api.Call{Kind: api.CallPrune}, pruning()) }

// holdAct holds an act by its plain way: what comes of it, what was handed in, that with an error the engine is as it was, and that what may be stays so.
func holdAct(t *testing.T, e api.Eng, a act) (api.Eng, api.Errno) {
	t.Helper()
	was := clone(e)
	got, err := a.do(e)
	want, wantErr := a.plain(was)
	if !isSame(got, want) || err != wantErr {
		t.Errorf("%s of %v\n= %v, %v\nwant %v, %v", a.what, was, got, err, want, wantErr)
	}
	if !isSame(e, was) {
		t.Errorf("%s changed %v to %v", a.what, was, e)
	}
	if err != api.OK && !isSame(got, was) {
		t.Errorf("%s of %v = %v, %v: it is not as it was", a.what, was, got, err)
	}
	if err == api.OK && !May(got) {
		t.Errorf("%s of %v = %v, which may not be", a.what, was, got)
	}
	return got, err
}

// done wants it done.
func done(t *testing.T, e api.Eng, acts ...act) api.Eng {
	t.Helper()
	for _, a := range acts {
		got, err := holdAct(t, e, a)
		if err != api.OK {
			t.Fatalf("%s of %v: %v", a.what, e, err)
		}
		e = got
	}
	return e
}

// holdTo wants it done, and that then the engine is another one by that change alone.
func holdTo(t *testing.T, e api.Eng, a act, change func(*api.Eng)) {
	t.Helper()
	got, want := done(t, e, a), changed(e, change)
	if !isSame(got, want) {
		t.Errorf("%s of %v\n= %v\nwant %v", a.what, e, got, want)
	}
}

// holdErr wants that error, and the engine as it was.
func holdErr(t *testing.T, e api.Eng, a act, want api.Errno) {
	t.Helper()
	got, err := holdAct(t, e, a)
	if err != want || !isSame(got, e) {
		t.Errorf("%s of %v = %v, %v, want %v", a.what, e, got, err, want)
	}
}

// holdAttErr, and those below, call both ways.
func holdAttErr(t *testing.T, e api.Eng, a api.Att, want api.Errno) {
	t.Helper()
	holdErr(t, e, attesting(a), want)
	if _, is := wire.PutAtt(a); is {
		holdErr(t, e, callAtt(a), want)
	}
}

func holdAttTo(t *testing.T, e api.Eng, a api.Att, change func(*api.Eng)) {
	t.Helper()
	holdTo(t, e, attesting(a), change)
	holdTo(t, e, callAtt(a), change)
}

func holdBlockErr(t *testing.T, e api.Eng, b api.Block, want api.Errno) {
	t.Helper()
	holdErr(t, e, putting(b), want)
	holdErr(t, e, callBlock(b), want)
}

func holdBlockTo(t *testing.T, e api.Eng, b api.Block, change func(*api.Eng)) {
	t.Helper()
	holdTo(t, e, putting(b), change)
	holdTo(t, e, callBlock(b), change)
}

func holdTickTo(t *testing.T, e api.Eng, change func(*api.Eng)) {
	t.Helper()
	holdTo(t, e, ticking(), change)
	holdTo(t, e, callTick(), change)
}

func holdPruneTo(t *testing.T, e api.Eng, change func(*api.Eng)) {
	t.Helper()
	holdTo(t, e, pruning(), change)
	holdTo(t, e, callPrune(), change)
}

func holdMay(t *testing.T, what string, e api.Eng, want bool) {
	t.Helper()
	was := clone(e)
	if got := May(e); got != want || plainMay(e) != want {
		t.Errorf("%s: May(%v) = %v, the plain way %v, want %v", what, e, got, plainMay(e), want)
	}
	if !isSame(e, was) {
		t.Errorf("%s: May changed %v to %v", what, was, e)
	}
}

// told is an engine, and what is to be seen by it.
type told struct {
	what string
	e    api.Eng
}

func of(what string, e api.Eng, change func(*api.Eng)) told { return told{what, changed(e, change)} }

// fullLinks are so many links of validator 0, from epoch 0 of root 1 to each later epoch of it.
func fullLinks(n int) []api.Link {
	var l []api.Link
	for i := range n {
		l = append(l, by(1, check(0, 1), check(uint64(i+1), 1)))
	}
	return l
}

// fullLate are so many that wait for a slot, by validator 3, each for another epoch.
func fullLate(n int, slot uint64) []api.Att {
	var l []api.Att
	for i := range n {
		l = append(l, att(3, slot, 3, check(0, 1), check(uint64(i+1), 2)))
	}
	return l
}

// fullTree is grown with more blocks behind 5, 12 in all.
func fullTree() api.Tree {
	t := grown()
	for i := 5; i < 12; i++ {
		t.N = append(t.N, api.Node{Root: name(i + 1), Parent: i - 1, Slot: uint64(5 + i)})
	}
	return t
}

func full() api.Eng {
	return changed(ready(), func(e *api.Eng) {
		e.T, e.Now = fullTree(), 20
		e.W = append(e.W, make([]uint64, 7)...)
		e.Late = fullLate(6, 20)
	})
}

func mayBe() []told {
	out := []told{
		{"ready", ready()}, {"blank", blank()}, {"later", later()}, {"full", full()},
		of("Now 2^40", ready(), func(e *api.Eng) { e.Now, e.Late[0].Slot = top, top }),
		of("Now 2^40 and nobody waits", ready(), func(e *api.Eng) { e.Now, e.Late = top, nil }),
		of("Now 0", ready(), func(e *api.Eng) { e.Now = 0 }),
		of("a Slot at Now", ready(), func(e *api.Eng) { e.Late[0].Slot = e.Now }),
		of("a Slot above Now", ready(), func(e *api.Eng) { e.Late[0].Slot = e.Now + 1 }),
		of("a Slot at 2^40", ready(), func(e *api.Eng) { e.Late[0].Slot = top }),
		of("one that waits does not fit", ready(), func(e *api.Eng) { e.Late[0] = api.Att{Val: 99, Slot: 10, Head: name(9)} }),
		of("one that waits is nobody's", ready(), func(e *api.Eng) { e.Late[0].Val = -1 }),
		of("one waits twice", ready(), func(e *api.Eng) { e.Late = append(e.Late, e.Late[0]) }),
		of("J in another order", ready(), func(e *api.Eng) { slices.Reverse(e.J) }),
		of("more of J", ready(), func(e *api.Eng) { e.J = append(e.J, check(0, 3), check(9, 4), check(last, 5), check(1, 3)) }),
		of("Fin of another epoch", ready(), func(e *api.Eng) { e.J, e.Fin = append(e.J, check(7, 4)), check(7, 4) }),
		of("Fin is the second one of J", ready(), func(e *api.Eng) { e.Fin = check(1, 2) }),
		of("Fin of the same epoch as one that is final by links", later(), func(e *api.Eng) { e.J, e.Fin = append(e.J, check(1, 1)), check(1, 1) }),
		of("Fin beside one that is final by links", later(), func(e *api.Eng) { e.J, e.Fin = append(e.J, check(0, 4)), check(0, 4) }),
		of("who attested is none", ready(), func(e *api.Eng) { e.K[0].Mask |= 128 }),
		of("a link that does not count, back along the tree", ready(), func(e *api.Eng) { e.K = append(e.K, by(7, check(1, 2), check(2, 1))) }),
		of("a link that does not count, to a branch beside", ready(), func(e *api.Eng) { e.K = append(e.K, by(7, check(1, 2), check(2, 4))) }),
		of("a link that counts, of a source that is not justified", ready(), func(e *api.Eng) { e.K = append(e.K, by(7, check(2, 3), check(3, 5))) }),
		of("a link of less than two thirds", ready(), func(e *api.Eng) { e.K = append(e.K, by(9, check(1, 2), check(2, 3))) }),
		of("sixteen links", ready(), func(e *api.Eng) { e.K = append(e.K, fullLinks(15)...) }),
		of("links in another order", later(), func(e *api.Eng) { slices.Reverse(e.K) }),
		of("one who is out", ready(), func(e *api.Eng) { e.V.Out = 8 }),
		of("all are out", blank(), func(e *api.Eng) { e.V.Out = 15 }),
		of("balances of noughts", blank(), func(e *api.Eng) { e.Bal = make([]uint64, 4) }),
		of("balances of 2^40", blank(), func(e *api.Eng) { e.Bal = []uint64{top, top, top, top} }),
		of("votes for many", ready(), func(e *api.Eng) {
			e.V.L = []api.Latest{on(4, 0), on(2, last), on(5, 3), on(1, 1)}
			e.W = []uint64{51, 24, 13, 10, 13}
		}),
	}
	for _, bal := range [][]uint64{{0}, {1}, {top}, {1, 2, 3, 4, 5, 6, 7, 8}} {
		e, _ := New(name(1), bal)
		out = append(out, told{"a new one", e})
	}
	return out
}

func badTrees() []told {
	return []told{
		of("no tree", ready(), func(e *api.Eng) { e.T = api.Tree{} }),
		of("no tree, no W", blank(), func(e *api.Eng) { e.T, e.W = api.Tree{}, nil }),
		of("thirteen nodes", full(), func(e *api.Eng) {
			e.T.N, e.W = append(e.T.N, api.Node{Root: name(13), Parent: 11, Slot: 30}), append(e.W, 0)
		}),
		of("two nodes of one root", ready(), func(e *api.Eng) { e.T.N[4].Root = name(4) }),
		of("a slot above 2^40", ready(), func(e *api.Eng) { e.T.N[4].Slot = top + 1 }),
		of("a slot that is its parent's", ready(), func(e *api.Eng) { e.T.N[4].Slot = 8 }),
		of("two without a parent", ready(), func(e *api.Eng) { e.T.N[3].Parent = -1 }),
		of("a parent that comes later", ready(), func(e *api.Eng) { e.T.N[3].Parent = 4 }),
		of("a parent of the first one", ready(), func(e *api.Eng) { e.T.N[0].Parent = 0 }),
	}
}

func badBalances() []told {
	return []told{
		of("no balances", blank(), func(e *api.Eng) { e.Bal = nil }),
		of("no balances and no votes", blank(), func(e *api.Eng) { e.Bal, e.V = nil, api.Votes{} }),
		of("nine balances", blank(), func(e *api.Eng) { e.Bal, e.V.L = make([]uint64, 9), make([]api.Latest, 9) }),
		of("nine balances of eight votes", blank(), func(e *api.Eng) { e.Bal, e.V.L = make([]uint64, 9), make([]api.Latest, 8) }),
		of("nine balances and no W", blank(), func(e *api.Eng) { e.Bal, e.V.L, e.W = make([]uint64, 9), make([]api.Latest, 9), nil }),
		of("a vote fewer than there are balances, and no W", ready(), func(e *api.Eng) { e.V.L, e.W = e.V.L[:3], nil }),
		of("a balance above 2^40", blank(), func(e *api.Eng) { e.Bal[2] = top + 1 }),
		of("a balance more than there are votes", blank(), func(e *api.Eng) { e.Bal = append(e.Bal, 0) }),
		of("a balance fewer than there are votes", ready(), func(e *api.Eng) { e.Bal = e.Bal[:3] }),
		of("a vote more than there are balances", ready(), func(e *api.Eng) { e.V.L = append(e.V.L, api.Latest{}) }),
		of("a vote fewer than there are balances", ready(), func(e *api.Eng) { e.V.L = e.V.L[:3] }),
	}
}

func badVotes() []told {
	return []told{
		of("out is one who is none", ready(), func(e *api.Eng) { e.V.Out = 16 }),
		of("out is one who has a vote", ready(), func(e *api.Eng) { e.V.Out = 1 }),
		of("a root without a vote", ready(), func(e *api.Eng) { e.V.L[3].Root = name(3) }),
		of("an epoch without a vote", ready(), func(e *api.Eng) { e.V.L[3].Epoch = 1 }),
		of("a vote for a root that is not there", ready(), func(e *api.Eng) { e.V.L[3] = on(9, 1) }),
		of("a vote for the zero root", ready(), func(e *api.Eng) { e.V.L[3] = api.Latest{Has: true} }),
	}
}

func badWeights() []told {
	out := []told{
		of("W too short", ready(), func(e *api.Eng) { e.W = e.W[:4] }),
		of("W too long", ready(), func(e *api.Eng) { e.W = append(e.W, 0) }),
		of("no W", ready(), func(e *api.Eng) { e.W = nil }),
		of("W all noughts", ready(), func(e *api.Eng) { e.W = make([]uint64, 5) }),
		of("W of each alone", ready(), func(e *api.Eng) { e.W = []uint64{0, 0, 34, 0, 0} }),
		of("W of votes that are not", blank(), func(e *api.Eng) { e.W = ready().W }),
	}
	for i := range 5 {
		out = append(out,
			of("one more in W", ready(), func(e *api.Eng) { e.W[i]++ }),
			of("one less in W", ready(), func(e *api.Eng) { e.W[i]-- }))
	}
	return out
}

func badSlots() []told {
	return []told{
		of("seven wait", full(), func(e *api.Eng) { e.Late = append(e.Late, e.Late[0]) }),
		of("one waits for a slot above 2^40", ready(), func(e *api.Eng) { e.Late[0].Slot = top + 1 }),
		of("a Slot just below Now", ready(), func(e *api.Eng) { e.Late[0].Slot = 9 }),
		of("the last Slot just below Now", full(), func(e *api.Eng) { e.Late[5].Slot = 19 }),
		of("one in between just below Now", full(), func(e *api.Eng) { e.Late[2].Slot = 19 }),
		of("a Slot of 0", ready(), func(e *api.Eng) { e.Late[0].Slot = 0 }),
		of("Now above 2^40", ready(), func(e *api.Eng) { e.Now, e.Late = top+1, nil }),
		of("Now the greatest number", ready(), func(e *api.Eng) { e.Now, e.Late = last, nil }),
		of("Now above a Slot of 2^40", ready(), func(e *api.Eng) { e.Now, e.Late[0].Slot = top+1, top }),
	}
}

func badLinks() []told {
	return []told{
		of("two links that are one", ready(), func(e *api.Eng) { e.K = append(e.K, by(1, check(0, 1), check(1, 2))) }),
		of("seventeen links", ready(), func(e *api.Eng) { e.K = append(e.K, fullLinks(16)...) }),
		of("a link of nobody", ready(), func(e *api.Eng) { e.K = append(e.K, by(0, check(1, 2), check(2, 3))) }),
		of("a Mask of 256", ready(), func(e *api.Eng) { e.K = append(e.K, by(256, check(1, 2), check(2, 3))) }),
		of("a link to the same epoch", ready(), func(e *api.Eng) { e.K = append(e.K, by(1, check(1, 2), check(1, 3))) }),
		of("a link to an epoch below", ready(), func(e *api.Eng) { e.K = append(e.K, by(1, check(2, 2), check(1, 3))) }),
		of("a link's source is not there", ready(), func(e *api.Eng) { e.K = append(e.K, by(1, check(0, 9), check(1, 2))) }),
		of("a link's target is not there", ready(), func(e *api.Eng) { e.K = append(e.K, by(1, check(0, 1), check(1, 9))) }),
		of("the first link's target is not there", ready(), func(e *api.Eng) { e.K = append([]api.Link{by(1, check(0, 1), check(1, 9))}, e.K...) }),
		of("a link's source is the zero root", ready(), func(e *api.Eng) { e.K = append(e.K, by(1, api.Check{}, check(1, 2))) }),
	}
}

func badChecks() []told {
	return []told{
		of("Fin not of J, another root", ready(), func(e *api.Eng) { e.Fin = check(0, 2) }),
		of("Fin not of J, another epoch", ready(), func(e *api.Eng) { e.Fin = check(1, 1) }),
		of("Fin not of J, nor in T", ready(), func(e *api.Eng) { e.Fin = check(0, 9) }),
		of("Fin zero", ready(), func(e *api.Eng) { e.Fin = api.Check{} }),
		of("no J", blank(), func(e *api.Eng) { e.J = nil }),
		of("no J and Fin zero", blank(), func(e *api.Eng) { e.J, e.Fin = nil, api.Check{} }),
		of("Fin twice in J", ready(), func(e *api.Eng) { e.J = append(e.J, check(0, 1)) }),
		of("another one twice in J", ready(), func(e *api.Eng) { e.J = append(e.J, check(1, 2)) }),
		of("one twice in J, one behind the other", ready(), func(e *api.Eng) { e.J = append([]api.Check{check(0, 1)}, e.J...) }),
		of("a root of J is not there", ready(), func(e *api.Eng) { e.J = append(e.J, check(5, 9)) }),
		of("a root of J, the first one, is not there", ready(), func(e *api.Eng) { e.J = append([]api.Check{check(5, 9)}, e.J...) }),
		of("the root of Fin is not there", blank(), func(e *api.Eng) { e.J, e.Fin = []api.Check{check(0, 9)}, check(0, 9) }),
		of("more is justified", ready(), func(e *api.Eng) { e.J = e.J[:1] }),
		of("more is justified by the last link", ready(), func(e *api.Eng) { e.K = append(e.K, by(11, check(1, 2), check(7, 5))) }),
		of("more is justified where all balances are 0", blank(), func(e *api.Eng) { e.Bal, e.K = make([]uint64, 4), []api.Link{by(1, check(0, 1), check(1, 1))} }),
		of("a later one is final", later(), func(e *api.Eng) { e.Fin = check(0, 1) }),
		of("a later one is final, behind one that links do not tell of", later(), func(e *api.Eng) { e.J, e.Fin = append(e.J, check(0, 2)), check(0, 2) }),
		of("a later one is final, and Fin the last one of J", later(), func(e *api.Eng) { slices.Reverse(e.J); e.Fin = check(0, 1) }),
	}
}

func mayNotBe() []told {
	return slices.Concat([]told{{"a zero one", api.Eng{}}}, badTrees(), badBalances(), badVotes(), badWeights(), badSlots(), badLinks(), badChecks())
}

// P17.2, P17.4: the chapter's example: of one block in slot 0: a tick, and a block of slot 1 behind it: two blocks.
func TestExample(t *testing.T) {
	e, is := New(name(1), []uint64{1})
	if !is {
		t.Fatal("there is none")
	}
	b := api.Block{Root: name(2), Parent: name(1), Slot: 1, Just: 4}
	for _, e := range []api.Eng{done(t, e, ticking(), putting(b)), done(t, e, callTick(), callBlock(b))} {
		want := api.Eng{
			T:   api.Tree{N: []api.Node{{Root: name(1), Parent: -1}, {Root: name(2), Parent: 0, Slot: 1, Just: 4}}},
			Bal: []uint64{1},
			V:   api.Votes{L: make([]api.Latest, 1)},
			W:   []uint64{0, 0},
			J:   []api.Check{check(0, 1)},
			Fin: check(0, 1),
			Now: 1,
		}
		if !isSame(e, want) {
			t.Errorf("%v, want %v", e, want)
		}
	}
	holdBlockErr(t, e, b, api.ErrFuture)
}

// P17.1: balances that may be, and such as may not.
func TestNew(t *testing.T) {
	for _, r := range []api.Root{{}, name(1), {31: 1}} {
		for _, bal := range [][]uint64{nil, {}, make([]uint64, 9), {top + 1}, {1, 1, 1, 1, 1, 1, 1, top + 1}, {last, 1}, {1, 2, 3, 4, 5, 6, 7, 8, 9}} {
			if e, is := New(r, bal); is || !isSame(e, api.Eng{}) {
				t.Errorf("New(%v, %v) = %v, %v", r, bal, e, is)
			}
		}
		for _, bal := range [][]uint64{{0}, {1}, {top}, {5, 7}, {0, 0, 0}, make([]uint64, 8), {1, 2, 3, 4, 5, 6, 7, 8}, slices.Repeat([]uint64{top}, 8)} {
			want := api.Eng{
				T:   api.Tree{N: []api.Node{{Root: r, Parent: -1}}},
				Bal: bal,
				V:   api.Votes{L: make([]api.Latest, len(bal))},
				W:   []uint64{0},
				J:   []api.Check{{Root: r}},
				Fin: api.Check{Root: r},
			}
			was := slices.Clone(bal)
			e, is := New(r, bal)
			if !is || !isSame(e, want) || !slices.Equal(bal, was) {
				t.Errorf("New(%v, %v) = %v, %v", r, was, e, is)
			}
			holdMay(t, "a new one", e, true)
		}
	}
}

// P17.1: what may be, and what may not, by each part alone.
func TestMay(t *testing.T) {
	for _, x := range mayBe() {
		holdMay(t, x.what, x.e, true)
	}
	for _, x := range mayNotBe() {
		holdMay(t, x.what, x.e, false)
	}
}

// differing are all that differ from ready by one part alone.
func differing() []told {
	return []told{
		of("a node's root", ready(), func(e *api.Eng) { e.T.N[4].Root = name(9) }),
		of("a node's parent", ready(), func(e *api.Eng) { e.T.N[4].Parent = 1 }),
		of("a node's slot", ready(), func(e *api.Eng) { e.T.N[4].Slot++ }),
		of("what a node justifies", ready(), func(e *api.Eng) { e.T.N[0].Just++ }),
		of("a node fewer", ready(), func(e *api.Eng) { e.T.N = e.T.N[:4] }),
		of("nodes in another order", ready(), func(e *api.Eng) { slices.Reverse(e.T.N) }),
		of("a balance", ready(), func(e *api.Eng) { e.Bal[3]++ }),
		of("a balance fewer", ready(), func(e *api.Eng) { e.Bal = e.Bal[:3] }),
		of("balances in another order", ready(), func(e *api.Eng) { slices.Reverse(e.Bal) }),
		of("a vote's root", ready(), func(e *api.Eng) { e.V.L[0].Root = name(1) }),
		of("a vote's epoch", ready(), func(e *api.Eng) { e.V.L[0].Epoch++ }),
		of("whether there is a vote", ready(), func(e *api.Eng) { e.V.L[3].Has = true }),
		of("votes in another order", ready(), func(e *api.Eng) { slices.Reverse(e.V.L) }),
		of("who is out", ready(), func(e *api.Eng) { e.V.Out = 8 }),
		of("a weight", ready(), func(e *api.Eng) { e.W[4]++ }),
		of("a weight fewer", ready(), func(e *api.Eng) { e.W = e.W[:4] }),
		of("weights in another order", ready(), func(e *api.Eng) { slices.Reverse(e.W) }),
		of("who waits", ready(), func(e *api.Eng) { e.Late[0].Val = 2 }),
		of("till when it waits", ready(), func(e *api.Eng) { e.Late[0].Slot++ }),
		of("what waits, its target", ready(), func(e *api.Eng) { e.Late[0].Target.Epoch++ }),
		of("nobody waits", ready(), func(e *api.Eng) { e.Late = nil }),
		of("a link's source", ready(), func(e *api.Eng) { e.K[0].S.Root = name(2) }),
		of("a link's target", ready(), func(e *api.Eng) { e.K[0].T.Epoch++ }),
		of("who attested a link", ready(), func(e *api.Eng) { e.K[0].Mask = 15 }),
		of("no links", ready(), func(e *api.Eng) { e.K = nil }),
		of("what is justified", ready(), func(e *api.Eng) { e.J[1].Root = name(3) }),
		of("one fewer is justified", ready(), func(e *api.Eng) { e.J = e.J[:1] }),
		of("J in another order", ready(), func(e *api.Eng) { slices.Reverse(e.J) }),
		of("Fin's epoch", ready(), func(e *api.Eng) { e.Fin.Epoch++ }),
		of("Fin's root", ready(), func(e *api.Eng) { e.Fin.Root = name(2) }),
		of("the slot", ready(), func(e *api.Eng) { e.Now++ }),
	}
}

// P17.1: of two that differ by one part alone, and of two lists in another order, they are not the same.
func TestSame(t *testing.T) {
	all := slices.Concat([]told{{"ready", ready()}, {"a zero one", api.Eng{}}, {"later", later()}, {"full", full()}}, differing())
	for i, a := range all {
		for k, b := range all {
			if Same(a.e, clone(b.e)) != (i == k) {
				t.Errorf("Same of %s and %s", a.what, b.what)
			}
		}
	}
	for _, x := range slices.Concat(mayBe(), mayNotBe()) {
		if !Same(x.e, clone(x.e)) || Same(x.e, changed(x.e, func(e *api.Eng) { e.Now ^= 1 })) {
			t.Errorf("Same of %s", x.what)
		}
	}
	// R6: nil and empty.
	empty := api.Eng{T: api.Tree{N: []api.Node{}}, Bal: []uint64{}, V: api.Votes{L: []api.Latest{}}, W: []uint64{}, Late: []api.Att{}, K: []api.Link{}, J: []api.Check{}}
	if !Same(empty, api.Eng{}) || !Same(api.Eng{}, empty) {
		t.Error("Same of nil and empty")
	}
	// Two lists in another order, of links, and of what waits.
	for _, change := range []func(*api.Eng){
		func(e *api.Eng) { slices.Reverse(e.Late) },
		func(e *api.Eng) { slices.Reverse(e.J) },
		func(e *api.Eng) { e.Late = e.Late[:5] },
	} {
		if Same(full(), changed(full(), change)) {
			t.Error("Same of lists in another order")
		}
	}
	if Same(later(), changed(later(), func(e *api.Eng) { slices.Reverse(e.K) })) {
		t.Error("Same of links in another order")
	}
}

// acts are of all kinds; of ready some can be done.
func acts() []act {
	good, other := att(3, 9, 5, check(1, 2), check(2, 3)), att(0, 12, 4, check(0, 1), check(2, 4))
	b, bad := block(9, 5, 10), block(9, 8, 99)
	raw, _ := wire.PutAtt(good)
	return []act{
		putting(b), putting(bad), putting(api.Block{}), putting(block(2, 1, 8)),
		attesting(good), attesting(other), attesting(api.Att{}), attesting(att(99, last, 9, check(last, 9), check(0, 9))),
		ticking(), pruning(),
		callBlock(b), callBlock(bad), callAtt(good), callAtt(other), callTick(), callPrune(),
		refused(api.Call{Kind: api.CallBlock, Raw: raw}, api.ErrForm),
		refused(api.Call{Kind: api.CallAtt, Raw: wire.PutBlock(b)}, api.ErrForm),
		refused(api.Call{Kind: api.CallAtt}, api.ErrForm),
		refused(api.Call{Kind: api.CallClose, Raw: raw}, api.ErrArg),
		refused(api.Call{Kind: -1}, api.ErrArg),
	}
}

// P17.2 to P17.4: of an engine that may not be: it, and ErrArg, whatever else there is.
func TestMayNotBe(t *testing.T) {
	for _, x := range mayNotBe() {
		for _, a := range acts() {
			holdErr(t, x.e, a, api.ErrArg)
		}
	}
}

// P17.2 to P17.4: all kinds, of all engines that may be, by the plain ways.
func TestEachOfEach(t *testing.T) {
	for _, x := range mayBe() {
		for _, a := range acts() {
			holdAct(t, x.e, a)
		}
	}
}

// P17.2: a block comes in behind, of weight 0, whatever else there is.
func TestBlock(t *testing.T) {
	for _, x := range []struct {
		e      api.Eng
		b      api.Block
		parent int
	}{
		// Of a slot at Now, just above its parent's, and in between.
		{ready(), api.Block{Root: name(6), Parent: name(5), Slot: 10, Just: 7}, 4},
		{ready(), api.Block{Root: name(6), Parent: name(1), Slot: 10}, 0},
		{ready(), api.Block{Root: name(6), Parent: name(1), Slot: 1, Just: last}, 0},
		{ready(), api.Block{Root: name(6), Parent: name(4), Slot: 7}, 3},
		{ready(), api.Block{Parent: name(3), Slot: 9}, 2},
		// What is final is another one: behind it.
		{later(), block(6, 2, 10), 1},
		{later(), block(6, 3, 10), 2},
		{later(), block(6, 5, 10), 4},
		// At the greatest slot.
		{changed(ready(), func(e *api.Eng) { e.Now, e.Late = top, nil }), block(6, 5, top), 4},
		// The twelfth one.
		{changed(full(), func(e *api.Eng) { e.T.N, e.W = e.T.N[:11], e.W[:11] }), block(12, 4, 20), 3},
	} {
		holdBlockTo(t, x.e, x.b, func(e *api.Eng) {
			e.T.N = append(e.T.N, api.Node{Root: x.b.Root, Parent: x.parent, Slot: x.b.Slot, Just: x.b.Just})
			e.W = append(e.W, 0)
		})
	}
	// One behind the other.
	e := done(t, ready(), putting(block(6, 5, 10)), ticking(), callBlock(block(7, 6, 11)), putting(block(8, 4, 6)))
	if !slices.Equal(e.W, []uint64{34 + 17, 34 + 17, 34 + 17, 0, 0, 0, 0, 0}) || e.T.N[6].Parent != 5 || e.T.N[7].Parent != 3 {
		t.Errorf("%v", e)
	}
}

// P17.2: each error of a block alone, and where two apply the one named first.
func TestBlockErrors(t *testing.T) {
	lastSlot := changed(later(), func(e *api.Eng) { e.Now, e.Late = top, nil })
	for i, x := range []struct {
		e    api.Eng
		b    api.Block
		want api.Errno
	}{
		{ready(), block(6, 5, 11), api.ErrFuture},
		{ready(), block(6, 5, last), api.ErrFuture},
		{ready(), block(5, 3, 9), api.ErrKnown},
		{ready(), block(1, 5, 10), api.ErrKnown},
		{ready(), block(6, 9, 10), api.ErrUnknown},
		{ready(), block(6, 6, 10), api.ErrUnknown},
		{ready(), api.Block{Root: name(6), Slot: 10}, api.ErrUnknown},
		{ready(), block(6, 5, 9), api.ErrSlot},
		{ready(), block(6, 5, 8), api.ErrSlot},
		{ready(), block(6, 1, 0), api.ErrSlot},
		{full(), block(13, 12, 20), api.ErrFull},
		{full(), block(13, 1, 1), api.ErrFull},
		{later(), block(6, 4, 10), api.ErrOld},
		{later(), block(6, 1, 10), api.ErrOld},
		{later(), block(6, 1, 1), api.ErrOld},
		// ErrFuture is told first.
		{ready(), block(5, 3, 11), api.ErrFuture},
		{ready(), block(6, 9, 11), api.ErrFuture},
		{full(), block(13, 12, 21), api.ErrFuture},
		{later(), block(6, 4, 11), api.ErrFuture},
		{lastSlot, block(6, 5, top+1), api.ErrFuture},
		{lastSlot, block(6, 9, last), api.ErrFuture},
		{api.Eng{Now: 3}, block(6, 5, 4), api.ErrArg},
		// Then what tree tells, in its order, and ErrOld last.
		{ready(), block(5, 9, 9), api.ErrKnown},
		{ready(), block(5, 4, 1), api.ErrKnown},
		{full(), block(12, 11, 20), api.ErrKnown},
		{later(), block(4, 1, 6), api.ErrKnown},
		{full(), block(13, 14, 20), api.ErrUnknown},
		{later(), block(6, 9, 6), api.ErrUnknown},
		{full(), block(13, 12, 16), api.ErrSlot},
		{later(), block(6, 4, 5), api.ErrSlot},
		{changed(full(), func(e *api.Eng) { e.Fin = check(1, 2) }), block(13, 4, 20), api.ErrFull},
		{changed(full(), func(e *api.Eng) { e.Fin = check(1, 2) }), block(13, 4, 5), api.ErrSlot},
	} {
		t.Log(i)
		holdBlockErr(t, x.e, x.b, x.want)
	}
}

// wrong is an attestation that would count in ready, but for what is changed.
func wrong(change func(*api.Att)) api.Att {
	a := att(3, 9, 5, check(1, 2), check(2, 3))
	change(&a)
	return a
}

// P17.2: an attestation that does not fit, by each part alone, and the errors in their order; whether it would count, wait, or may not be.
func TestAttThatDoesNotFit(t *testing.T) {
	for i, x := range []struct {
		change func(*api.Att)
		want   api.Errno
	}{
		{func(a *api.Att) { a.Val = -1 }, api.ErrVal},
		{func(a *api.Att) { a.Val = 4 }, api.ErrVal},
		{func(a *api.Att) { a.Val = 8 }, api.ErrVal},
		{func(a *api.Att) { a.Val = 65535 }, api.ErrVal},
		{func(a *api.Att) { a.Val = least }, api.ErrVal},
		{func(a *api.Att) { a.Val = greatest }, api.ErrVal},
		{func(a *api.Att) { a.Head = name(9) }, api.ErrUnknown},
		{func(a *api.Att) { a.Head = api.Root{} }, api.ErrUnknown},
		{func(a *api.Att) { a.Source.Root = name(9) }, api.ErrUnknown},
		{func(a *api.Att) { a.Target.Root = name(9) }, api.ErrUnknown},
		{func(a *api.Att) { a.Target.Epoch = 1 }, api.ErrLink},
		{func(a *api.Att) { a.Target.Epoch = 0 }, api.ErrLink},
		{func(a *api.Att) { a.Source.Epoch = last }, api.ErrLink},
		{func(a *api.Att) { a.Source.Epoch, a.Target.Epoch = last, last }, api.ErrLink},
		// The target is above the source, and beside it.
		{func(a *api.Att) { a.Target.Root = name(1) }, api.ErrLink},
		{func(a *api.Att) { a.Target.Root, a.Head = name(4), name(4) }, api.ErrLink},
		{func(a *api.Att) { a.Source.Root = name(4) }, api.ErrLink},
		{func(a *api.Att) { a.Source.Root = name(5) }, api.ErrLink},
		// The head is above the target, and beside it.
		{func(a *api.Att) { a.Head = name(2) }, api.ErrLink},
		{func(a *api.Att) { a.Head = name(1) }, api.ErrLink},
		{func(a *api.Att) { a.Head = name(4) }, api.ErrLink},
		// ErrVal ahead of ErrUnknown, and that ahead of ErrLink.
		{func(a *api.Att) { a.Val, a.Head = 4, name(9) }, api.ErrVal},
		{func(a *api.Att) { a.Val, a.Target.Epoch = 4, 0 }, api.ErrVal},
		{func(a *api.Att) { *a = api.Att{Val: 4, Slot: a.Slot} }, api.ErrVal},
		{func(a *api.Att) { a.Head, a.Target.Epoch = name(9), 0 }, api.ErrUnknown},
		{func(a *api.Att) { a.Source.Root, a.Head = name(9), name(2) }, api.ErrUnknown},
		{func(a *api.Att) { a.Target.Root, a.Source.Epoch = name(9), 5 }, api.ErrUnknown},
	} {
		t.Log(i)
		for _, slot := range []uint64{0, 9, 10, 11, top, top + 1, last} {
			a := wrong(x.change)
			a.Slot = slot
			holdAttErr(t, ready(), a, x.want)
			// ErrFull, and ErrArg of the slot, come behind.
			holdAttErr(t, changed(ready(), func(e *api.Eng) {
				e.Late, e.K = fullLate(6, 20), append(e.K, fullLinks(15)...)
			}), a, x.want)
		}
	}
	// The zero root is one as any other is.
	e, _ := New(api.Root{}, []uint64{1})
	e = done(t, e, ticking(), attesting(api.Att{Target: api.Check{Epoch: 1}}))
	if !slices.Equal(e.W, []uint64{1}) || len(e.J) != 2 {
		t.Errorf("%v", e)
	}
}

// P17.2: an attestation of a Slot below Now counts; all others wait, as long as there is room, and their slot may be.
func TestAttBySlot(t *testing.T) {
	a := wrong(func(a *api.Att) {})
	counts := func(e *api.Eng) {
		e.K = append(e.K, by(8, a.Source, a.Target))
		e.V.L[3] = on(5, 2)
		e.W = []uint64{51, 51, 51, 0, 17}
	}
	for _, slot := range []uint64{0, 1, 9} {
		a.Slot = slot
		holdAttTo(t, ready(), a, counts)
	}
	for _, slot := range []uint64{10, 11, 99, top - 1, top} {
		a.Slot = slot
		holdAttTo(t, ready(), a, func(e *api.Eng) { e.Late = append(e.Late, a) })
		holdAttTo(t, changed(ready(), func(e *api.Eng) { e.Late = nil }), a, func(e *api.Eng) { e.Late = []api.Att{a} })
		holdAttTo(t, changed(full(), func(e *api.Eng) { e.Now, e.Late = 10, fullLate(5, 10) }), a, func(e *api.Eng) { e.Late = append(e.Late, a) })
		holdAttErr(t, changed(full(), func(e *api.Eng) { e.Now = 10 }), a, api.ErrFull)
	}
	for _, slot := range []uint64{top + 1, 1 << 63, last} {
		a.Slot = slot
		holdAttErr(t, ready(), a, api.ErrArg)
		// ErrArg ahead of ErrFull.
		holdAttErr(t, full(), a, api.ErrArg)
	}
	// Where what waits is full one counts all the same.
	a.Slot = 9
	holdAttTo(t, changed(full(), func(e *api.Eng) { e.Now = 10 }), a, func(e *api.Eng) {
		e.K = append(e.K, by(8, a.Source, a.Target))
		e.V.L[3] = on(5, 2)
		e.W = []uint64{51, 51, 51, 0, 17, 0, 0, 0, 0, 0, 0, 0}
	})
	// At the first slot none counts, at the last one all but those of it.
	a.Slot = 0
	holdAttTo(t, changed(ready(), func(e *api.Eng) { e.Now = 0 }), a, func(e *api.Eng) { e.Late = append(e.Late, a) })
	end := changed(ready(), func(e *api.Eng) { e.Now, e.Late = top, nil })
	a.Slot = top - 1
	holdAttTo(t, end, a, counts)
	a.Slot = top
	holdAttTo(t, end, a, func(e *api.Eng) { e.Late = []api.Att{a} })
}

// P17.2: where there is no room for a link nothing is done, also of the vote; one that is there is attested.
func TestAttOfALinkThatMayNotBe(t *testing.T) {
	e := changed(ready(), func(e *api.Eng) { e.K = append(e.K, fullLinks(15)...) })
	holdAttErr(t, e, att(3, 9, 3, check(0, 1), check(2, 3)), api.ErrFull)
	holdAttErr(t, e, att(0, 9, 3, check(0, 1), check(20, 2)), api.ErrFull)
	holdAttErr(t, e, att(0, 0, 5, check(1, 1), check(20, 1)), api.ErrFull)
	holdAttTo(t, e, att(3, 9, 3, check(0, 1), check(1, 2)), func(e *api.Eng) {
		e.K[0].Mask, e.V.L[3], e.W = 15, on(3, 1), []uint64{51, 51, 51, 0, 0}
	})
	holdAttTo(t, e, att(3, 9, 3, check(0, 1), check(15, 1)), func(e *api.Eng) {
		e.K[15].Mask, e.V.L[3], e.W = 9, on(3, 15), []uint64{51, 51, 51, 0, 0}
	})
	// The sixteenth one has room.
	e.K = e.K[:15]
	holdAttTo(t, e, att(3, 9, 3, check(0, 1), check(2, 3)), func(e *api.Eng) {
		e.K, e.V.L[3], e.W = append(e.K, by(8, check(0, 1), check(2, 3))), on(3, 2), []uint64{51, 51, 51, 0, 0}
	})
	// It may wait: of room for links that is not asked.
	e = changed(ready(), func(e *api.Eng) { e.K = append(e.K, fullLinks(15)...) })
	a := att(3, 10, 3, check(0, 1), check(2, 3))
	holdAttTo(t, e, a, func(e *api.Eng) { e.Late = append(e.Late, a) })
}

// P17.2: a vote that is Taken, Ignored, and Twice; the link is attested in each case, and weights go by votes.
func TestAttByVote(t *testing.T) {
	zero := check(0, 1)
	// Taken: of nobody's vote, and of a greater epoch; for another root, and for the same.
	holdAttTo(t, ready(), att(3, 5, 4, zero, check(1, 4)), func(e *api.Eng) {
		e.K, e.V.L[3], e.W = append(e.K, by(8, zero, check(1, 4))), on(4, 1), []uint64{51, 34, 34, 17, 0}
	})
	holdAttTo(t, ready(), att(0, 5, 4, zero, check(2, 4)), func(e *api.Eng) {
		e.K, e.V.L[0], e.W = append(e.K, by(1, zero, check(2, 4))), on(4, 2), []uint64{34, 24, 24, 10, 0}
	})
	holdAttTo(t, ready(), att(1, 5, 5, zero, check(2, 1)), func(e *api.Eng) {
		e.K, e.V.L[1], e.W = append(e.K, by(2, zero, check(2, 1))), on(5, 2), []uint64{34, 34, 34, 0, 11}
	})
	holdAttTo(t, ready(), att(2, 5, 3, zero, check(last, 2)), func(e *api.Eng) {
		e.K, e.V.L[2] = append(e.K, by(4, zero, check(last, 2))), on(3, last)
	})
	holdAttTo(t, ready(), att(2, 5, 1, zero, check(2, 1)), func(e *api.Eng) {
		e.K, e.V.L[2], e.W = append(e.K, by(4, zero, check(2, 1))), on(1, 2), []uint64{34, 21, 21, 0, 0}
	})
	// Ignored: the same again, the same by another link, and one of a less epoch.
	holdAttTo(t, ready(), att(0, 5, 3, zero, check(1, 2)), func(e *api.Eng) {})
	holdAttTo(t, ready(), att(0, 5, 3, zero, check(1, 3)), func(e *api.Eng) { e.K = append(e.K, by(1, zero, check(1, 3))) })
	high := changed(ready(), func(e *api.Eng) { e.V.L[0].Epoch = 9 })
	holdAttTo(t, high, att(0, 5, 4, zero, check(8, 4)), func(e *api.Eng) { e.K = append(e.K, by(1, zero, check(8, 4))) })
	// Twice: of the same epoch for another head; then it stays out.
	twice := func(e *api.Eng) {
		e.K, e.V.L[1], e.V.Out, e.W = append(e.K, by(2, zero, check(1, 4))), api.Latest{}, 2, []uint64{23, 23, 23, 0, 0}
	}
	holdAttTo(t, ready(), att(1, 5, 4, zero, check(1, 4)), twice)
	holdAttTo(t, ready(), att(1, 5, 5, zero, check(1, 2)), func(e *api.Eng) {
		e.V.L[1], e.V.Out, e.W = api.Latest{}, 2, []uint64{23, 23, 23, 0, 0}
	})
	out := changed(ready(), twice)
	holdAttTo(t, out, att(1, 5, 5, zero, check(7, 5)), func(e *api.Eng) { e.K = append(e.K, by(2, zero, check(7, 5))) })
	holdAttTo(t, out, att(1, 5, 3, zero, check(1, 2)), func(e *api.Eng) {})
	// Who is out attests links still, and justifies.
	two := changed(blank(), func(e *api.Eng) { e.V.Out, e.K = 4, []api.Link{by(3, zero, check(1, 2))} })
	holdAttTo(t, two, att(2, 5, 5, zero, check(1, 2)), func(e *api.Eng) {
		e.K[0].Mask, e.J = 7, []api.Check{zero, check(1, 2)}
	})
	// One of balance 0 weighs nothing.
	none := changed(blank(), func(e *api.Eng) { e.Bal[3] = 0 })
	holdAttTo(t, none, att(3, 5, 5, zero, check(1, 2)), func(e *api.Eng) {
		e.K, e.V.L[3] = []api.Link{by(8, zero, check(1, 2))}, on(5, 1)
	})
}

// P17.2: what is justified then, and final.
func TestAttJustifies(t *testing.T) {
	zero, one, two, three, four := check(0, 1), check(1, 2), check(2, 3), check(3, 5), check(4, 5)
	// The third one of four is two thirds: of the links that wait for it each then, one behind the other, in whatever order they stand.
	begun := changed(blank(), func(e *api.Eng) {
		e.V.L = []api.Latest{on(5, 4), on(5, 4), {}, {}}
		e.W = []uint64{21, 21, 21, 0, 21}
		e.K = []api.Link{by(3, zero, one)}
	})
	vote := func(e *api.Eng) { e.V.L[2], e.W = on(5, 1), []uint64{34, 34, 34, 0, 34} }
	a := att(2, 9, 5, zero, one)
	holdAttTo(t, begun, a, func(e *api.Eng) {
		vote(e)
		e.K[0].Mask, e.J = 7, []api.Check{zero, one}
	})
	rest := []api.Link{by(7, one, two), by(14, two, three), by(15, three, four)}
	for _, links := range [][]api.Link{rest, {rest[2], rest[1], rest[0]}, {rest[1], rest[2], rest[0]}} {
		holdAttTo(t, changed(begun, func(e *api.Eng) { e.K = append(e.K, links...) }), a, func(e *api.Eng) {
			vote(e)
			e.K[0].Mask, e.J, e.Fin = 7, []api.Check{zero, one, two, three, four}, three
		})
	}
	// One link of them is missing: no more is justified from there on.
	holdAttTo(t, changed(begun, func(e *api.Eng) { e.K = append(e.K, rest[0], rest[2]) }), a, func(e *api.Eng) {
		vote(e)
		e.K[0].Mask, e.J, e.Fin = 7, []api.Check{zero, one, two}, one
	})
	// By a link to a later epoch than the next one nothing is final.
	holdAttTo(t, changed(begun, func(e *api.Eng) { e.K = append(e.K, by(7, one, three)) }), a, func(e *api.Eng) {
		vote(e)
		e.K[0].Mask, e.J = 7, []api.Check{zero, one, three}
	})
	// What is justified already is final by a link of the next epoch.
	holdAttTo(t, changed(ready(), func(e *api.Eng) { e.K, e.J = append(e.K, by(3, one, two)), append(e.J, two) }), att(3, 9, 5, one, two), func(e *api.Eng) {
		e.K[1].Mask, e.V.L[3], e.W, e.Fin = 11, on(5, 2), []uint64{51, 51, 51, 0, 17}, one
	})
	// Two of four, and half of what is two thirds with another one, justify nothing.
	holdAttTo(t, changed(blank(), func(e *api.Eng) { e.K = []api.Link{by(8, zero, one)} }), att(2, 9, 5, zero, one), func(e *api.Eng) {
		e.K[0].Mask, e.V.L[2], e.W = 12, on(5, 1), []uint64{13, 13, 13, 0, 13}
	})
	// Of noughts each link justifies.
	holdAttTo(t, changed(blank(), func(e *api.Eng) { e.Bal = make([]uint64, 4) }), att(2, 9, 5, zero, one), func(e *api.Eng) {
		e.K, e.V.L[2], e.J = []api.Link{by(4, zero, one)}, on(5, 1), []api.Check{zero, one}
	})
	// What is not behind what is final stays not final, though it is justified.
	beside := changed(later(), func(e *api.Eng) {
		e.K = append(e.K, by(3, check(2, 4), check(3, 4)), by(7, zero, check(2, 4)))
		e.J = append(e.J, check(2, 4))
	})
	holdAttTo(t, beside, att(2, 9, 4, check(2, 4), check(3, 4)), func(e *api.Eng) {
		e.K[2].Mask, e.J = 7, append(e.J, check(3, 4))
		e.V.L[2], e.W = on(4, 3), []uint64{34, 21, 21, 13, 0}
	})
}

// P17.3: the slot goes on, and what is due counts, in order, as far as it fits, and there is room.
func TestTick(t *testing.T) {
	zero, one, two := check(0, 1), check(1, 2), check(2, 3)
	next := func(e *api.Eng) { e.Now++ }
	// Nothing waits, or nothing is due.
	for _, now := range []uint64{0, 1, 10, top - 2} {
		holdTickTo(t, changed(blank(), func(e *api.Eng) { e.Now = now }), next)
		holdTickTo(t, changed(ready(), func(e *api.Eng) { e.Now, e.Late[0].Slot = now, now+1 }), next)
		holdTickTo(t, changed(ready(), func(e *api.Eng) { e.Now, e.Late = now, fullLate(6, top) }), next)
	}
	// One is due, also at the last tick.
	for _, now := range []uint64{0, 10, top - 1} {
		holdTickTo(t, changed(ready(), func(e *api.Eng) { e.Now, e.Late[0].Slot = now, now }), func(e *api.Eng) {
			e.Now, e.Late = now+1, nil
			e.K[0].Mask, e.V.L[3], e.W = 15, on(3, 1), []uint64{51, 51, 51, 0, 0}
		})
	}
	// At 2^40 none is, whatever waits.
	end := changed(ready(), func(e *api.Eng) { e.Now, e.Late[0].Slot = top, top })
	for _, a := range []act{ticking(), callTick()} {
		holdErr(t, end, a, api.ErrFull)
		holdErr(t, changed(end, func(e *api.Eng) { e.Late = nil }), a, api.ErrFull)
		holdErr(t, changed(end, func(e *api.Eng) { e.W[0]++ }), a, api.ErrArg)
	}
	// Several are due, between others: they justify, one after the other.
	many := changed(ready(), func(e *api.Eng) {
		e.Late = []api.Att{att(0, 10, 5, one, two), att(0, 12, 5, two, check(3, 5)), att(1, 10, 5, one, two), att(1, 11, 5, two, check(3, 5)), att(3, 10, 5, one, two)}
	})
	holdTickTo(t, many, func(e *api.Eng) {
		e.Late = []api.Att{e.Late[1], e.Late[3]}
		e.K, e.J, e.Fin, e.Now = append(e.K, by(11, one, two)), append(e.J, two), one, 11
		e.V.L = []api.Latest{on(5, 2), on(5, 2), on(3, 1), on(5, 2)}
		e.W = []uint64{51, 51, 51, 0, 38}
	})
	// In order: which link comes first, and which vote.
	for i, l := range [][]api.Att{
		{att(3, 10, 5, zero, one), att(3, 10, 3, zero, two)},
		{att(3, 10, 3, zero, two), att(3, 10, 5, zero, one)},
	} {
		holdTickTo(t, changed(blank(), func(e *api.Eng) { e.Late = l }), func(e *api.Eng) {
			e.Late, e.Now, e.V.L[3], e.W = nil, 11, on(3, 2), []uint64{17, 17, 17, 0, 0}
			e.K = []api.Link{by(8, zero, l[0].Target), by(8, zero, l[1].Target)}
			if i == 0 && e.K[0].T != one {
				t.Error("they are not in order")
			}
		})
	}
	// Two votes of one epoch are Twice.
	holdTickTo(t, changed(blank(), func(e *api.Eng) { e.Late = []api.Att{att(3, 10, 5, zero, one), att(3, 10, 3, zero, one)} }), func(e *api.Eng) {
		e.Late, e.Now, e.V.Out, e.K = nil, 11, 8, []api.Link{by(8, zero, one)}
	})
}

// P17.3: of those that are due some do not fit any more, and for some there is no room.
func TestTickWithErrors(t *testing.T) {
	zero := check(0, 1)
	// No room behind the first one; what is of a link that is there counts.
	e := changed(ready(), func(e *api.Eng) {
		e.K = append(e.K, fullLinks(14)...)
		e.Late = []api.Att{
			att(4, 10, 3, zero, check(20, 2)), att(3, 10, 5, zero, check(21, 2)), att(3, 10, 3, zero, check(22, 2)),
			att(0, 10, 4, zero, check(23, 1)), att(0, 10, 5, zero, check(14, 1)), att(3, 11, 3, zero, check(24, 2)),
		}
	})
	holdTickTo(t, e, func(e *api.Eng) {
		e.Late, e.Now = e.Late[5:], 11
		e.K = append(e.K, by(8, zero, check(21, 2)))
		e.V.L[0], e.V.L[3] = on(5, 14), on(5, 21)
		e.W = []uint64{51, 51, 51, 0, 27}
	})
	// What does not fit goes, and nothing is told of it: by each part alone.
	good := wrong(func(a *api.Att) { a.Slot = 10 })
	for i, change := range []func(*api.Att){
		func(a *api.Att) { a.Val = -1 }, func(a *api.Att) { a.Val = 4 }, func(a *api.Att) { a.Val = 8 },
		func(a *api.Att) { a.Head = name(9) }, func(a *api.Att) { a.Source.Root = name(9) }, func(a *api.Att) { a.Target.Root = name(9) },
		func(a *api.Att) { a.Target.Epoch = 1 }, func(a *api.Att) { a.Target.Epoch = 0 }, func(a *api.Att) { a.Source.Root = name(4) },
		func(a *api.Att) { a.Target.Root = name(4) }, func(a *api.Att) { a.Head = name(2) }, func(a *api.Att) { a.Head = name(4) },
	} {
		t.Log(i)
		bad := wrong(change)
		bad.Slot = 10
		holdTickTo(t, changed(ready(), func(e *api.Eng) { e.Late = []api.Att{bad} }), func(e *api.Eng) { e.Late, e.Now = nil, 11 })
		for _, l := range [][]api.Att{{bad, good, bad}, {good, bad}} {
			holdTickTo(t, changed(ready(), func(e *api.Eng) { e.Late = l }), func(e *api.Eng) {
				e.Late, e.Now = nil, 11
				e.K, e.V.L[3], e.W = append(e.K, by(8, good.Source, good.Target)), on(5, 2), []uint64{51, 51, 51, 0, 17}
			})
		}
	}
	// What waited fits no more behind a cut: its head went, its source did, its target did.
	e = changed(later(), func(e *api.Eng) {
		e.Late = []api.Att{
			att(3, 10, 4, zero, check(1, 4)), att(3, 10, 5, zero, check(7, 5)), att(3, 10, 5, check(1, 2), check(8, 3)), att(3, 11, 4, zero, check(1, 1)),
		}
	})
	for _, a := range e.Late {
		done(t, changed(e, func(e *api.Eng) { e.Late, e.Now = nil, 12 }), attesting(a))
	}
	cut := done(t, e, pruning())
	if !slices.Equal(cut.Late, e.Late) {
		t.Error("what waits goes with a cut")
	}
	holdTickTo(t, cut, func(e *api.Eng) {
		e.Late, e.Now = e.Late[3:], 11
		e.K, e.V.L[3], e.W = append(e.K, by(8, check(1, 2), check(8, 3))), on(5, 8), []uint64{51, 51, 17}
	})
	after := done(t, cut, ticking())
	holdTickTo(t, after, func(e *api.Eng) { e.Late, e.Now = nil, 12 })
}

// P17.3: where what is final is the first block nothing changes.
func TestPruneNothing(t *testing.T) {
	for _, x := range mayBe() {
		if x.e.Fin.Root == x.e.T.N[0].Root && x.e.Fin.Epoch == 0 {
			holdPruneTo(t, x.e, func(e *api.Eng) {})
		}
	}
}

// mixed is an engine in which 2 of epoch 3 is final, with votes, links and checkpoints of roots that stay, and that do not.
func mixed() api.Eng {
	return changed(blank(), func(e *api.Eng) {
		e.Bal = []uint64{10, 11, 13, 17, 19, 23}
		e.V.L = []api.Latest{on(1, 5), on(2, 1), on(3, 4), on(4, 9), on(5, 2), {}}
		e.V.Out = 32
		e.W = []uint64{70, 43, 32, 17, 19}
		e.K = []api.Link{
			by(1, check(0, 2), check(2, 3)),
			by(2, check(0, 2), check(3, 3)),
			by(4, check(0, 2), check(4, 3)),
			by(1, check(0, 1), check(4, 3)),
			by(1, check(3, 2), check(4, 4)),
			by(1, check(0, 1), check(4, 4)),
			by(8, check(3, 2), check(4, 5)),
			by(16, check(0, 5), check(4, 2)),
			by(1, check(0, 1), check(1, 2)),
			by(32, check(9, 3), check(last, 3)),
		}
		e.J = []api.Check{
			check(0, 1), check(2, 2), check(5, 1), check(3, 3), check(2, 5), check(3, 4), check(3, 2), check(7, 4), check(4, 3), check(4, 2), check(last, 5), check(0, 2),
		}
		e.Fin = check(3, 2)
		e.Late = []api.Att{att(0, 10, 4, check(0, 1), check(1, 4)), att(1, 10, 5, check(3, 2), check(4, 5))}
	})
}

// P17.3: what goes with what is not behind what is final, and with epochs that are over.
func TestPrune(t *testing.T) {
	want := func(e *api.Eng) {
		e.T.N = []api.Node{e.T.N[1], e.T.N[2], e.T.N[4]}
		e.T.N[0].Parent, e.T.N[1].Parent, e.T.N[2].Parent = -1, 0, 1
		e.V.L = []api.Latest{{}, on(2, 1), on(3, 4), {}, on(5, 2), {}}
		e.W = []uint64{43, 32, 19}
		e.K = []api.Link{by(4, check(0, 2), check(4, 3)), by(8, check(3, 2), check(4, 5)), by(16, check(0, 5), check(4, 2)), by(32, check(9, 3), check(last, 3))}
		e.J = []api.Check{check(3, 3), check(3, 2), check(4, 3), check(4, 2), check(last, 5)}
	}
	holdPruneTo(t, mixed(), want)
	// Pruned again nothing changes; what is done between is done.
	once := done(t, mixed(), pruning())
	holdPruneTo(t, once, func(e *api.Eng) {})
	again := done(t, once, putting(block(6, 2, 10)), ticking(), ticking(), pruning())
	if len(again.T.N) != 4 || len(again.K) != 4 || again.K[1].Mask != 10 || len(again.J) != 5 || len(again.Late) != 0 {
		t.Errorf("%v", again)
	}
	// By the last block alone, and by the first one of a later epoch.
	lone := changed(mixed(), func(e *api.Eng) { e.J, e.Fin = append(e.J, check(9, 5)), check(9, 5) })
	holdPruneTo(t, lone, func(e *api.Eng) {
		e.T.N = []api.Node{e.T.N[4]}
		e.T.N[0].Parent = -1
		e.V.L = []api.Latest{{}, {}, {}, {}, on(5, 2), {}}
		e.W, e.K, e.J = []uint64{19}, nil, []api.Check{check(last, 5), check(9, 5)}
	})
	first := changed(mixed(), func(e *api.Eng) { e.Fin = check(5, 1) })
	holdPruneTo(t, first, func(e *api.Eng) {
		e.K, e.J = e.K[9:], []api.Check{check(5, 1), check(7, 4), check(last, 5)}
	})
	// What is justified by links stays so, and what they wait for.
	holdPruneTo(t, later(), func(e *api.Eng) {
		e.T.N = []api.Node{e.T.N[1], e.T.N[2], e.T.N[4]}
		e.T.N[0].Parent, e.T.N[1].Parent, e.T.N[2].Parent = -1, 0, 1
		e.W, e.K, e.J = []uint64{34, 34, 0}, e.K[1:], e.J[1:]
	})
	// A full one has room again.
	deep := changed(full(), func(e *api.Eng) { e.J, e.Fin = append(e.J, check(2, 11)), check(2, 11) })
	holdBlockErr(t, deep, block(13, 12, 20), api.ErrFull)
	holdBlockTo(t, done(t, deep, pruning()), block(13, 12, 20), func(e *api.Eng) {
		e.T.N, e.W = append(e.T.N, api.Node{Root: name(13), Parent: 1, Slot: 20}), []uint64{0, 0, 0}
	})
}

// P17.4: each kind that changes something, as it is done by its own call; whatever else the call tells of.
func TestDo(t *testing.T) {
	b, a := block(9, 5, 10), att(3, 9, 5, check(1, 2), check(2, 3))
	rawB := wire.PutBlock(b)
	rawA, _ := wire.PutAtt(a)
	for _, x := range []struct {
		c    api.Call
		same act
	}{
		{api.Call{Kind: 0, Raw: rawB}, putting(b)},
		{api.Call{Kind: 1, Raw: rawA}, attesting(a)},
		{api.Call{Kind: 2}, ticking()},
		{api.Call{Kind: 2, Raw: rawB}, ticking()},
		{api.Call{Kind: 3}, pruning()},
		{api.Call{Kind: 3, Raw: rawA}, pruning()},
	} {
		for _, e := range []api.Eng{ready(), later(), full(), mixed()} {
			for _, c := range []api.Call{x.c, {Kind: x.c.Kind, Raw: x.c.Raw, A: name(2), B: name(4), Slot: last}} {
				was := slices.Clone(c.Raw)
				got, err := holdAct(t, e, calling(c, x.same))
				if want, wantErr := x.same.do(e); !isSame(got, want) || err != wantErr {
					t.Errorf("Do of %s = %v, %v, and the call itself %v, %v", x.same.what, got, err, want, wantErr)
				}
				if !bytes.Equal(c.Raw, was) {
					t.Errorf("Do changed %v to %v", was, c.Raw)
				}
			}
		}
	}
	if e := done(t, ready(), calling(api.Call{Raw: rawB}, putting(b))); len(e.T.N) != 6 {
		t.Error("no block came in")
	}
}

// P17.4: bytes that are none, and kinds that change nothing, or are none.
func TestDoErrors(t *testing.T) {
	rawB := wire.PutBlock(block(9, 5, 10))
	rawA, _ := wire.PutAtt(att(3, 9, 5, check(1, 2), check(2, 3)))
	odd := func(raw []byte, tag byte) []byte {
		raw = bytes.Clone(raw)
		raw[0] = tag
		return raw
	}
	for _, x := range []struct {
		kind int
		raws [][]byte
	}{
		{api.CallBlock, [][]byte{nil, {}, {1}, rawA, rawB[:80], append(bytes.Clone(rawB), 0), odd(rawB, 2), odd(rawB, 0), odd(rawA, 1), rawA[:81], make([]byte, 81)}},
		{api.CallAtt, [][]byte{nil, {}, {2}, rawB, rawA[:122], append(bytes.Clone(rawA), 0), odd(rawA, 1), odd(rawA, 0), odd(rawB, 2), make([]byte, 123)}},
	} {
		for _, raw := range x.raws {
			for _, e := range []api.Eng{ready(), later(), full()} {
				holdErr(t, e, refused(api.Call{Kind: x.kind, Raw: raw}, api.ErrForm), api.ErrForm)
			}
			holdErr(t, api.Eng{}, refused(api.Call{Kind: x.kind, Raw: raw}, api.ErrForm), api.ErrArg)
		}
	}
	for _, kind := range []int{-1, -2, -4, least, api.CallClose, api.CallHead, api.CallAnc, api.CallDesc, api.CallFin, api.CallKinds, 10, 64, 256, 1 << 32, greatest} {
		for _, raw := range [][]byte{nil, rawA, rawB} {
			for _, e := range []api.Eng{ready(), later(), {}} {
				holdErr(t, e, refused(api.Call{Kind: kind, Raw: raw, A: name(1)}, api.ErrArg), api.ErrArg)
			}
		}
	}
}

// P17.2 to P17.4: with an error of each call what is answered is the engine that came in.
func TestEachError(t *testing.T) {
	seen := map[string]map[api.Errno]bool{}
	note := func(a act, err api.Errno) {
		if seen[a.what] == nil {
			seen[a.what] = map[api.Errno]bool{}
		}
		seen[a.what][err] = true
	}
	for _, x := range slices.Concat(mayBe(), mayNotBe()) {
		for _, a := range acts() {
			_, err := holdAct(t, x.e, a)
			note(a, err)
		}
	}
	for _, what := range []string{"Block", "Att", "Tick", "Prune", "Do of Block", "Do of Att", "Do of Tick", "Do of Prune"} {
		if !seen[what][api.OK] || !seen[what][api.ErrArg] {
			t.Errorf("of %s there was %v", what, seen[what])
		}
	}
}

// picker picks a number from 0 to below n, by chance or by bytes.
type picker func(n int) int

// anyNode is the root of one of a tree, or, at times, of none.
func anyNode(pick picker, t api.Tree) api.Root {
	if pick(12) == 0 {
		return name(pick(16))
	}
	return t.N[pick(len(t.N))].Root
}

func anyBlock(pick picker, e api.Eng) api.Block {
	b := api.Block{Root: name(1 + pick(15)), Parent: anyNode(pick, e.T), Slot: uint64(pick(40)), Just: uint64(pick(4))}
	if at := place(e.T, b.Parent); at >= 0 && pick(4) > 0 {
		b.Slot = e.T.N[at].Slot + uint64(pick(3))
	}
	return b
}

// under is a root that another one is above, or any.
func under(pick picker, t api.Tree, up api.Root) api.Root {
	var l []api.Root
	for _, n := range t.N {
		if above(t, up, n.Root) {
			l = append(l, n.Root)
		}
	}
	if len(l) == 0 || pick(16) == 0 {
		return anyNode(pick, t)
	}
	return l[pick(len(l))]
}

func anyAtt(pick picker, e api.Eng) api.Att {
	a := api.Att{Val: pick(len(e.Bal)), Slot: e.Now - 1 + uint64(pick(4))}
	if pick(20) == 0 {
		a.Val, a.Slot = pick(10)-1, uint64(pick(3))+top-1
	}
	switch {
	case len(e.K) > 0 && pick(3) > 0:
		k := e.K[pick(len(e.K))]
		a.Source, a.Target = k.S, k.T
	case pick(2) == 0:
		a.Source = e.J[pick(len(e.J))]
		a.Target = api.Check{Epoch: a.Source.Epoch + 1 + uint64(pick(6)/5), Root: under(pick, e.T, a.Source.Root)}
	default:
		a.Source = api.Check{Epoch: uint64(pick(4)), Root: anyNode(pick, e.T)}
		a.Target = api.Check{Epoch: uint64(pick(6)), Root: under(pick, e.T, a.Source.Root)}
	}
	a.Head = under(pick, e.T, a.Target.Root)
	return a
}

func anyAct(pick picker, e api.Eng) act {
	direct := pick(2) == 0
	switch kind := pick(20); {
	case kind < 5:
		b := anyBlock(pick, e)
		if direct {
			return putting(b)
		}
		return callBlock(b)
	case kind < 14:
		a := anyAtt(pick, e)
		if direct {
			return attesting(a)
		}
		return callAtt(a)
	case kind < 18:
		if direct {
			return ticking()
		}
		return callTick()
	case kind < 19:
		if direct {
			return pruning()
		}
		return callPrune()
	}
	c := api.Call{Kind: pick(2), Raw: make([]byte, pick(2))}
	if direct {
		return refused(c, api.ErrForm)
	}
	c.Kind += []int{-2, 4, 6, 8}[pick(4)]
	return refused(c, api.ErrArg)
}

// oddly changes one part, so that the engine may not be, or is another one.
func oddly(pick picker, e api.Eng) api.Eng {
	return changed(e, func(e *api.Eng) {
		switch pick(13) {
		case 0:
			e.W[pick(len(e.W))] += uint64(pick(3)) - 1
		case 1:
			e.V.L[pick(len(e.V.L))] = on(1+pick(14), uint64(pick(4)))
			e.W = plainWeights(e.T, e.V, e.Bal)
		case 2:
			e.V.Out ^= 1 << pick(9)
		case 3:
			e.J = append(e.J, check(uint64(pick(6)), 1+pick(14)))
		case 4:
			e.J = slices.Delete(e.J, 0, pick(len(e.J)+1))
		case 5:
			e.Fin = e.J[pick(len(e.J))]
		case 6:
			e.Fin = check(uint64(pick(4)), 1+pick(14))
		case 7:
			e.K = append(e.K, by(uint64(pick(257)), check(uint64(pick(4)), 1+pick(14)), check(uint64(pick(6)), 1+pick(14))))
		case 8:
			e.K = slices.Delete(e.K, 0, pick(len(e.K)+1))
		case 9:
			e.Now += uint64(pick(4)) - 1
		case 10:
			e.Late = append(e.Late, att(pick(9), e.Now-1+uint64(pick(3)), 1+pick(14), check(0, 1), check(1, 1+pick(14))))
		case 11:
			e.Bal[pick(len(e.Bal))] = uint64(pick(3))
			e.W = plainWeights(e.T, e.V, e.Bal)
		case 12:
			e.T.N[pick(len(e.T.N))].Root = name(1 + pick(14))
		}
	})
}

// holdFollows holds P17.5 of what an act led to.
func holdFollows(t *testing.T, before, after api.Eng) {
	t.Helper()
	if !plainMay(after) {
		t.Fatalf("%v became %v, which may not be", before, after)
	}
	if after.Fin != before.Fin && (after.Fin.Epoch <= before.Fin.Epoch || !above(before.T, before.Fin.Root, after.Fin.Root)) {
		t.Fatalf("%v was final, and %v is", before.Fin, after.Fin)
	}
	pruned := done(t, after, pruning())
	if pruned.Fin != after.Fin || pruned.Now != after.Now || pruned.V.Out != after.V.Out {
		t.Fatalf("%v is pruned to %v", after, pruned)
	}
	for i, a := range pruned.T.N {
		at := place(after.T, a.Root)
		if pruned.W[i] != after.W[at] || a.Slot != after.T.N[at].Slot || a.Just != after.T.N[at].Just {
			t.Fatalf("%v is pruned to %v", after, pruned)
		}
		for _, b := range pruned.T.N {
			if above(pruned.T, a.Root, b.Root) != above(after.T, a.Root, b.Root) {
				t.Fatalf("%v is pruned to %v", after, pruned)
			}
		}
	}
	if pruned.T.N[0].Root != after.Fin.Root {
		t.Fatalf("%v is pruned to %v", after, pruned)
	}
}

// walk has so many acts done, one after the other, and tells what was to be seen.
func walk(t *testing.T, pick picker, steps int, see func(a act, e api.Eng, err api.Errno)) {
	t.Helper()
	var bal []uint64
	for range 1 + pick(5) {
		bal = append(bal, uint64(1+pick(3)))
	}
	e, _ := New(name(1), bal)
	for range steps {
		a := anyAct(pick, e)
		after, err := holdAct(t, e, a)
		if pick(8) == 0 {
			odd := oddly(pick, e)
			holdMay(t, "an odd one", odd, plainMay(odd))
			holdAct(t, odd, a)
		}
		see(a, after, err)
		if err == api.OK {
			holdFollows(t, e, after)
		}
		if t.Failed() {
			return
		}
		e = after
	}
}

// P17.1 to P17.5: many acts by chance, by the plain ways.
func TestWalk(t *testing.T) {
	chance := rand.New(rand.NewSource(17))
	seen := map[api.Errno]int{}
	var finals, late, nodes, links, outs int
	for range 150 {
		final := api.Check{Root: name(1)}
		here := 0
		walk(t, chance.Intn, 150, func(a act, e api.Eng, err api.Errno) {
			seen[err]++
			late, nodes, links = max(late, len(e.Late)), max(nodes, len(e.T.N)), max(links, len(e.K))
			if e.Fin != final {
				final = e.Fin
				here++
			}
			if e.V.Out > 0 {
				outs++
			}
		})
		finals = max(finals, here)
		if t.Failed() {
			return
		}
	}
	for _, err := range []api.Errno{api.OK, api.ErrArg, api.ErrForm, api.ErrFull, api.ErrKnown, api.ErrUnknown, api.ErrSlot, api.ErrFuture, api.ErrOld, api.ErrLink, api.ErrVal} {
		if seen[err] < 10 {
			t.Errorf("error %d was told %d times", err, seen[err])
		}
	}
	if finals < 3 || late < 6 || nodes < 12 || links < 16 || outs < 10 {
		t.Errorf("there were at most %d that are final, %d that wait, %d nodes, %d links, and %d times one was out", finals, late, nodes, links, outs)
	}
}

// spoil changes all that can be reached from a list.
func spoil[E any](l []E, mark E) {
	l = l[:cap(l)]
	for i := range l {
		l[i] = mark
	}
}

// around lays a list into another one, so that there is something ahead of it and behind it.
func around[E any](l []E, mark E) (whole, piece []E) {
	whole = slices.Concat([]E{mark, mark}, l, []E{mark, mark})
	return whole, whole[2 : 2+len(l)]
}

// laid is an engine whose lists are pieces of the whole one's.
func laid(e api.Eng) (whole, piece api.Eng) {
	whole, piece = e, e
	whole.T.N, piece.T.N = around(e.T.N, api.Node{Root: name(70), Parent: 5})
	whole.Bal, piece.Bal = around(e.Bal, 70)
	whole.V.L, piece.V.L = around(e.V.L, on(70, 70))
	whole.W, piece.W = around(e.W, 71)
	whole.Late, piece.Late = around(e.Late, api.Att{Val: 70})
	whole.K, piece.K = around(e.K, by(70, check(70, 70), check(71, 70)))
	whole.J, piece.J = around(e.J, check(70, 70))
	return whole, piece
}

// spoilAll spoils all lists of an engine, and what is behind them.
func spoilAll(e api.Eng) {
	spoil(append(e.T.N, api.Node{}), api.Node{Parent: 66})
	spoil(e.T.N, api.Node{Parent: 66})
	spoil(append(e.Bal, 0), 66)
	spoil(e.Bal, 66)
	spoil(append(e.V.L, api.Latest{}), on(66, 66))
	spoil(e.V.L, on(66, 66))
	spoil(append(e.W, 0), 67)
	spoil(e.W, 67)
	spoil(append(e.Late, api.Att{}), api.Att{Val: 66})
	spoil(e.Late, api.Att{Val: 66})
	spoil(append(e.K, api.Link{}), by(66, check(66, 66), check(66, 66)))
	spoil(e.K, by(66, check(66, 66), check(66, 66)))
	spoil(append(e.J, api.Check{}), check(66, 66))
	spoil(e.J, check(66, 66))
}

// holdOwn wants that what is handed in, around it too, and what is answered change nothing of each other.
func holdOwn(t *testing.T, e api.Eng, a act) {
	t.Helper()
	want, wantErr := a.plain(e)
	whole, piece := laid(e)
	was := clone(whole)
	got, err := a.do(piece)
	if !isSame(got, want) || err != wantErr || !isSame(whole, was) {
		t.Fatalf("%s of %v = %v, %v; handed in was then %v", a.what, e, got, err, whole)
	}
	other, _ := a.do(piece)
	spoilAll(got)
	if !isSame(whole, was) || !isSame(other, want) {
		t.Fatalf("%s of %v: with what was answered %v is changed, or %v", a.what, e, whole, other)
	}
	spoilAll(whole)
	if !isSame(other, want) {
		t.Fatalf("%s of %v: with what was handed in %v is changed to %v", a.what, e, want, other)
	}
	// The two lists of one kind are two.
	_, piece = laid(e)
	got, _ = a.do(piece)
	spoil(append(got.W, 0), 5)
	spoil(got.W, 5)
	if !slices.Equal(got.Bal, want.Bal) {
		t.Fatalf("%s of %v: balances are changed with weights", a.what, e)
	}
}

// R3, with P17.2 to P17.4: what is handed in stays as it was, and what is answered is the caller's own, also with an error.
func TestOwn(t *testing.T) {
	for _, x := range slices.Concat(mayBe(), mayNotBe(), []told{{"mixed", mixed()}}) {
		for _, a := range acts() {
			holdOwn(t, x.e, a)
		}
		whole, piece := laid(x.e)
		was := clone(whole)
		if May(piece) != plainMay(x.e) || !Same(piece, x.e) || !Same(x.e, piece) || !isSame(whole, was) {
			t.Errorf("May, or Same, of %v changed it", x.e)
		}
	}
}

// R3: lists that have room for more, also such as have no element.
func TestRoomForMore(t *testing.T) {
	room := func(e api.Eng) api.Eng {
		e.T.N = append(make([]api.Node, 0, 40), e.T.N...)
		e.Bal = append(make([]uint64, 0, 40), e.Bal...)
		e.V.L = append(make([]api.Latest, 0, 40), e.V.L...)
		e.W = append(make([]uint64, 0, 40), e.W...)
		e.Late = append(make([]api.Att, 0, 40), e.Late...)
		e.K = append(make([]api.Link, 0, 40), e.K...)
		e.J = append(make([]api.Check, 0, 40), e.J...)
		return e
	}
	for _, e := range []api.Eng{ready(), blank(), later(), mixed(), {}} {
		for _, a := range acts() {
			in := room(e)
			one, err := a.do(in)
			want := clone(one)
			two, _ := a.do(in)
			spoilAll(one)
			spoilAll(in)
			if !isSame(two, want) {
				t.Fatalf("%s of %v = %v, %v; it is %v", a.what, e, want, err, two)
			}
		}
	}
}

// R3: New's balances are its own.
func TestNewOwns(t *testing.T) {
	bal := append(make([]uint64, 0, 40), 1, 2, 3)
	e, _ := New(name(1), bal)
	two, _ := New(name(1), bal)
	want := clone(two)
	spoil(bal, 9)
	if !isSame(e, want) {
		t.Errorf("%v is changed with its balances", e)
	}
	bal = []uint64{1, 2, 3}
	f, _ := New(name(1), bal)
	spoilAll(e)
	spoilAll(f)
	if !slices.Equal(bal, []uint64{1, 2, 3}) || !isSame(two, want) {
		t.Error("balances, or another engine, are changed with an engine")
	}
	// W and Bal are two.
	one, _ := New(name(1), []uint64{0})
	one.W[0] = 5
	if one.Bal[0] != 0 {
		t.Error("balances are changed with weights")
	}
}

// R5: each call answers the same again, whatever was asked between.
func TestAgain(t *testing.T) {
	for range 20 {
		for _, e := range []api.Eng{ready(), later(), full(), mixed(), {}} {
			for _, a := range acts() {
				holdAct(t, e, a)
			}
			holdMay(t, "again", e, len(e.Bal) > 0)
		}
	}
}

// P1: very many of each.
func TestVeryMany(t *testing.T) {
	const n = 300000
	many := changed(ready(), func(e *api.Eng) {
		for i := range n {
			e.J = append(e.J, check(uint64(2+i), 1+i%5))
		}
	})
	if !May(many) || !Same(many, clone(many)) {
		t.Error("many that are justified may not be")
	}
	for _, a := range []act{putting(block(6, 5, 10)), attesting(wrong(func(*api.Att) {})), ticking(), callTick()} {
		got, err := a.do(many)
		if err != api.OK || !slices.Equal(got.J[:n+2], many.J) {
			t.Errorf("%s of very many: %v", a.what, err)
		}
	}
	high := changed(many, func(e *api.Eng) { e.Fin = check(n+1, 5) })
	if got, err := Prune(high); err != api.OK || len(got.J) != 1 || len(got.T.N) != 1 {
		t.Errorf("Prune of very many: %v", err)
	}
	for _, change := range []func(*api.Eng){
		func(e *api.Eng) { e.J = append(many.J, many.J[n]) },
		func(e *api.Eng) { e.J = append(many.J, check(7, 9)) },
		func(e *api.Eng) { e.T.N = slices.Repeat(e.T.N, n/5) },
		func(e *api.Eng) { e.T = lineOf(n); e.W = make([]uint64, n); e.J = many.J },
		func(e *api.Eng) { e.Bal = slices.Repeat(e.Bal, n/4) },
		func(e *api.Eng) { e.V.L = slices.Repeat(e.V.L, n/4) },
		func(e *api.Eng) { e.V.L, e.Bal = slices.Repeat(e.V.L, n/4), slices.Repeat(e.Bal, n/4) },
		func(e *api.Eng) { e.W = slices.Repeat(e.W, n/5) },
		func(e *api.Eng) { e.Late = slices.Repeat(e.Late, n) },
		func(e *api.Eng) { e.K = slices.Repeat(e.K, n); e.J = many.J },
	} {
		e := changed(ready(), change)
		if May(e) {
			t.Error("it may be")
		}
		for _, a := range []act{putting(block(6, 5, 10)), attesting(api.Att{}), ticking(), callPrune()} {
			if got, err := a.do(e); err != api.ErrArg || !isSame(got, e) {
				t.Errorf("%s of very many: %v", a.what, err)
			}
		}
	}
	if _, is := New(name(1), make([]uint64, n)); is {
		t.Error("New of very many")
	}
	long := refused(api.Call{Kind: api.CallBlock, Raw: make([]byte, n)}, api.ErrForm)
	holdErr(t, ready(), long, api.ErrForm)
}

// lineOf is so many nodes, each behind the one before, of roots that are not the same.
func lineOf(n int) api.Tree {
	var t api.Tree
	for i := range n {
		t.N = append(t.N, api.Node{Root: api.Root{byte(i), byte(i >> 8), byte(i >> 16)}, Parent: i - 1, Slot: uint64(i)})
	}
	return t
}

// P1, P17.1 to P17.5: whatever is done, one after the other, and whatever is changed between.
func FuzzEngine(f *testing.F) {
	f.Add([]byte{4, 0, 1, 2, 3})
	f.Add(bytes.Repeat([]byte{3, 0, 14, 1, 5, 2, 7, 200, 31}, 60))
	for seed := range 4 {
		chance := rand.New(rand.NewSource(int64(seed)))
		in := make([]byte, 600)
		chance.Read(in)
		f.Add(in)
	}
	f.Fuzz(func(t *testing.T, in []byte) {
		pick := func(n int) int {
			if len(in) == 0 {
				return 0
			}
			b := in[0]
			in = in[1:]
			return int(b) % n
		}
		steps := min(len(in)/8, 100)
		walk(t, pick, steps, func(act, api.Eng, api.Errno) {})
	})
}
