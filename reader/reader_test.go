package reader

import (
	"bytes"
	"math"
	"math/rand"
	"slices"
	"testing"

	"areopagus/api"
	"areopagus/snap"
	"areopagus/tree"
)

const (
	least    = math.MinInt
	greatest = math.MaxInt
	top      = uint64(1) << 40
	last     = uint64(math.MaxUint64)
)

// name hangs on its number at both ends, so that half of a root is not taken for it.
func name(n int) api.Root { return api.Root{byte(n), 15: byte(n), 31: byte(n)} }

func check(epoch uint64, n int) api.Check { return api.Check{Epoch: epoch, Root: name(n)} }

// bush is 1; 2 and 3 behind it; 4 and 5 behind 2, 6 behind 3; 7 and 8 behind 4. Each one's place is one less than its number.
func bush() api.Tree {
	return api.Tree{N: []api.Node{
		{Root: name(1), Parent: -1, Slot: 3, Just: 0},
		{Root: name(2), Parent: 0, Slot: 5, Just: 0},
		{Root: name(3), Parent: 0, Slot: 4, Just: 0},
		{Root: name(4), Parent: 1, Slot: 9, Just: 1},
		{Root: name(5), Parent: 1, Slot: 8, Just: 1},
		{Root: name(6), Parent: 2, Slot: 20, Just: 0},
		{Root: name(7), Parent: 3, Slot: 12, Just: 2},
		{Root: name(8), Parent: 3, Slot: 13, Just: 1},
	}}
}

// shot is one of that tree, in which 2 is justified, and 1 final.
func shot() api.Snap {
	return api.Snap{Ver: 4, T: bush(), Head: name(8), Just: check(1, 2), Fin: check(0, 1)}
}

// rooted is one of a tree whose first node is all of it.
func rooted(t api.Tree) api.Snap {
	first := t.N[0].Root
	return api.Snap{T: t, Head: first, Just: api.Check{Root: first}, Fin: api.Check{Root: first}}
}

// line is a tree of so many in a line, of slots 2, 4, 6 and so on.
func line(n int) api.Tree {
	var t api.Tree
	for i := range n {
		t.N = append(t.N, api.Node{Root: name(i + 1), Parent: i - 1, Slot: uint64(2 * (i + 1))})
	}
	return t
}

// seen is a snapshot, and what is to be seen by it.
type seen struct {
	what string
	s    api.Snap
}

func cloneSnap(s api.Snap) api.Snap {
	s.T.N = slices.Clone(s.T.N)
	return s
}

func changedSnap(s api.Snap, change func(*api.Snap)) api.Snap {
	s = cloneSnap(s)
	change(&s)
	return s
}

func but(what string, change func(*api.Snap)) seen { return seen{what, changedSnap(shot(), change)} }

func cloneReader(r api.Reader) api.Reader {
	r.C.Raw = slices.Clone(r.C.Raw)
	return r
}

func changed(r api.Reader, change func(*api.Reader)) api.Reader {
	r = cloneReader(r)
	change(&r)
	return r
}

// isSame, of readers, and isSameSnap are the tests' own.
func isSame(a, b api.Reader) bool {
	return isSameCall(a.C, b.C) && a.Pc == b.Pc && a.At == b.At && a.Done == b.Done && a.R == b.R
}

func isSameCall(a, b api.Call) bool {
	return a.Kind == b.Kind && bytes.Equal(a.Raw, b.Raw) && a.A == b.A && a.B == b.B && a.Slot == b.Slot
}

func isSameSnap(a, b api.Snap) bool {
	return a.Ver == b.Ver && slices.Equal(a.T.N, b.T.N) && a.Head == b.Head && a.Just == b.Just && a.Fin == b.Fin
}

// The plain ways are the tests' own, by the words; of what is below they ask for what may be alone.

func place(t api.Tree, r api.Root) int {
	return slices.IndexFunc(t.N, func(n api.Node) bool { return n.Root == r })
}

// up is a place, and all above it, in a tree that may be.
func up(t api.Tree, at int) []int {
	var out []int
	for ; at >= 0; at = t.N[at].Parent {
		out = append(out, at)
	}
	return out
}

func plainMay(s api.Snap) bool {
	if !tree.May(s.T) {
		return false
	}
	fin := place(s.T, s.Fin.Root)
	isBehind := func(r api.Root) bool { return slices.Contains(up(s.T, place(s.T, r)), fin) }
	return fin >= 0 && isBehind(s.Head) && isBehind(s.Just.Root)
}

// plainStep is one chain of what is asked, in the words' order.
func plainStep(s api.Snap, r api.Reader) api.Reader {
	const head, anc, desc, fin = 5, 6, 7, 8
	may, isAnc, isDesc := plainMay(s), r.C.Kind == anc, r.C.Kind == desc
	ends := func(out api.Resp) api.Reader {
		return api.Reader{C: r.C, Pc: r.Pc, At: r.At, Done: true, R: out}
	}
	goes := func(pc, at int) api.Reader { return api.Reader{C: r.C, Pc: pc, At: at, R: r.R} }
	if r.Done {
		return r
	}
	if r.Pc == 0 {
		switch {
		case !may:
			return ends(api.Resp{E: api.ErrArg})
		case r.C.Kind == head:
			return ends(api.Resp{R: s.Head})
		case r.C.Kind == fin:
			return ends(api.Resp{C: s.Fin})
		case !isAnc && !isDesc:
			return ends(api.Resp{E: api.ErrArg})
		case place(s.T, r.C.A) < 0 || isDesc && place(s.T, r.C.B) < 0:
			return ends(api.Resp{E: api.ErrUnknown})
		case isAnc:
			return goes(1, place(s.T, r.C.A))
		}
		return goes(1, place(s.T, r.C.B))
	}
	if !may || r.At < 0 || r.At >= len(s.T.N) || !isAnc && !isDesc {
		return ends(api.Resp{E: api.ErrArg})
	}
	switch n := s.T.N[r.At]; {
	case isAnc && n.Slot <= r.C.Slot:
		return ends(api.Resp{R: n.Root})
	case isAnc && n.Parent == -1:
		return ends(api.Resp{E: api.ErrOld})
	case isDesc && n.Root == r.C.A:
		return ends(api.Resp{Is: true})
	case n.Parent == -1:
		return ends(api.Resp{})
	default:
		return goes(r.Pc, n.Parent)
	}
}

// plainRun counts nodes, it goes no steps.
func plainRun(s api.Snap, c api.Call) (api.Resp, int) {
	from := c.A
	if c.Kind == 7 {
		from = c.B
	}
	at := place(s.T, from)
	switch {
	case !plainMay(s) || c.Kind < 5 || c.Kind > 8:
		return api.Resp{E: api.ErrArg}, 1
	case c.Kind == 5:
		return api.Resp{R: s.Head}, 1
	case c.Kind == 8:
		return api.Resp{C: s.Fin}, 1
	case at < 0 || c.Kind == 7 && place(s.T, c.A) < 0:
		return api.Resp{E: api.ErrUnknown}, 1
	}
	all := up(s.T, at)
	for i, k := range all {
		if c.Kind == 6 && s.T.N[k].Slot <= c.Slot {
			return api.Resp{R: s.T.N[k].Root}, 2 + i
		}
		if c.Kind == 7 && s.T.N[k].Root == c.A {
			return api.Resp{Is: true}, 2 + i
		}
	}
	if c.Kind == 6 {
		return api.Resp{E: api.ErrOld}, 1 + len(all)
	}
	return api.Resp{}, 1 + len(all)
}

// holdStep wants what a step comes to, and that all that is handed in stays as it was.
func holdStep(t *testing.T, what string, s api.Snap, r, want api.Reader) {
	t.Helper()
	was, began := cloneSnap(s), cloneReader(r)
	got := Step(s, r)
	if plain := plainStep(was, began); !isSame(got, want) || !isSame(plain, want) {
		t.Errorf("%s: Step(%v, %v)\n= %v, the plain way %v,\nwant %v", what, was, began, got, plain, want)
	}
	if !isSameSnap(s, was) || !isSame(r, began) {
		t.Errorf("%s: Step changed %v to %v, or %v to %v", what, was, s, began, r)
	}
}

// ends is the reader done, with that as what comes back.
func ends(r api.Reader, out api.Resp) api.Reader {
	return changed(r, func(r *api.Reader) { r.Done, r.R = true, out })
}

// goes is the reader at that place.
func goes(r api.Reader, pc, at int) api.Reader {
	return changed(r, func(r *api.Reader) { r.Pc, r.At = pc, at })
}

// told are things that may come back; a reader that goes on keeps them, one that ends has none of them.
func told() []api.Resp {
	return []api.Resp{{}, {E: api.ErrFull}, {R: name(5)}, {Is: true}, {C: check(3, 4)}, {E: api.ErrOld, R: name(9), Is: true, C: check(last, 6)}}
}

// holdEnds wants that a reader at that step, and that place, is done with that, whatever it was told.
func holdEnds(t *testing.T, what string, s api.Snap, c api.Call, pc, at int, want api.Resp) {
	t.Helper()
	for _, out := range told() {
		r := api.Reader{C: c, Pc: pc, At: at, R: out}
		holdStep(t, what, s, r, ends(r, want))
	}
}

// holdGoes wants that it goes on, to that place.
func holdGoes(t *testing.T, what string, s api.Snap, c api.Call, pc, at, next, to int) {
	t.Helper()
	for _, out := range told() {
		r := api.Reader{C: c, Pc: pc, At: at, R: out}
		holdStep(t, what, s, r, goes(r, next, to))
	}
}

// holdRun wants what comes back, and in how many steps; it is what is answered at once.
func holdRun(t *testing.T, s api.Snap, c api.Call, want api.Resp, steps int) {
	t.Helper()
	was, raw := cloneSnap(s), slices.Clone(c.Raw)
	got, n := Run(s, c)
	if plain, k := plainRun(s, c); got != want || n != steps || plain != want || k != steps {
		t.Errorf("Run(%v, %v) = %v, %d, the plain way %v, %d, want %v, %d", s, c, got, n, plain, k, want, steps)
	}
	if got != snap.Ask(s, c) || n > api.MaxSteps {
		t.Errorf("Run(%v, %v) = %v, %d, but Ask tells %v", s, c, got, n, snap.Ask(s, c))
	}
	if !isSameSnap(s, was) || !bytes.Equal(c.Raw, raw) {
		t.Errorf("Run changed %v to %v, or %v to %v", was, s, raw, c.Raw)
	}
}

// snapsThatMay are by whatever they are not asked for.
func snapsThatMay() []seen {
	return []seen{
		{"of a bush", shot()}, {"of one", rooted(line(1))}, {"of a line", rooted(line(api.MaxNodes))},
		but("a version below 0", func(s *api.Snap) { s.Ver = -1 }),
		but("the greatest epochs", func(s *api.Snap) { s.Just.Epoch, s.Fin.Epoch = last, last }),
		but("all one", func(s *api.Snap) { s.Head, s.Just, s.Fin = name(7), check(2, 7), check(2, 7) }),
		but("Head is beside Just", func(s *api.Snap) { s.Head, s.Just = name(6), check(1, 8) }),
		but("the zero root", func(s *api.Snap) { s.T.N[7].Root, s.Head = api.Root{}, api.Root{} }),
	}
}

// snapsThatMayNot are such for one thing alone.
func snapsThatMayNot() []seen {
	return []seen{
		{"a zero one", api.Snap{}},
		but("no nodes", func(s *api.Snap) { s.T = api.Tree{N: []api.Node{}} }),
		but("thirteen nodes", func(s *api.Snap) { s.T = line(13) }),
		but("two nodes of one root", func(s *api.Snap) { s.T.N[2].Root = name(4) }),
		but("a slot above 2^40", func(s *api.Snap) { s.T.N[7].Slot = top + 1 }),
		but("a slot that is its parent's", func(s *api.Snap) { s.T.N[7].Slot = 9 }),
		but("two without a parent", func(s *api.Snap) { s.T.N[2].Parent = -1 }),
		but("a parent that is no place", func(s *api.Snap) { s.T.N[2].Parent = -2 }),
		but("a parent that comes later", func(s *api.Snap) { s.T.N[5].Parent = 7 }),
		but("a parent that is itself", func(s *api.Snap) { s.T.N[5].Parent = 5 }),
		but("a parent of the first one", func(s *api.Snap) { s.T.N[0].Parent = 0 }),
		but("Head is not there", func(s *api.Snap) { s.Head = name(9) }),
		but("Just's Root is not there", func(s *api.Snap) { s.Just.Root = name(9) }),
		but("Fin's Root is not there", func(s *api.Snap) { s.Fin.Root = name(9) }),
		but("none of them is there", func(s *api.Snap) { s.Head, s.Just.Root, s.Fin.Root = name(9), name(9), name(9) }),
		but("Fin is beside Head", func(s *api.Snap) { s.Head, s.Just, s.Fin = name(6), check(1, 4), check(0, 2) }),
		but("Fin is below Head", func(s *api.Snap) { s.Head, s.Just, s.Fin = name(2), check(1, 8), check(0, 4) }),
		but("Fin is beside Just", func(s *api.Snap) { s.Just, s.Fin = check(1, 5), check(0, 4) }),
		but("Fin is below Just", func(s *api.Snap) { s.Just, s.Fin = check(1, 2), check(0, 4) }),
	}
}

func allSnaps() []seen { return slices.Concat(snapsThatMay(), snapsThatMayNot()) }

// otherKinds are all by which no node is gone to; of these snap answers two.
func otherKinds() []int { return append([]int{api.CallHead, api.CallFin}, kindsOfNone()...) }

func kindsOfNone() []int {
	return []int{
		api.CallBlock, api.CallAtt, api.CallTick, api.CallPrune, api.CallClose, api.CallKinds,
		least, least + 6, -8, -7, -6, -5, -2, -1, 10, 13, 64 + 6, 64 + 7, 256 + 5, 256 + 6, 256 + 7, 1<<32 + 6, 1<<32 + 7, greatest - 1, greatest,
	}
}

func allKinds() []int { return append([]int{api.CallAnc, api.CallDesc}, otherKinds()...) }

// callsOf are of that kind, with whatever else is told.
func callsOf(kind int) []api.Call {
	return []api.Call{
		{Kind: kind},
		{Kind: kind, Raw: []byte{}, A: name(1), B: name(1), Slot: 1},
		{Kind: kind, Raw: []byte{1, 2, 3}, A: name(2), B: name(7), Slot: 9},
		{Kind: kind, A: name(7), B: name(2), Slot: 4},
		{Kind: kind, Raw: bytes.Repeat([]byte{200}, 300), A: name(9), B: name(2), Slot: last},
		{Kind: kind, A: name(2), B: name(9), Slot: top},
	}
}

func allCalls() []api.Call {
	var out []api.Call
	for _, kind := range allKinds() {
		out = append(out, callsOf(kind)...)
	}
	return out
}

func ancOf(n int, slot uint64) api.Call { return api.Call{Kind: api.CallAnc, A: name(n), Slot: slot} }

func descOf(a, b int) api.Call { return api.Call{Kind: api.CallDesc, A: name(a), B: name(b)} }

// laterPcs are all but the first one.
func laterPcs() []int { return []int{1, 2, 3, 14, 255, 256, 1 << 32, greatest, -1, -2, least} }

// The chapter's example: the head takes one step.
func TestExample(t *testing.T) {
	for _, s := range []api.Snap{shot(), rooted(line(1)), rooted(line(12))} {
		c := api.Call{Kind: api.CallHead}
		holdRun(t, s, c, api.Resp{R: s.Head}, 1)
		r := Start(c)
		holdStep(t, "the head", s, r, api.Reader{C: c, At: -1, Done: true, R: api.Resp{R: s.Head}})
	}
}

// P19.1: what begins, of any call.
func TestStart(t *testing.T) {
	for _, c := range allCalls() {
		raw := slices.Clone(c.Raw)
		if got, want := Start(c), (api.Reader{C: c, Pc: 0, At: -1}); !isSame(got, want) {
			t.Errorf("Start(%v) = %v, want %v", c, got, want)
		}
		if !bytes.Equal(c.Raw, raw) {
			t.Errorf("Start changed %v to %v", raw, c.Raw)
		}
	}
	zero := Start(api.Call{})
	if !isSame(zero, api.Reader{At: -1}) || zero.R != (api.Resp{}) {
		t.Errorf("Start of nothing = %v", zero)
	}
}

// P19.1: one that is done stays as it was, whatever the snapshot.
func TestStepOfDone(t *testing.T) {
	for _, x := range allSnaps() {
		for _, c := range allCalls() {
			for _, pc := range []int{0, 1, 2, -1, greatest} {
				for _, at := range []int{-1, 0, 6, 8, least} {
					r := api.Reader{C: c, Pc: pc, At: at, Done: true, R: told()[(pc&3+at&7)%6]}
					if got := Step(x.s, r); !isSame(got, r) {
						t.Fatalf("%s: Step of one that is done, %v, = %v", x.what, r, got)
					}
				}
			}
		}
	}
	for _, out := range told() {
		r := api.Reader{C: ancOf(7, 4), Pc: 1, At: 3, Done: true, R: out}
		holdStep(t, "done", shot(), r, r)
		holdStep(t, "done", api.Snap{}, r, r)
	}
}

// P19.1: the first step, of a snapshot that may not be: ErrArg, of each kind.
func TestFirstStepOfSnapThatMayNotBe(t *testing.T) {
	for _, x := range snapsThatMayNot() {
		for _, c := range allCalls() {
			holdEnds(t, x.what, x.s, c, 0, -1, api.Resp{E: api.ErrArg})
			holdEnds(t, x.what, x.s, c, 0, 3, api.Resp{E: api.ErrArg})
		}
	}
}

// P19.1: the first step of what is answered at once.
func TestFirstStepAtOnce(t *testing.T) {
	for _, x := range snapsThatMay() {
		for _, at := range []int{-1, 0, 3, 8, least, greatest} {
			for _, c := range callsOf(api.CallHead) {
				holdEnds(t, x.what, x.s, c, 0, at, api.Resp{R: x.s.Head})
			}
			for _, c := range callsOf(api.CallFin) {
				holdEnds(t, x.what, x.s, c, 0, at, api.Resp{C: x.s.Fin})
			}
			for _, kind := range kindsOfNone() {
				for _, c := range callsOf(kind) {
					holdEnds(t, x.what, x.s, c, 0, at, api.Resp{E: api.ErrArg})
				}
			}
		}
	}
}

// P19.1: the first step of who asks for an ancestor: to A, wherever it was, by whatever slot.
func TestFirstStepOfAnc(t *testing.T) {
	s := shot()
	for _, at := range []int{-1, 0, 3, 7, 8, least, greatest} {
		for _, slot := range []uint64{0, 2, 3, 9, top, last} {
			// The first block, those between, and the leaves.
			for n := 1; n <= 8; n++ {
				holdGoes(t, "A is there", s, ancOf(n, slot), 0, at, 1, n-1)
			}
			for _, odd := range []api.Root{{}, name(9), {7}, {31: 7}, {7, 15: 7, 31: 8}} {
				for _, b := range []api.Root{{}, name(2), odd} {
					holdEnds(t, "A is not there", s, api.Call{Kind: api.CallAnc, A: odd, B: b, Slot: slot}, 0, at, api.Resp{E: api.ErrUnknown})
				}
			}
		}
	}
	// B is not asked for.
	for _, b := range []int{1, 7, 9} {
		holdGoes(t, "of any B", s, api.Call{Kind: api.CallAnc, Raw: []byte{3}, A: name(4), B: name(b)}, 0, -1, 1, 3)
	}
	holdGoes(t, "of one", rooted(line(1)), ancOf(1, 0), 0, -1, 1, 0)
	holdGoes(t, "of a line", rooted(line(12)), ancOf(12, 0), 0, -1, 1, 11)
	zero := changedSnap(s, func(s *api.Snap) { s.T.N[2].Root = api.Root{} })
	holdGoes(t, "the zero root", zero, api.Call{Kind: api.CallAnc}, 0, -1, 1, 2)
}

// P19.1: the first step of who asks whether one descends from another one: to B, if both are there.
func TestFirstStepOfDesc(t *testing.T) {
	s := shot()
	for _, at := range []int{-1, 0, 3, 8, least, greatest} {
		for a := range 11 {
			for b := range 11 {
				c := descOf(a, b)
				c.Slot, c.Raw = uint64(a), []byte{7}
				if 1 <= a && a <= 8 && 1 <= b && b <= 8 {
					holdGoes(t, "both are there", s, c, 0, at, 1, b-1)
				} else {
					holdEnds(t, "one is not there", s, c, 0, at, api.Resp{E: api.ErrUnknown})
				}
			}
		}
	}
	// The same one; above; below; beside; not there: A, B, both.
	holdGoes(t, "A is B", s, descOf(4, 4), 0, -1, 1, 3)
	holdGoes(t, "A is above B", s, descOf(2, 7), 0, -1, 1, 6)
	holdGoes(t, "A is below B", s, descOf(7, 2), 0, -1, 1, 1)
	holdGoes(t, "A is beside B", s, descOf(6, 7), 0, -1, 1, 6)
	holdEnds(t, "A is not there", s, descOf(9, 7), 0, -1, api.Resp{E: api.ErrUnknown})
	holdEnds(t, "B is not there", s, descOf(2, 9), 0, -1, api.Resp{E: api.ErrUnknown})
	holdEnds(t, "both are one that is not there", s, descOf(9, 9), 0, -1, api.Resp{E: api.ErrUnknown})
	for _, odd := range []api.Root{{}, {2}, {31: 2}, {2, 15: 2, 31: 3}} {
		holdEnds(t, "half of A", s, api.Call{Kind: api.CallDesc, A: odd, B: name(7)}, 0, -1, api.Resp{E: api.ErrUnknown})
		holdEnds(t, "half of B", s, api.Call{Kind: api.CallDesc, A: name(2), B: odd}, 0, -1, api.Resp{E: api.ErrUnknown})
	}
	zero := changedSnap(s, func(s *api.Snap) { s.T.N[2].Root = api.Root{} })
	holdGoes(t, "the zero root", zero, api.Call{Kind: api.CallDesc}, 0, -1, 1, 2)
	holdGoes(t, "B is the zero root", zero, api.Call{Kind: api.CallDesc, A: name(8)}, 0, -1, 1, 2)
}

// P19.1: any later step, of a snapshot that may not be: ErrArg, wherever the reader is.
func TestLaterStepOfSnapThatMayNotBe(t *testing.T) {
	for _, x := range snapsThatMayNot() {
		for _, pc := range laterPcs() {
			for at := -1; at <= 8; at++ {
				holdEnds(t, x.what, x.s, ancOf(7, 4), pc, at, api.Resp{E: api.ErrArg})
				holdEnds(t, x.what, x.s, ancOf(7, last), pc, at, api.Resp{E: api.ErrArg})
				holdEnds(t, x.what, x.s, descOf(1, 7), pc, at, api.Resp{E: api.ErrArg})
				holdEnds(t, x.what, x.s, descOf(at+1, at+1), pc, at, api.Resp{E: api.ErrArg})
				holdEnds(t, x.what, x.s, api.Call{Kind: api.CallHead}, pc, at, api.Resp{E: api.ErrArg})
			}
		}
	}
}

// P19.1: any later step, at what is no place: ErrArg.
func TestLaterStepAtNoPlace(t *testing.T) {
	for _, x := range snapsThatMay() {
		n := len(x.s.T.N)
		for _, pc := range laterPcs() {
			for _, at := range []int{-1, -2, -n, least, n, n + 1, 64, 256, 1 << 32, greatest} {
				holdEnds(t, x.what, x.s, ancOf(7, last), pc, at, api.Resp{E: api.ErrArg})
				holdEnds(t, x.what, x.s, ancOf(1, 0), pc, at, api.Resp{E: api.ErrArg})
				holdEnds(t, x.what, x.s, descOf(1, 1), pc, at, api.Resp{E: api.ErrArg})
				holdEnds(t, x.what, x.s, descOf(1, 7), pc, at, api.Resp{E: api.ErrArg})
			}
		}
	}
	// What is behind the nodes is not the tree's.
	long := shot()
	long.T.N = append(long.T.N, api.Node{Root: name(9), Parent: 0, Slot: 30})[:8]
	holdEnds(t, "a node behind the last one", long, ancOf(9, last), 1, 8, api.Resp{E: api.ErrArg})
	holdEnds(t, "a node behind the last one", long, descOf(9, 9), 1, 8, api.Resp{E: api.ErrArg})
}

// P19.1: any later step of another kind: ErrArg, also of what is answered at once.
func TestLaterStepOfOtherKinds(t *testing.T) {
	for _, x := range snapsThatMay() {
		for _, pc := range laterPcs() {
			for _, kind := range otherKinds() {
				for _, c := range callsOf(kind) {
					holdEnds(t, x.what, x.s, c, pc, 0, api.Resp{E: api.ErrArg})
				}
				holdEnds(t, x.what, x.s, api.Call{Kind: kind, A: name(1), B: name(1)}, pc, -1, api.Resp{E: api.ErrArg})
				holdEnds(t, x.what, x.s, api.Call{Kind: kind, A: name(1), B: name(1)}, pc, 4, api.Resp{E: api.ErrArg})
			}
		}
	}
}

// P19.1: any later step of who asks for an ancestor, by slots, whatever A is.
func TestLaterStepOfAnc(t *testing.T) {
	s := shot()
	for _, pc := range laterPcs() {
		for _, a := range []int{0, 1, 7, 9} {
			for i, n := range s.T.N {
				for _, slot := range []uint64{n.Slot, n.Slot + 1, top, top + 1, last} {
					holdEnds(t, "At's Slot is less, or the same", s, ancOf(a, slot), pc, i, api.Resp{R: n.Root})
				}
				for _, slot := range []uint64{n.Slot - 1, 1, 0} {
					if i == 0 {
						holdEnds(t, "At's Slot is greater, and it has no parent", s, ancOf(a, slot), pc, i, api.Resp{E: api.ErrOld})
					} else {
						holdGoes(t, "At's Slot is greater", s, ancOf(a, slot), pc, i, pc, n.Parent)
					}
				}
			}
		}
	}
	// The first block in slot 0, and the last one in the greatest one.
	far := changedSnap(s, func(s *api.Snap) { s.T.N[0].Slot, s.T.N[7].Slot = 0, top })
	holdEnds(t, "slot 0", far, ancOf(8, 0), 1, 0, api.Resp{R: name(1)})
	holdGoes(t, "just below the greatest slot", far, ancOf(8, top-1), 1, 7, 1, 3)
	holdEnds(t, "the greatest slot", far, ancOf(8, top), 1, 7, api.Resp{R: name(8)})
	zero := changedSnap(s, func(s *api.Snap) { s.T.N[2].Root = api.Root{} })
	holdEnds(t, "the zero root", zero, ancOf(6, 4), 1, 2, api.Resp{})
	// Ahead of what is final it goes on as behind it.
	beyond := changedSnap(s, func(s *api.Snap) { s.Just, s.Fin = check(2, 4), check(1, 4) })
	holdGoes(t, "at what is final", beyond, ancOf(7, 4), 1, 3, 1, 1)
	holdGoes(t, "ahead of what is final", beyond, ancOf(7, 4), 1, 1, 1, 0)
	holdGoes(t, "beside what is final", beyond, ancOf(7, 4), 1, 5, 1, 2)
}

// P19.1: any later step of who asks whether one descends from another one, whatever B is.
func TestLaterStepOfDesc(t *testing.T) {
	s := shot()
	for _, pc := range laterPcs() {
		for _, b := range []int{0, 1, 7, 9} {
			for i, n := range s.T.N {
				for a := range 11 {
					c := descOf(a, b)
					c.Slot = uint64(3 * a)
					switch {
					case a == i+1:
						holdEnds(t, "At's Root is A", s, c, pc, i, api.Resp{Is: true})
					case i == 0:
						holdEnds(t, "it has no parent", s, c, pc, i, api.Resp{})
					default:
						holdGoes(t, "At's Root is another one", s, c, pc, i, pc, n.Parent)
					}
				}
				for _, odd := range []api.Root{{}, {byte(i + 1)}, {31: byte(i + 1)}, {byte(i + 1), 15: byte(i + 1), 31: byte(i + 2)}} {
					c := api.Call{Kind: api.CallDesc, A: odd, B: name(b)}
					if i == 0 {
						holdEnds(t, "half of A", s, c, pc, i, api.Resp{})
					} else {
						holdGoes(t, "half of A", s, c, pc, i, pc, n.Parent)
					}
				}
			}
		}
	}
	zero := changedSnap(s, func(s *api.Snap) { s.T.N[2].Root = api.Root{} })
	holdEnds(t, "the zero root", zero, api.Call{Kind: api.CallDesc}, 1, 2, api.Resp{Is: true})
}

// P19.1: step by step, where it is.
func TestWay(t *testing.T) {
	s := shot()
	for _, x := range []struct {
		c   api.Call
		way []int
	}{
		{ancOf(7, 12), []int{-1, 6}},
		{ancOf(7, 11), []int{-1, 6, 3}},
		{ancOf(7, 8), []int{-1, 6, 3, 1}},
		{ancOf(7, 4), []int{-1, 6, 3, 1, 0}},
		{ancOf(7, 0), []int{-1, 6, 3, 1, 0}},
		{ancOf(6, 4), []int{-1, 5, 2}},
		{ancOf(1, 0), []int{-1, 0}},
		{ancOf(9, 0), []int{-1}},
		{descOf(7, 7), []int{-1, 6}},
		{descOf(2, 8), []int{-1, 7, 3, 1}},
		{descOf(8, 2), []int{-1, 1, 0}},
		{descOf(6, 7), []int{-1, 6, 3, 1, 0}},
		{descOf(1, 6), []int{-1, 5, 2, 0}},
		{descOf(9, 7), []int{-1}},
		{descOf(7, 9), []int{-1}},
		{api.Call{Kind: api.CallHead}, []int{-1}},
		{api.Call{Kind: api.CallFin}, []int{-1}},
		{api.Call{Kind: api.CallTick}, []int{-1}},
	} {
		var way []int
		r := Start(x.c)
		for !r.Done {
			way = append(way, r.At)
			next := Step(s, r)
			holdStep(t, "on the way", s, r, plainStep(s, r))
			r = next
		}
		if !slices.Equal(way, x.way) || r.At != way[len(way)-1] || !isSameCall(r.C, x.c) || r.Pc != min(1, len(way)-1) {
			t.Errorf("%v goes %v, want %v; at last it is %v", x.c, way, x.way, r)
		}
		holdRun(t, s, x.c, r.R, len(x.way))
	}
}

// P19.2, P19.3: of one node.
func TestRunOfOne(t *testing.T) {
	s := rooted(line(1))
	holdRun(t, s, api.Call{Kind: api.CallHead}, api.Resp{R: name(1)}, 1)
	holdRun(t, s, api.Call{Kind: api.CallFin}, api.Resp{C: check(0, 1)}, 1)
	holdRun(t, s, ancOf(1, 2), api.Resp{R: name(1)}, 2)
	holdRun(t, s, ancOf(1, last), api.Resp{R: name(1)}, 2)
	holdRun(t, s, ancOf(1, 1), api.Resp{E: api.ErrOld}, 2)
	holdRun(t, s, ancOf(2, 2), api.Resp{E: api.ErrUnknown}, 1)
	holdRun(t, s, descOf(1, 1), api.Resp{Is: true}, 2)
	holdRun(t, s, descOf(1, 2), api.Resp{E: api.ErrUnknown}, 1)
	holdRun(t, s, descOf(2, 1), api.Resp{E: api.ErrUnknown}, 1)
	holdRun(t, s, descOf(2, 2), api.Resp{E: api.ErrUnknown}, 1)
	for _, kind := range kindsOfNone() {
		holdRun(t, s, api.Call{Kind: kind, A: name(1), B: name(1)}, api.Resp{E: api.ErrArg}, 1)
	}
}

// P19.2, P19.3: of lines, up to the longest one; the most steps are one, and one for each node.
func TestRunOfLines(t *testing.T) {
	most := 0
	for n := 1; n <= api.MaxNodes; n++ {
		s := rooted(line(n))
		for k := 1; k <= n; k++ {
			for up := 1; up <= k; up++ {
				holdRun(t, s, ancOf(k, uint64(2*up)), api.Resp{R: name(up)}, 2+k-up)
				holdRun(t, s, ancOf(k, uint64(2*up+1)), api.Resp{R: name(up)}, 2+k-up)
				holdRun(t, s, descOf(up, k), api.Resp{Is: true}, 2+k-up)
			}
			for down := k + 1; down <= n; down++ {
				holdRun(t, s, descOf(down, k), api.Resp{}, 1+k)
			}
			holdRun(t, s, ancOf(k, 1), api.Resp{E: api.ErrOld}, 1+k)
			holdRun(t, s, ancOf(k, 0), api.Resp{E: api.ErrOld}, 1+k)
			holdRun(t, s, descOf(n+1, k), api.Resp{E: api.ErrUnknown}, 1)
			_, steps := Run(s, ancOf(k, 0))
			most = max(most, steps)
		}
	}
	if most != 13 {
		t.Errorf("the most steps are %d, want 13", most)
	}
}

// P19.2, P19.3: of branches.
func TestRunOfBranches(t *testing.T) {
	s := shot()
	for _, x := range []struct {
		c     api.Call
		want  api.Resp
		steps int
	}{
		{ancOf(7, 12), api.Resp{R: name(7)}, 2},
		{ancOf(7, last), api.Resp{R: name(7)}, 2},
		{ancOf(8, 12), api.Resp{R: name(4)}, 3},
		{ancOf(8, 9), api.Resp{R: name(4)}, 3},
		{ancOf(8, 8), api.Resp{R: name(2)}, 4},
		{ancOf(8, 4), api.Resp{R: name(1)}, 5},
		{ancOf(8, 2), api.Resp{E: api.ErrOld}, 5},
		{ancOf(5, 7), api.Resp{R: name(2)}, 3},
		{ancOf(6, 19), api.Resp{R: name(3)}, 3},
		{ancOf(6, 3), api.Resp{R: name(1)}, 4},
		{ancOf(6, 2), api.Resp{E: api.ErrOld}, 4},
		{ancOf(3, 3), api.Resp{R: name(1)}, 3},
		{descOf(4, 8), api.Resp{Is: true}, 3},
		{descOf(1, 8), api.Resp{Is: true}, 5},
		{descOf(3, 8), api.Resp{}, 5},
		{descOf(7, 8), api.Resp{}, 5},
		{descOf(8, 8), api.Resp{Is: true}, 2},
		{descOf(8, 4), api.Resp{}, 4},
		{descOf(8, 1), api.Resp{}, 2},
		{descOf(3, 6), api.Resp{Is: true}, 3},
		{descOf(2, 6), api.Resp{}, 4},
		{descOf(9, 8), api.Resp{E: api.ErrUnknown}, 1},
		{descOf(8, 9), api.Resp{E: api.ErrUnknown}, 1},
		{api.Call{Kind: api.CallHead, A: name(1)}, api.Resp{R: name(8)}, 1},
		{api.Call{Kind: api.CallFin, B: name(1)}, api.Resp{C: check(0, 1)}, 1},
		{api.Call{Kind: api.CallClose}, api.Resp{E: api.ErrArg}, 1},
		{api.Call{Kind: api.CallKinds}, api.Resp{E: api.ErrArg}, 1},
	} {
		holdRun(t, s, x.c, x.want, x.steps)
	}
}

// P19.2, P19.3: each call of each snapshot.
func TestRunOfEach(t *testing.T) {
	for _, x := range snapsThatMayNot() {
		for _, c := range allCalls() {
			holdRun(t, x.s, c, api.Resp{E: api.ErrArg}, 1)
		}
	}
	for _, x := range snapsThatMay() {
		for _, c := range allCalls() {
			want, steps := plainRun(x.s, c)
			holdRun(t, x.s, c, want, steps)
		}
	}
}

// P19.3: a step reads the one snapshot: readers of several, in turns, come to what each alone does.
func TestInTurns(t *testing.T) {
	snaps, calls := allSnaps(), allCalls()
	var all []api.Reader
	for range snaps {
		for _, c := range calls {
			all = append(all, Start(c))
		}
	}
	for range api.MaxSteps {
		for i, r := range all {
			all[i] = Step(snaps[i/len(calls)].s, r)
		}
	}
	for i, r := range all {
		s, c := snaps[i/len(calls)].s, calls[i%len(calls)]
		if want, _ := plainRun(s, c); !r.Done || r.R != want || !isSameCall(r.C, c) {
			t.Fatalf("%v of %v comes to %v, want %v", c, s, r, want)
		}
	}
}

// P19.1: another snapshot is read as it is, from where the reader is.
func TestOfAnotherSnap(t *testing.T) {
	r := Step(shot(), Start(ancOf(7, 4)))
	holdStep(t, "a line", rooted(line(12)), r, goes(r, 1, 5))
	holdStep(t, "one that is too small", rooted(line(6)), r, ends(r, api.Resp{E: api.ErrArg}))
	holdStep(t, "one that may not be", api.Snap{}, r, ends(r, api.Resp{E: api.ErrArg}))
	r = Step(shot(), Start(descOf(2, 7)))
	holdStep(t, "a line", rooted(line(7)), r, goes(r, 1, 5))
	renamed := changedSnap(shot(), func(s *api.Snap) { s.T.N[6].Root, s.T.N[1].Root, s.Just.Root = name(2), name(7), name(1) })
	holdStep(t, "where A is another one", renamed, r, ends(r, api.Resp{Is: true}))
}

// shapes are all trees of so many nodes, by their parents.
func shapes(n int) [][]int {
	lists := [][]int{{-1}}
	for i := 1; i < n; i++ {
		var next [][]int
		for _, l := range lists {
			for p := range i {
				next = append(next, slices.Concat(l, []int{p}))
			}
		}
		lists = next
	}
	return lists
}

// P19.1 to P19.3: all that can be asked of all trees of up to five nodes, at each step, and each place.
func TestAllSmall(t *testing.T) {
	for n := 1; n <= 5; n++ {
		for _, parents := range shapes(n) {
			s := rooted(line(n))
			for i, p := range parents {
				s.T.N[i].Parent = p
			}
			var calls []api.Call
			for a := range n + 2 {
				for b := range n + 2 {
					calls = append(calls, descOf(a, b))
				}
				for slot := range uint64(2*n + 3) {
					calls = append(calls, ancOf(a, slot))
				}
			}
			for _, c := range calls {
				want, steps := plainRun(s, c)
				holdRun(t, s, c, want, steps)
				for at := -1; at <= n; at++ {
					for pc := range 2 {
						r := api.Reader{C: c, Pc: pc, At: at}
						holdStep(t, "small", s, r, plainStep(s, r))
					}
				}
			}
		}
	}
}

// picker picks a number from 0 to below n, by chance or by bytes.
type picker func(n int) int

// anySnap is one that may be, of names in any order.
func anySnap(pick picker) api.Snap {
	n := 1 + pick(12)
	s := api.Snap{Ver: pick(9) - 4}
	for i := range n {
		x := api.Node{Root: name(i + 1), Parent: -1, Slot: uint64(pick(4)), Just: uint64(pick(4))}
		if i > 0 {
			x.Parent = i - 1 - pick(min(i, 3))
			x.Slot += s.T.N[x.Parent].Slot + 1
		}
		s.T.N = append(s.T.N, x)
	}
	for i := range n {
		k := i + pick(n-i)
		s.T.N[i].Root, s.T.N[k].Root = s.T.N[k].Root, s.T.N[i].Root
	}
	line := up(s.T, pick(n))
	at := func() api.Check { return api.Check{Epoch: uint64(pick(5)), Root: s.T.N[line[pick(len(line))]].Root} }
	s.Just, s.Head = at(), s.T.N[line[0]].Root
	line = up(s.T, place(s.T, s.Just.Root))
	s.Fin = at()
	return s
}

// oddSnap is the snapshot with one part changed, so that it may not be, or is another one.
func oddSnap(pick picker, s api.Snap) api.Snap {
	return changedSnap(s, func(s *api.Snap) {
		switch pick(6) {
		case 0:
			s.Head = name(pick(14))
		case 1:
			s.Just.Root = name(pick(14))
		case 2:
			s.Fin.Root = name(pick(14))
		case 3:
			s.T.N[pick(len(s.T.N))].Parent = pick(len(s.T.N)+2) - 2
		case 4:
			s.T.N[pick(len(s.T.N))].Slot = uint64(pick(12))
		case 5:
			s.T.N[pick(len(s.T.N))].Root = name(pick(14))
		}
	})
}

func anyCall(pick picker) api.Call {
	c := api.Call{Kind: pick(10), A: name(1 + pick(13)), B: name(1 + pick(13)), Slot: uint64(pick(24)), Raw: make([]byte, pick(4))}
	for i := range c.Raw {
		c.Raw[i] = byte(pick(256))
	}
	if pick(3) > 0 {
		c.Kind = api.CallAnc + pick(2)
	}
	return c
}

// anyReader may be anywhere, and told of anything.
func anyReader(pick picker) api.Reader {
	r := api.Reader{C: anyCall(pick), Pc: pick(4) - 1, At: pick(15) - 2, Done: pick(8) == 0}
	if pick(3) == 0 {
		r.R = told()[pick(len(told()))]
	}
	return r
}

// holdAny holds what is asked of a snapshot by the plain ways: as a whole, step by step, and from anywhere on.
func holdAny(t *testing.T, pick picker, s api.Snap) {
	t.Helper()
	c := anyCall(pick)
	want, steps := plainRun(s, c)
	holdRun(t, s, c, want, steps)
	r := Start(c)
	for range steps {
		holdStep(t, "step by step", s, r, plainStep(s, r))
		r = Step(s, r)
	}
	if !r.Done || r.R != want {
		t.Errorf("%v of %v comes to %v, want %v", c, s, r, want)
	}
	for range 4 {
		r = anyReader(pick)
		holdStep(t, "any", s, r, plainStep(s, r))
	}
}

// P19.1 to P19.3: of many by chance.
func TestMany(t *testing.T) {
	chance := rand.New(rand.NewSource(19))
	var bad, long int
	for range 6000 {
		s := anySnap(chance.Intn)
		if !plainMay(s) {
			t.Fatalf("%v may not be", s)
		}
		holdAny(t, chance.Intn, s)
		if _, steps := Run(s, descOf(1, 2)); steps > 4 {
			long++
		}
		odd := oddSnap(chance.Intn, s)
		holdAny(t, chance.Intn, odd)
		if !plainMay(odd) {
			bad++
		}
		if t.Failed() {
			return
		}
	}
	if min(bad, long) < 500 {
		t.Errorf("%d may not be, and %d take more than four steps", bad, long)
	}
}

// spoil changes all that can be reached from a list.
func spoil[E any](l []E, mark E) {
	l = l[:cap(l)]
	for i := range l {
		l[i] = mark
	}
}

// around lays a list into another one, so that there is something ahead of it and behind it.
func around[E any](l []E, mark E) (whole, piece []E) {
	whole = slices.Concat([]E{mark, mark}, l, []E{mark, mark})
	return whole, whole[2 : 2+len(l)]
}

// raws are bytes that a call may have.
func raws() [][]byte { return [][]byte{nil, {}, {7}, {1, 2, 3}, bytes.Repeat([]byte{9}, 200)} }

// R3, with P19.1: what is called stays as it was, around its bytes, too, and what begins is the caller's own.
func TestStartOwns(t *testing.T) {
	for _, raw := range raws() {
		for _, c := range callsOf(api.CallAnc) {
			c.Raw = raw
			want := cloneReader(api.Reader{C: c, At: -1})
			whole, piece := around(raw, 70)
			was := slices.Clone(whole)
			c.Raw = piece
			one, two := Start(c), Start(c)
			if !isSame(one, want) || !isSame(two, want) || !bytes.Equal(whole, was) {
				t.Fatalf("Start(%v) = %v, and the bytes are then in %v", c, one, whole)
			}
			spoil(append(one.C.Raw, 1), 66)
			spoil(one.C.Raw, 66)
			if !isSame(two, want) || !bytes.Equal(whole, was) {
				t.Fatalf("with what was answered %v is changed, or %v", two, whole)
			}
			spoil(whole, 67)
			if !isSame(two, want) {
				t.Fatalf("with what was called %v is changed to %v", want, two)
			}
		}
	}
}

// ownedBy are readers by which each way of ending, or of going on, is come to, of shot or a zero snapshot.
func ownedBy() []api.Reader {
	return []api.Reader{
		Start(api.Call{Kind: api.CallHead}),
		Start(api.Call{Kind: api.CallFin}),
		Start(api.Call{Kind: api.CallBlock}),
		Start(ancOf(7, 4)),
		Start(ancOf(9, 4)),
		Start(descOf(2, 7)),
		Start(descOf(9, 7)),
		Start(descOf(7, 9)),
		{C: ancOf(7, 4), Pc: 1, At: 6},
		{C: ancOf(7, 4), Pc: 1, At: 0},
		{C: ancOf(7, 0), Pc: 1, At: 0},
		{C: ancOf(7, 0), Pc: 1, At: 9},
		{C: descOf(2, 7), Pc: 1, At: 6},
		{C: descOf(2, 7), Pc: 1, At: 1},
		{C: descOf(2, 7), Pc: 1, At: 0},
		{C: api.Call{Kind: api.CallHead}, Pc: 1},
		{C: ancOf(7, 4), Pc: 1, At: 6, Done: true, R: api.Resp{R: name(2)}},
		{C: api.Call{Kind: api.CallTick}, Done: true},
	}
}

// R3, with P19.1: a reader, and a snapshot, stay as they were, around their lists, too, and what a step comes to is the caller's own.
func TestStepOwns(t *testing.T) {
	for _, s := range []api.Snap{shot(), {}} {
		for _, r := range ownedBy() {
			for _, raw := range raws() {
				r.C.Raw = raw
				want := cloneReader(plainStep(s, r))
				piece, nodes := s, []api.Node(nil)
				nodes, piece.T.N = around(s.T.N, api.Node{Root: name(70), Parent: 5})
				nodesWere := slices.Clone(nodes)
				whole, bytesPiece := around(raw, 70)
				was := slices.Clone(whole)
				r.C.Raw = bytesPiece
				one, two := Step(piece, r), Step(piece, r)
				if !isSame(one, want) || !isSame(two, want) || !bytes.Equal(whole, was) || !slices.Equal(nodes, nodesWere) {
					t.Fatalf("Step(%v, %v) = %v, and its lists are then in %v, %v", s, r, one, nodes, whole)
				}
				spoil(append(one.C.Raw, 1), 66)
				spoil(one.C.Raw, 66)
				if !isSame(two, want) || !bytes.Equal(whole, was) {
					t.Fatalf("with what was answered %v is changed, or %v", two, whole)
				}
				spoil(whole, 67)
				spoil(nodes, api.Node{Parent: 66})
				if !isSame(two, want) {
					t.Fatalf("with what was handed in %v is changed to %v", want, two)
				}
			}
		}
	}
}

// R3: bytes that have room for more, also none of them.
func TestRoomForMore(t *testing.T) {
	for _, raw := range raws() {
		room := append(make([]byte, 0, 400), raw...)
		c := ancOf(7, 4)
		c.Raw = room
		r := Start(c)
		for _, x := range []api.Reader{r, Step(shot(), r), Step(shot(), Step(shot(), r)), Step(api.Snap{}, r)} {
			spoil(append(x.C.Raw, 1), 66)
			spoil(x.C.Raw, 66)
			if !bytes.Equal(room, raw) || !bytes.Equal(room[:cap(room)][len(raw):], make([]byte, cap(room)-len(raw))) {
				t.Fatalf("with what was answered %v is changed to %v", raw, room[:cap(room)])
			}
		}
	}
}

// R3, with P19.2: a snapshot, and what is called, stay as they were, around their lists, too.
func TestRunChangesNothing(t *testing.T) {
	for _, x := range allSnaps() {
		piece := x.s
		var nodes []api.Node
		nodes, piece.T.N = around(x.s.T.N, api.Node{Root: name(70), Parent: 5})
		nodesWere := slices.Clone(nodes)
		for _, c := range allCalls() {
			want, steps := plainRun(x.s, c)
			whole, raw := around(c.Raw, 70)
			was := slices.Clone(whole)
			c.Raw = raw
			if got, n := Run(piece, c); got != want || n != steps || !bytes.Equal(whole, was) {
				t.Fatalf("%s: Run(%v, %v) = %v, %d, and the bytes are then in %v", x.what, x.s, c, got, n, whole)
			}
		}
		if !slices.Equal(nodes, nodesWere) {
			t.Errorf("%s: %v became %v", x.what, nodesWere, nodes)
		}
	}
}

// R5: each call answers the same again, whatever was asked between.
func TestAskedAgain(t *testing.T) {
	for range 10 {
		for _, x := range allSnaps() {
			for _, r := range ownedBy() {
				holdStep(t, x.what, x.s, r, plainStep(x.s, r))
				want, steps := plainRun(x.s, r.C)
				holdRun(t, x.s, r.C, want, steps)
			}
		}
	}
}

// P1: very many nodes, and very many bytes.
func TestVeryMany(t *testing.T) {
	const n = 300000
	long := changedSnap(shot(), func(s *api.Snap) { s.T.N = slices.Repeat(s.T.N, n/8) })
	far := shot()
	far.T.N = nil
	for i := range n {
		far.T.N = append(far.T.N, api.Node{Root: api.Root{byte(i), byte(i >> 8), byte(i >> 16)}, Parent: i - 1, Slot: uint64(i)})
	}
	far.Head, far.Just.Root, far.Fin.Root = far.T.N[n-1].Root, far.T.N[1].Root, far.T.N[0].Root
	for _, s := range []api.Snap{long, far} {
		for _, kind := range []int{api.CallAnc, api.CallDesc, api.CallHead, api.CallFin, api.CallTick, -1} {
			c := api.Call{Kind: kind, A: s.T.N[0].Root, B: s.T.N[n-1].Root}
			if got, steps := Run(s, c); got != (api.Resp{E: api.ErrArg}) || steps != 1 {
				t.Errorf("Run of very many nodes, %v = %v, %d", c, got, steps)
			}
			for _, r := range []api.Reader{{C: c, Pc: 1, At: n - 1}, {C: c, Pc: 1}, {C: c, Pc: 2, At: n}} {
				if got := Step(s, r); !isSame(got, ends(r, api.Resp{E: api.ErrArg})) {
					t.Errorf("Step of very many nodes, %v = %v", r, got)
				}
			}
		}
	}
	heavy := ancOf(7, 4)
	heavy.Raw = bytes.Repeat([]byte{1, 2, 3}, n)
	r := Start(heavy)
	for range 5 {
		r = Step(shot(), r)
	}
	if !isSame(r, api.Reader{C: heavy, Pc: 1, At: 0, Done: true, R: api.Resp{R: name(1)}}) {
		t.Error("very many bytes")
	}
	if got, steps := Run(shot(), heavy); got != (api.Resp{R: name(1)}) || steps != 5 {
		t.Errorf("Run of very many bytes = %v, %d", got, steps)
	}
}

// P1, P19.1 to P19.3: of any snapshot, whatever is changed of it, and from anywhere on.
func FuzzReader(f *testing.F) {
	f.Add([]byte{})
	f.Add([]byte{4, 0, 1, 2, 3})
	for seed := range 6 {
		chance := rand.New(rand.NewSource(int64(seed)))
		in := make([]byte, 120)
		chance.Read(in)
		f.Add(in)
	}
	f.Fuzz(func(t *testing.T, in []byte) {
		pick := func(n int) int {
			if len(in) == 0 {
				return 0
			}
			b := in[0]
			in = in[1:]
			return int(b) % n
		}
		s := anySnap(pick)
		if !plainMay(s) {
			t.Fatalf("%v may not be", s)
		}
		holdAny(t, pick, s)
		holdAny(t, pick, oddSnap(pick, s))
	})
}
