package vote

import (
	"encoding/binary"
	"math"
	"math/rand"
	"slices"
	"testing"

	"areopagus/api"
)

const (
	least    = math.MinInt
	greatest = math.MaxInt
	last     = uint64(math.MaxUint64)
	half     = uint64(1) << 63
)

// name hangs on its number at both ends, so that half of a root is not taken for it.
func name(n int) api.Root { return api.Root{byte(n), 15: byte(n >> 8), 31: byte(n)} }

var (
	zero = api.Root{}
	a    = name(1)
	b    = name(2)
	// front and back differ from a in one byte alone.
	front = api.Root{2, 31: 1}
	back  = api.Root{1, 31: 2}
)

func of(r api.Root, epoch uint64) api.Latest { return api.Latest{Has: true, Root: r, Epoch: epoch} }

// votes are these, with nobody out.
func votes(l ...api.Latest) api.Votes { return api.Votes{L: l} }

// fresh are so many that have no vote.
func fresh(n int) api.Votes { return votes(make([]api.Latest, n)...) }

func clone(v api.Votes) api.Votes { return api.Votes{L: slices.Clone(v.L), Out: v.Out} }

// with are the votes with another one at a place.
func with(v api.Votes, val int, l api.Latest) api.Votes {
	v = clone(v)
	v.L[val] = l
	return v
}

func out(v api.Votes, mask uint64) api.Votes {
	v = clone(v)
	v.Out = mask
	return v
}

// full are so many votes of one each, no two of one root or of one epoch.
func full(n int) api.Votes {
	var v api.Votes
	for i := range n {
		v.L = append(v.L, of(name(i+1), uint64(10*i)))
	}
	return v
}

// mixed are votes by chance that may be, the same for the same chance, of few roots and epochs.
func mixed(chance *rand.Rand, n int) api.Votes {
	v := fresh(n)
	for i := range v.L {
		switch chance.Intn(5) {
		case 0:
		case 1:
			v.Out |= 1 << i
		default:
			v.L[i] = of(someRoot(chance), someEpoch(chance))
		}
	}
	return v
}

func someRoot(chance *rand.Rand) api.Root {
	from := []api.Root{a, b, zero, front, back}
	return from[chance.Intn(len(from))]
}

func someEpoch(chance *rand.Rand) uint64 {
	from := []uint64{0, 1, 2, half, last - 1, last}
	return from[chance.Intn(len(from))]
}

func mayBe() []api.Votes {
	var l []api.Votes
	chance := rand.New(rand.NewSource(121))
	for n := 1; n <= 8; n++ {
		l = append(l, fresh(n), full(n), out(fresh(n), 1<<n-1), out(fresh(n), 1), out(fresh(n), 1<<(n-1)))
		for i := range n {
			l = append(l, with(fresh(n), i, of(zero, 0)), with(fresh(n), i, of(b, last)))
			l = append(l, with(full(n), i, api.Latest{}), out(with(full(n), i, api.Latest{}), 1<<i))
		}
		for range 10 {
			l = append(l, mixed(chance, n))
		}
	}
	return l
}

// mayNotBe are votes that may not be for one thing alone.
func mayNotBe() []api.Votes {
	l := []api.Votes{{}, {L: []api.Latest{}}, {L: make([]api.Latest, 0, 8)}, {Out: 1}, {Out: last}}
	for _, n := range []int{9, 10, 16, 64, 65, 256, 257, 264} {
		l = append(l, fresh(n), full(n), out(fresh(n), 1))
	}
	for n := 1; n <= 8; n++ {
		for bit := n; bit < 64; bit++ {
			l = append(l, out(fresh(n), 1<<bit), out(full(n), 1<<bit), out(fresh(n), 1<<bit|1))
		}
		l = append(l, out(fresh(n), last), out(fresh(n), last<<n), out(full(n), 1<<n-1), out(full(n), last))
		for i := range n {
			for _, x := range []api.Latest{{Root: a}, {Root: api.Root{31: 1}}, {Root: api.Root{1}}, {Epoch: 1}, {Epoch: last}, {Epoch: half}, {Root: b, Epoch: 7}} {
				l = append(l, with(fresh(n), i, x), with(full(n), i, x), out(with(fresh(n), i, x), 1<<i))
			}
			for _, x := range []api.Latest{of(zero, 0), of(a, 0), of(zero, 1), of(b, last)} {
				l = append(l, out(with(fresh(n), i, x), 1<<i), out(with(full(n), i, x), 1<<i))
			}
		}
	}
	return l
}

// sameVotes is the tests' own.
func sameVotes(x, y api.Votes) bool {
	if len(x.L) != len(y.L) || x.Out != y.Out {
		return false
	}
	for i := range x.L {
		if x.L[i].Has != y.L[i].Has || x.L[i].Root != y.L[i].Root || x.L[i].Epoch != y.L[i].Epoch {
			return false
		}
	}
	return true
}

// has is the tests' own way to ask for a bit, by halves, not by shifts.
func has(mask uint64, v int) bool {
	for range v {
		mask /= 2
	}
	return mask%2 == 1
}

// plainMay is the tests' own.
func plainMay(v api.Votes) bool {
	if len(v.L) == 0 || len(v.L) > 8 {
		return false
	}
	for bit := range 64 {
		if has(v.Out, bit) && (bit >= len(v.L) || v.L[bit].Has) {
			return false
		}
	}
	for _, l := range v.L {
		if !l.Has && (l.Root != zero || l.Epoch != 0) {
			return false
		}
	}
	return true
}

// plainPut is the tests' own, by the words of P12.2, one after the other.
func plainPut(v api.Votes, val int, r api.Root, epoch uint64) (api.Votes, int, api.Errno) {
	if !plainMay(v) {
		return v, 0, 1
	}
	if val < 0 || val > len(v.L)-1 {
		return v, 0, 10
	}
	if has(v.Out, val) {
		return v, 0, 0
	}
	if !v.L[val].Has {
		return with(v, val, of(r, epoch)), 1, 0
	}
	if v.L[val].Epoch < epoch {
		return with(v, val, of(r, epoch)), 1, 0
	}
	if v.L[val].Epoch == epoch && v.L[val].Root != r {
		w := with(v, val, api.Latest{})
		w.Out += 1 << val
		return w, 2, 0
	}
	return v, 0, 0
}

// plainDrop is the tests' own, without a map.
func plainDrop(v api.Votes, keep []api.Root) api.Votes {
	if !plainMay(v) {
		return v
	}
	w := clone(v)
	for i, l := range v.L {
		if !slices.Contains(keep, l.Root) {
			w.L[i] = api.Latest{}
		}
	}
	return w
}

func holdMay(t *testing.T, v api.Votes, want bool) {
	t.Helper()
	if got := May(v); got != want {
		t.Errorf("May(%v) = %v, want %v", v, got, want)
	}
}

func holdSame(t *testing.T, x, y api.Votes, want bool) {
	t.Helper()
	if got := Same(x, y); got != want {
		t.Errorf("Same(%v, %v) = %v, want %v", x, y, got, want)
	}
	if got := Same(y, x); got != want {
		t.Errorf("Same(%v, %v) = %v, want %v", y, x, got, want)
	}
}

// holdPut answers what it was put to, so that one may go on from there.
func holdPut(t *testing.T, v api.Votes, val int, r api.Root, epoch uint64, want api.Votes, kind int, e api.Errno) api.Votes {
	t.Helper()
	before := clone(v)
	got, gotKind, gotE := Put(v, val, r, epoch)
	if !sameVotes(got, want) || gotKind != kind || gotE != e {
		t.Errorf("Put(%v, %d, %v, %d) = %v, %d, %d, want %v, %d, %d", v, val, r, epoch, got, gotKind, gotE, want, kind, e)
	}
	if !sameVotes(v, before) {
		t.Errorf("Put(%v, %d, %v, %d) left %v", before, val, r, epoch, v)
	}
	return got
}

func holdDrop(t *testing.T, v api.Votes, keep []api.Root, want api.Votes) {
	t.Helper()
	before, kept := clone(v), slices.Clone(keep)
	got := Drop(v, keep)
	if !sameVotes(got, want) {
		t.Errorf("Drop(%v, %v) = %v, want %v", v, keep, got, want)
	}
	if again := Drop(got, keep); !sameVotes(again, want) {
		t.Errorf("Drop(%v, %v) twice = %v, want %v", v, keep, again, want)
	}
	if !sameVotes(v, before) || !slices.Equal(keep, kept) {
		t.Errorf("Drop(%v, %v) left %v, %v", before, kept, v, keep)
	}
}

// holdPlain holds May, Put and Drop by the plain ways.
func holdPlain(t *testing.T, v api.Votes, val int, r api.Root, epoch uint64, keep []api.Root) {
	t.Helper()
	holdMay(t, v, plainMay(v))
	w, kind, e := plainPut(v, val, r, epoch)
	got := holdPut(t, v, val, r, epoch, w, kind, e)
	if e == api.OK && !May(got) {
		t.Errorf("Put(%v, %d, %v, %d) = %v, which may not be", v, val, r, epoch, got)
	}
	w, kind, e = plainPut(w, val, r, epoch)
	holdPut(t, got, val, r, epoch, w, kind, e)
	holdDrop(t, v, keep, plainDrop(v, keep))
}

// P12.2: the numbers that the document gives to what becomes of a vote, and to the errors.
func TestNumbers(t *testing.T) {
	if api.Ignored != 0 || api.Taken != 1 || api.Twice != 2 || api.Fates != 3 || api.ErrArg != 1 || api.ErrVal != 10 || api.MaxVals != 8 {
		t.Error(api.Ignored, api.Taken, api.Twice, api.Fates, api.ErrArg, api.ErrVal, api.MaxVals)
	}
}

// P12.2: the chapter's example: of one validator, for a, then for b, of one epoch: Taken, and Twice.
func TestExample(t *testing.T) {
	v, is := New(1)
	if !is {
		t.Fatal("no votes of one")
	}
	v = holdPut(t, v, 0, a, 4, votes(of(a, 4)), api.Taken, api.OK)
	v = holdPut(t, v, 0, b, 4, out(fresh(1), 1), api.Twice, api.OK)
	holdPut(t, v, 0, b, 5, out(fresh(1), 1), api.Ignored, api.OK)
}

// P12.1: votes of nobody, of 1, of 8, of 9, and of many more.
func TestMayByHowMany(t *testing.T) {
	holdMay(t, api.Votes{}, false)
	holdMay(t, api.Votes{L: []api.Latest{}}, false)
	holdMay(t, api.Votes{L: make([]api.Latest, 0, 8)}, false)
	holdMay(t, api.Votes{L: make([]api.Latest, 9)[:8]}, true)
	holdMay(t, api.Votes{L: full(9).L[:8]}, true)
	holdMay(t, api.Votes{L: full(8).L[:0]}, false)
	for n := range 300 {
		holdMay(t, fresh(n), 1 <= n && n <= 8)
		holdMay(t, full(n), 1 <= n && n <= 8)
	}
}

// P12.1: Out has bits of places of L alone: each bit, beside none, and beside all that are.
func TestMayByOut(t *testing.T) {
	for n := 1; n <= 8; n++ {
		whole := uint64(1)<<n - 1
		holdMay(t, out(fresh(n), 0), true)
		holdMay(t, out(fresh(n), whole), true)
		for bit := range 64 {
			holdMay(t, out(fresh(n), 1<<bit), bit < n)
			holdMay(t, out(fresh(n), whole|1<<bit), bit < n)
			holdMay(t, out(full(n), 1<<bit), false)
		}
		holdMay(t, out(fresh(n), last), false)
		holdMay(t, out(fresh(n), last^whole), false)
		holdMay(t, out(full(n), whole), false)
		holdMay(t, out(full(n), last), false)
	}
	holdMay(t, out(fresh(1), 2), false)
	holdMay(t, out(fresh(1), half), false)
	holdMay(t, out(fresh(1), half|1), false)
	holdMay(t, out(fresh(8), 128), true)
	holdMay(t, out(fresh(8), 256), false)
	holdMay(t, out(fresh(8), 511), false)
	holdMay(t, out(fresh(8), 255), true)
	holdMay(t, out(fresh(8), half), false)
}

// P12.1: one without a vote is a zero one, whether it is of Out or not; one of Out has none.
func TestMayByVote(t *testing.T) {
	for _, c := range []struct {
		l        api.Latest
		is, gone bool // whether it may be, and of Out
	}{
		{api.Latest{}, true, true},
		{api.Latest{Root: a}, false, false},
		{api.Latest{Root: api.Root{1}}, false, false},
		{api.Latest{Root: api.Root{15: 1}}, false, false},
		{api.Latest{Root: api.Root{31: 1}}, false, false},
		{api.Latest{Epoch: 1}, false, false},
		{api.Latest{Epoch: half}, false, false},
		{api.Latest{Epoch: last}, false, false},
		{api.Latest{Root: a, Epoch: 1}, false, false},
		{of(zero, 0), true, false},
		{of(a, 0), true, false},
		{of(zero, 1), true, false},
		{of(a, 1), true, false},
		{of(a, last), true, false},
	} {
		for n := 1; n <= 8; n++ {
			for i := range n {
				for _, v := range []api.Votes{fresh(n), full(n)} {
					v = with(v, i, c.l)
					holdMay(t, v, c.is)
					holdMay(t, out(v, 1<<i), c.gone)
					// Another one that is out tells nothing of this one.
					if k := (i + 1) % n; k != i {
						holdMay(t, out(with(v, k, api.Latest{}), 1<<k), c.is)
					}
				}
			}
		}
	}
}

// P12.1: two things that may not be are no better than one.
func TestMayOfMany(t *testing.T) {
	for i, v := range mayBe() {
		holdMay(t, v, true)
		if !plainMay(v) {
			t.Errorf("votes %d of mayBe", i)
		}
	}
	bad := mayNotBe()
	for i, v := range bad {
		holdMay(t, v, false)
		if plainMay(v) {
			t.Errorf("votes %d of mayNotBe", i)
		}
		w := bad[(i*7+3)%len(bad)]
		holdMay(t, api.Votes{L: v.L, Out: w.Out}, plainMay(api.Votes{L: v.L, Out: w.Out}))
		holdMay(t, api.Votes{L: slices.Concat(v.L, w.L), Out: v.Out}, plainMay(api.Votes{L: slices.Concat(v.L, w.L), Out: v.Out}))
	}
}

// P12.1: so many zero ones, and nobody is out.
func TestNew(t *testing.T) {
	for n := 1; n <= 8; n++ {
		v, is := New(n)
		if !is || len(v.L) != n || v.Out != 0 || !May(v) {
			t.Errorf("New(%d) = %v, %v", n, v, is)
		}
		for _, l := range v.L {
			if l != (api.Latest{}) {
				t.Errorf("New(%d) = %v", n, v)
			}
		}
		// What is done to one changes no other one.
		w, _ := New(n)
		v.L[0] = of(a, 1)
		if !sameVotes(w, fresh(n)) {
			t.Errorf("New(%d) answers one list twice", n)
		}
	}
	for _, n := range []int{least, least + 1, least + 8, -1 << 32, -256, -8, -2, -1, 0, 9, 10, 16, 64, 255, 256, 257, 264, 1 << 32, 1<<32 + 1, 1 << 62, greatest - 1, greatest} {
		if v, is := New(n); is || v.L != nil || v.Out != 0 {
			t.Errorf("New(%d) = %v, %v", n, v, is)
		}
	}
}

// P12.1: Same of votes that differ in one part alone.
func TestSameByParts(t *testing.T) {
	all := slices.Concat(mayBe(), mayNotBe())
	for _, v := range all {
		holdSame(t, v, v, true)
		holdSame(t, v, clone(v), true)
		for _, bit := range []int{0, 1, 7, 8, 31, 32, 63} {
			holdSame(t, v, out(v, v.Out^1<<bit), false)
		}
		for i, l := range v.L {
			holdSame(t, v, with(v, i, api.Latest{Has: !l.Has, Root: l.Root, Epoch: l.Epoch}), false)
			for _, e := range []uint64{1, half, 1 << 32} {
				holdSame(t, v, with(v, i, api.Latest{Has: l.Has, Root: l.Root, Epoch: l.Epoch ^ e}), false)
			}
			for _, at := range []int{0, 15, 16, 31} {
				r := l.Root
				r[at] ^= 128
				holdSame(t, v, with(v, i, api.Latest{Has: l.Has, Root: r, Epoch: l.Epoch}), false)
			}
		}
		holdSame(t, v, api.Votes{L: append(slices.Clone(v.L), api.Latest{}), Out: v.Out}, false)
		if n := len(v.L); n > 0 {
			holdSame(t, v, api.Votes{L: slices.Concat(v.L[:1], v.L), Out: v.Out}, false)
			holdSame(t, v, api.Votes{L: v.L[:n-1], Out: v.Out}, false)
			holdSame(t, v, api.Votes{L: v.L[1:], Out: v.Out}, false)
			holdSame(t, v, api.Votes{Out: v.Out}, false)
		}
	}
}

// P12.1: Same goes by the order; of none nil and empty are the same.
func TestSameByOrder(t *testing.T) {
	holdSame(t, votes(of(a, 1), of(b, 1)), votes(of(b, 1), of(a, 1)), false)
	holdSame(t, votes(of(a, 1), of(a, 2)), votes(of(a, 2), of(a, 1)), false)
	holdSame(t, votes(of(a, 1), api.Latest{}), votes(api.Latest{}, of(a, 1)), false)
	holdSame(t, votes(of(a, 1), of(b, 2), of(a, 1)), votes(of(a, 1), of(a, 1), of(b, 2)), false)
	holdSame(t, out(fresh(2), 1), out(fresh(2), 2), false)
	holdSame(t, fresh(8), full(8), false)
	holdSame(t, api.Votes{}, api.Votes{L: []api.Latest{}}, true)
	holdSame(t, api.Votes{Out: 9}, api.Votes{L: make([]api.Latest, 0, 5), Out: 9}, true)
	holdSame(t, api.Votes{Out: 9}, api.Votes{L: []api.Latest{}, Out: 8}, false)
	for i, v := range mayBe() {
		for k, w := range mayBe() {
			if got, want := Same(v, w), sameVotes(v, w); got != want {
				t.Errorf("Same of %d and %d, %v and %v = %v", i, k, v, w, got)
			}
		}
	}
}

// P12.2, P1, R2: of votes that may not be ErrArg is told, whatever val is.
func TestPutErrArg(t *testing.T) {
	for _, v := range mayNotBe() {
		for _, val := range []int{0, 1, len(v.L) - 1, len(v.L), -1, least, greatest} {
			holdPut(t, v, val, a, 5, v, api.Ignored, api.ErrArg)
			holdPut(t, v, val, zero, 0, v, api.Ignored, api.ErrArg)
			holdPut(t, v, val, b, last, v, api.Ignored, api.ErrArg)
		}
	}
}

// P12.2: ErrVal of a val that is no place of L.
func TestPutErrVal(t *testing.T) {
	for _, v := range mayBe() {
		n := len(v.L)
		for _, val := range []int{-1, -2, -n, -64, n, n + 1, 8, 9, 63, 64, 256, 1 << 32, -1 << 32, least, least + 1, least + n, greatest, greatest - 1} {
			if 0 <= val && val < n {
				continue
			}
			holdPut(t, v, val, a, 5, v, api.Ignored, api.ErrVal)
			holdPut(t, v, val, zero, 0, v, api.Ignored, api.ErrVal)
			holdPut(t, v, val, b, last, v, api.Ignored, api.ErrVal)
		}
	}
}

// P12.2: who is out has no vote any more, whatever the epoch.
func TestPutOfOut(t *testing.T) {
	for n := 1; n <= 8; n++ {
		for i := range n {
			for _, v := range []api.Votes{out(fresh(n), 1<<i), out(fresh(n), 1<<n-1), out(with(full(n), i, api.Latest{}), 1<<i)} {
				for _, epoch := range []uint64{0, 1, 2, half, last - 1, last} {
					for _, r := range []api.Root{a, b, zero} {
						holdPut(t, v, i, r, epoch, v, api.Ignored, api.OK)
					}
				}
			}
		}
	}
}

// P12.2: who has no vote has the one that is put, also that of epoch 0 for the zero root.
func TestPutFirst(t *testing.T) {
	for n := 1; n <= 8; n++ {
		for i := range n {
			for _, epoch := range []uint64{0, 1, half, last - 1, last} {
				for _, r := range []api.Root{zero, a, b, {31: 1}, {1}} {
					for _, v := range []api.Votes{fresh(n), with(full(n), i, api.Latest{})} {
						want := with(v, i, of(r, epoch))
						w := holdPut(t, v, i, r, epoch, want, api.Taken, api.OK)
						holdPut(t, w, i, r, epoch, want, api.Ignored, api.OK)
					}
				}
			}
		}
	}
}

// P12.2: behind a vote: a less epoch is ignored, for whatever root; a greater one is taken, for whatever root.
func TestPutByEpoch(t *testing.T) {
	epochs := []uint64{0, 1, 2, 1 << 32, half - 1, half, half + 1, last - 1, last}
	for i, old := range epochs {
		for _, less := range epochs[:i] {
			for _, r := range []api.Root{a, b, zero, front, back} {
				v := votes(of(b, 7), of(a, old), of(b, 9))
				holdPut(t, v, 1, r, less, v, api.Ignored, api.OK)
				// And the other way round.
				v = with(v, 1, of(a, less))
				w := holdPut(t, v, 1, r, old, with(v, 1, of(r, old)), api.Taken, api.OK)
				holdPut(t, w, 1, r, old, w, api.Ignored, api.OK)
				holdPut(t, w, 1, a, less, w, api.Ignored, api.OK)
			}
		}
	}
}

// P12.2: behind a vote of the same epoch: for the same root nothing becomes of it, for another one whoever votes is out.
func TestPutOfSameEpoch(t *testing.T) {
	for _, epoch := range []uint64{0, 1, 2, half, last - 1, last} {
		for _, r := range []api.Root{a, b, zero, front, back, {}, {1}, {31: 1}} {
			v := votes(of(b, 7), of(r, epoch), of(b, 9))
			holdPut(t, v, 1, r, epoch, v, api.Ignored, api.OK)
			for at := range r {
				other := r
				other[at] ^= 1
				gone := out(with(v, 1, api.Latest{}), 2)
				w := holdPut(t, v, 1, other, epoch, gone, api.Twice, api.OK)
				for _, again := range []api.Root{r, other} {
					holdPut(t, w, 1, again, epoch, gone, api.Ignored, api.OK)
					holdPut(t, w, 1, again, epoch+1, gone, api.Ignored, api.OK)
					holdPut(t, w, 1, again, last, gone, api.Ignored, api.OK)
				}
			}
		}
	}
	v := votes(of(a, 3))
	holdPut(t, v, 0, front, 3, out(fresh(1), 1), api.Twice, api.OK)
	holdPut(t, v, 0, back, 3, out(fresh(1), 1), api.Twice, api.OK)
	holdPut(t, v, 0, zero, 3, out(fresh(1), 1), api.Twice, api.OK)
	holdPut(t, votes(of(zero, 0)), 0, a, 0, out(fresh(1), 1), api.Twice, api.OK)
}

// P12.2: what is put of one changes no other one's, and bits that are in Out stay.
func TestPutOfOneAlone(t *testing.T) {
	v := out(votes(of(a, 1), api.Latest{}, of(a, 1), api.Latest{}, of(b, 1), of(a, 2), of(a, 1), api.Latest{}), 2|128)
	v = holdPut(t, v, 0, b, 1, out(with(v, 0, api.Latest{}), 1|2|128), api.Twice, api.OK)
	v = holdPut(t, v, 3, b, 0, with(v, 3, of(b, 0)), api.Taken, api.OK)
	v = holdPut(t, v, 6, b, 1, out(with(v, 6, api.Latest{}), 1|2|64|128), api.Twice, api.OK)
	v = holdPut(t, v, 5, b, 1, v, api.Ignored, api.OK)
	v = holdPut(t, v, 5, b, 2, out(with(v, 5, api.Latest{}), 1|2|32|64|128), api.Twice, api.OK)
	v = holdPut(t, v, 2, b, 2, with(v, 2, of(b, 2)), api.Taken, api.OK)
	v = holdPut(t, v, 4, b, 1, v, api.Ignored, api.OK)
	v = holdPut(t, v, 7, b, 9, v, api.Ignored, api.OK)
	want := out(votes(api.Latest{}, api.Latest{}, of(b, 2), of(b, 0), of(b, 1), api.Latest{}, api.Latest{}, api.Latest{}), 1|2|32|64|128)
	holdSame(t, v, want, true)
}

// P12.2: all of them out, one after the other.
func TestPutAllOut(t *testing.T) {
	for n := 1; n <= 8; n++ {
		v := full(n)
		for i := range n {
			v = holdPut(t, v, i, zero, uint64(10*i), out(with(v, i, api.Latest{}), 1<<(i+1)-1), api.Twice, api.OK)
		}
		holdSame(t, v, out(fresh(n), 1<<n-1), true)
	}
}

// P12.2: written out: no roots, all roots, a root twice, roots for which nobody voted.
func TestDrop(t *testing.T) {
	v := out(votes(of(a, 1), of(b, 2), api.Latest{}, of(a, last), api.Latest{}, of(front, 0), of(back, 0)), 16)
	none := out(fresh(7), 16)
	holdDrop(t, v, nil, none)
	holdDrop(t, v, []api.Root{}, none)
	holdDrop(t, v, make([]api.Root, 0, 9), none)
	holdDrop(t, v, []api.Root{a, b, front, back}, v)
	holdDrop(t, v, []api.Root{back, front, b, a, a, name(77)}, v)
	onlyA := out(votes(of(a, 1), api.Latest{}, api.Latest{}, of(a, last), api.Latest{}, api.Latest{}, api.Latest{}), 16)
	holdDrop(t, v, []api.Root{a}, onlyA)
	holdDrop(t, v, []api.Root{a, a}, onlyA)
	holdDrop(t, v, []api.Root{a, name(3), a, {}, a}, onlyA)
	holdDrop(t, v, []api.Root{b}, out(with(fresh(7), 1, of(b, 2)), 16))
	holdDrop(t, v, []api.Root{front}, out(with(fresh(7), 5, of(front, 0)), 16))
	holdDrop(t, v, []api.Root{back}, out(with(fresh(7), 6, of(back, 0)), 16))
	holdDrop(t, v, []api.Root{name(3), name(4), {1}, {31: 1}, {2}, {31: 2}}, none)
	holdDrop(t, v, []api.Root{zero}, none)
	holdDrop(t, none, []api.Root{zero}, none)
	holdDrop(t, none, nil, none)
}

// P12.2: the zero root is a root as any other one, where somebody voted for it.
func TestDropOfZeroRoot(t *testing.T) {
	v := votes(of(zero, 0), api.Latest{}, of(zero, 5), of(a, 5))
	holdDrop(t, v, []api.Root{zero}, with(v, 3, api.Latest{}))
	holdDrop(t, v, []api.Root{a}, with(fresh(4), 3, of(a, 5)))
	holdDrop(t, v, []api.Root{a, zero}, v)
	holdDrop(t, v, nil, fresh(4))
}

// P12.2: of all roots of theirs one alone is dropped, and one alone is kept.
func TestDropOfEach(t *testing.T) {
	for n := 1; n <= 8; n++ {
		v := full(n)
		for mask := range 1 << n {
			var keep []api.Root
			want := clone(v)
			for i := n - 1; i >= 0; i-- {
				if mask>>i&1 == 1 {
					keep = append(keep, name(i+1))
				} else {
					want.L[i] = api.Latest{}
				}
			}
			holdDrop(t, v, keep, want)
		}
	}
}

// P12.2: votes that may not be are not dropped.
func TestDropOfNone(t *testing.T) {
	for _, v := range mayNotBe() {
		for _, keep := range [][]api.Root{nil, {}, {a}, {zero}, {a, b, name(1), name(2), name(3)}} {
			holdDrop(t, v, keep, v)
		}
	}
}

// P12.2: who has no vote any more has the next one that is put, of a less epoch, too; who was out stays out.
func TestPutBehindDrop(t *testing.T) {
	v := Drop(out(votes(of(a, 9), of(b, 9), api.Latest{}), 4), []api.Root{b})
	v = holdPut(t, v, 0, b, 2, out(votes(of(b, 2), of(b, 9), api.Latest{}), 4), api.Taken, api.OK)
	v = holdPut(t, v, 1, b, 2, v, api.Ignored, api.OK)
	v = holdPut(t, v, 2, b, 10, v, api.Ignored, api.OK)
	holdPut(t, v, 1, a, 9, out(votes(of(b, 2), api.Latest{}, api.Latest{}), 6), api.Twice, api.OK)
}

// small are all votes of so many, of one of a few parts each, whether they may be or not.
func small(n int) []api.Votes {
	from := []api.Latest{{}, of(zero, 0), of(a, 0), of(b, 0), of(a, 1), of(b, 2), {Root: a}, {Epoch: 1}}
	l := []api.Votes{{}}
	for range n {
		var next []api.Votes
		for _, v := range l {
			for _, x := range from {
				next = append(next, votes(append(slices.Clone(v.L), x)...))
			}
		}
		l = next
	}
	var all []api.Votes
	for _, v := range l {
		for mask := range uint64(1) << (n + 1) {
			all = append(all, out(v, mask))
		}
	}
	return all
}

// P12.1, P12.2: of all votes of up to two, by the plain way beside it.
func TestAllSmall(t *testing.T) {
	keeps := [][]api.Root{nil, {a}, {b}, {zero}, {a, b}, {zero, b}}
	for n := range 3 {
		for i, v := range small(n) {
			for val := -1; val <= n; val++ {
				for k, r := range []api.Root{zero, a, b} {
					for epoch := range uint64(4) {
						holdPlain(t, v, val, r, epoch, keeps[(i+k+int(epoch))%len(keeps)])
					}
				}
			}
		}
	}
}

// P12.1, P12.2: of many, by the plain way beside it.
func TestMany(t *testing.T) {
	chance := rand.New(rand.NewSource(122))
	for i := range 20000 {
		v := mixed(chance, 1+chance.Intn(8))
		var keep []api.Root
		for range chance.Intn(5) {
			keep = append(keep, someRoot(chance))
		}
		if i%4 == 0 {
			v.Out ^= 1 << chance.Intn(10)
		}
		holdPlain(t, v, chance.Intn(10)-1, someRoot(chance), someEpoch(chance), keep)
	}
}

// cast is one vote that is put.
type cast struct {
	val   int
	r     api.Root
	epoch uint64
}

// standing is what P12.3 says of one, by all votes that were put: whether it voted twice, or else the one that it has. It goes by no vote's fate: two of one epoch are two where no greater one stood between, or ahead.
func standing(all []cast, val int) (api.Latest, bool) {
	var own []cast
	for _, c := range all {
		if c.val == val {
			own = append(own, c)
		}
	}
	var best api.Latest
	for i, c := range own {
		greater := func(x cast) bool { return x.epoch > c.epoch }
		if slices.ContainsFunc(own[:i], greater) {
			continue
		}
		first := slices.IndexFunc(own, func(x cast) bool { return x.epoch == c.epoch })
		if own[first].r != c.r {
			return api.Latest{}, true
		}
		best = of(own[first].r, c.epoch)
	}
	return best, false
}

// holdStanding puts all votes into New ones, and holds what comes of it by P12.3.
func holdStanding(t *testing.T, n int, all []cast) {
	t.Helper()
	v, is := New(n)
	if !is {
		t.Fatalf("New(%d)", n)
	}
	for i, c := range all {
		w, _, e := Put(v, c.val, c.r, c.epoch)
		if e != api.OK {
			t.Fatalf("vote %d of %v: %d", i, all, e)
		}
		v = w
	}
	for val := range n {
		l, twice := standing(all, val)
		if v.L[val] != l || has(v.Out, val) != twice {
			t.Errorf("%v: %d has %v, out %v; want %v, out %v", all, val, v.L[val], has(v.Out, val), l, twice)
		}
	}
}

// P12.3: whoever voted twice has no vote any more; who did not has the one of the greatest epoch that came first.
func TestStanding(t *testing.T) {
	holdStanding(t, 1, nil)
	holdStanding(t, 1, []cast{{0, a, 1}, {0, b, 2}, {0, a, 2}})
	holdStanding(t, 1, []cast{{0, a, 1}, {0, b, 2}, {0, b, 1}, {0, b, 2}})
	holdStanding(t, 2, []cast{{0, a, 1}, {1, b, 1}, {1, a, 0}, {0, b, 1}, {0, b, 9}, {1, b, 3}})
	// All lists of up to five votes of one validator, for two roots, of three epochs.
	lists := [][]cast{{}}
	for range 5 {
		var next [][]cast
		for _, l := range lists {
			for _, r := range []api.Root{a, b} {
				for epoch := range uint64(3) {
					next = append(next, append(slices.Clone(l), cast{0, r, epoch}))
				}
			}
		}
		lists = next
		for _, l := range lists {
			holdStanding(t, 1, l)
		}
	}
	chance := rand.New(rand.NewSource(123))
	for range 2000 {
		n := 1 + chance.Intn(8)
		var all []cast
		for range chance.Intn(60) {
			all = append(all, cast{chance.Intn(n), someRoot(chance), someEpoch(chance)})
		}
		holdStanding(t, n, all)
	}
}

// R3: what is answered is the caller's own, with an error, too, and where nothing becomes of a vote.
func TestOwn(t *testing.T) {
	mark := of(name(99), 99)
	for _, v := range slices.Concat(mayBe(), mayNotBe()) {
		for val := -1; val <= len(v.L) && val < 9; val++ {
			for _, c := range []cast{{val, a, 0}, {val, b, last}, {val, zero, uint64(10 * max(val, 0))}} {
				hand := clone(v)
				got, _, _ := Put(hand, c.val, c.r, c.epoch)
				holdApart(t, hand, got, v, mark)
			}
		}
		for _, keep := range [][]api.Root{nil, {a}, {name(1), name(2), name(3), name(4), name(5), name(6), name(7), name(8), b, zero}} {
			hand := clone(v)
			holdApart(t, hand, Drop(hand, keep), v, mark)
		}
	}
}

// holdApart changes what was answered, and what was handed in, and wants neither to be seen in the other one.
func holdApart(t *testing.T, hand, got, was api.Votes, mark api.Latest) {
	t.Helper()
	answer := clone(got)
	for i := range got.L {
		got.L[i] = mark
	}
	if !sameVotes(hand, was) {
		t.Fatalf("%v was handed in, and changed by its answer to %v", was, hand)
	}
	copy(got.L, answer.L)
	for i := range hand.L {
		hand.L[i] = mark
	}
	if !sameVotes(got, answer) {
		t.Fatalf("%v was answered, and changed by what was handed in to %v", answer, got)
	}
	// Behind the end of what is answered stands nothing of what was handed in either.
	_ = append(got.L, mark)
	if cap(hand.L) > len(hand.L) && hand.L[:len(hand.L)+1][len(hand.L)] == mark {
		t.Fatalf("%v was handed in, and is gone on in by its answer", was)
	}
}

// R3: votes that are a piece of a longer list: what stands behind stays.
func TestPiece(t *testing.T) {
	whole := []api.Latest{of(a, 1), of(b, 2), of(a, 3), of(b, 4)}
	piece := api.Votes{L: whole[1:3]}
	holdPut(t, piece, 1, b, 9, votes(of(b, 2), of(b, 9)), api.Taken, api.OK)
	holdPut(t, piece, 0, a, 2, out(votes(api.Latest{}, of(a, 3)), 1), api.Twice, api.OK)
	holdPut(t, piece, 2, a, 9, piece, api.Ignored, api.ErrVal)
	holdDrop(t, piece, []api.Root{b}, votes(of(b, 2), api.Latest{}))
	none := api.Votes{L: whole[:0]}
	for _, w := range []api.Votes{Drop(piece, nil), Drop(none, nil)} {
		_ = append(w.L, of(zero, 77))
	}
	w, _, _ := Put(none, 0, a, 1)
	_ = append(w.L, of(zero, 77))
	if !slices.Equal(whole, []api.Latest{of(a, 1), of(b, 2), of(a, 3), of(b, 4)}) {
		t.Errorf("what stands behind is %v", whole)
	}
}

// R3: roots that are kept may change later.
func TestKeepIsCopied(t *testing.T) {
	keep := []api.Root{a, b}
	w := Drop(votes(of(a, 1), of(b, 2), of(zero, 3)), keep)
	keep[0], keep[1] = zero, zero
	holdSame(t, w, votes(of(a, 1), of(b, 2), api.Latest{}), true)
}

// R5: asked again, with other ones asked between.
func TestAgain(t *testing.T) {
	v := votes(of(a, 1), of(b, 2))
	for i := range 50 {
		holdPut(t, v, 0, b, 1, out(votes(api.Latest{}, of(b, 2)), 1), api.Twice, api.OK)
		holdPut(t, v, 1, a, uint64(i)+3, votes(of(a, 1), of(a, uint64(i)+3)), api.Taken, api.OK)
		holdDrop(t, v, []api.Root{name(i + 1)}, plainDrop(v, []api.Root{name(i + 1)}))
		holdMay(t, v, true)
	}
}

// P1: very many votes, and very many roots.
func TestVeryMany(t *testing.T) {
	v := fresh(1000000)
	if May(v) || !Same(v, v) || Same(v, fresh(999999)) {
		t.Error("very many votes")
	}
	if w, kind, e := Put(v, 999999, a, 5); e != api.ErrArg || kind != api.Ignored || len(w.L) != 1000000 {
		t.Error(len(w.L), kind, e)
	}
	if w := Drop(v, nil); len(w.L) != 1000000 {
		t.Error(len(w.L))
	}
	keep := make([]api.Root, 300000)
	for i := range keep {
		keep[i] = api.Root{byte(i), byte(i >> 8), byte(i >> 16), 9}
	}
	x := votes(of(keep[299999], 1), of(a, 2), of(keep[0], 3), api.Latest{})
	if w := Drop(x, keep); !sameVotes(w, with(x, 1, api.Latest{})) {
		t.Error(w)
	}
}

// votesOf are one of each four bytes: how it is, the first and the last byte of its root, and its epoch.
func votesOf(in []byte) api.Votes {
	var v api.Votes
	for ; len(in) >= 4; in = in[4:] {
		l := api.Latest{Has: in[0]%4 != 0, Root: api.Root{in[1] % 4, 31: in[2] % 2}, Epoch: uint64(int64(int8(in[3])))}
		if in[0]%8 < 2 {
			l = api.Latest{}
		}
		v.L = append(v.L, l)
	}
	return v
}

// P1, P12.1 to P12.3: whatever the votes, the validator, the root, and the epoch.
func FuzzVote(f *testing.F) {
	f.Add([]byte{}, uint64(0), 0, []byte{}, uint64(0), []byte{})
	f.Add([]byte("\x04\x01\x00\x01\x04\x02\x00\x01\x00\x00\x00\x00"), uint64(4), 1, []byte{1}, uint64(1), []byte{1, 2})
	f.Add([]byte("\x04\x01\x00\xff\x00\x00\x00\x00"), uint64(2), 0, []byte{2, 3}, last, []byte{0})
	f.Add([]byte("\x00\x01\x00\x00"), half, -1, []byte{0}, uint64(0), []byte{0, 0})
	f.Fuzz(func(t *testing.T, in []byte, mask uint64, val int, root []byte, epoch uint64, kept []byte) {
		var r api.Root
		copy(r[:], root)
		keep := []api.Root{r}
		for _, k := range kept {
			keep = append(keep, api.Root{k % 4, 31: k / 128})
		}
		v := votesOf(in)
		w := votesOf(root)
		holdPlain(t, out(v, mask), val, r, epoch, keep)
		holdPlain(t, v, val, r, epoch, keep[1:])
		holdPlain(t, out(v, mask%256), val%9, r, epoch, keep)
		holdSame(t, v, w, sameVotes(v, w))
		// The same, few enough, zero where they have no vote or are out.
		v.L = v.L[:min(len(v.L), 8)]
		v.Out = mask & (1<<len(v.L) - 1)
		for i := range v.L {
			if !v.L[i].Has || has(v.Out, i) {
				v.L[i] = api.Latest{}
			}
		}
		if len(v.L) > 0 {
			at := int(epoch%8) % len(v.L)
			holdMay(t, v, true)
			holdPlain(t, v, at, r, epoch, keep)
			holdPlain(t, v, at, v.L[at].Root, epoch, keep[1:])
			holdPlain(t, v, at, r, v.L[at].Epoch, []api.Root{v.L[at].Root})
		}
		var all []cast
		for ; len(in) >= 10; in = in[10:] {
			all = append(all, cast{int(in[0] % 4), api.Root{in[1] % 3}, binary.LittleEndian.Uint64(in[2:]) >> (in[1] % 64)})
		}
		holdStanding(t, 4, all)
	})
}
