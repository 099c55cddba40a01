package link

import (
	"math"
	"math/rand"
	"slices"
	"testing"

	"areopagus/api"
)

const (
	least    = math.MinInt
	greatest = math.MaxInt
	last     = uint64(math.MaxUint64)
	half     = uint64(1) << 63
)

var zero = api.Root{}

// name hangs on its number at both ends, so that half of a root is not taken for it.
func name(n int) api.Root { return api.Root{byte(n), 15: byte(n >> 8), 31: byte(n)} }

func check(epoch uint64, n int) api.Check { return api.Check{Epoch: epoch, Root: name(n)} }

func by(mask uint64, s, t api.Check) api.Link { return api.Link{S: s, T: t, Mask: mask} }

// epochs is a link between two epochs, from one root to another one.
func epochs(s, t, mask uint64) api.Link { return by(mask, check(s, 1), check(t, 2)) }

// line are so many, each from where the one before ends, of all bits but one.
func line(n int) []api.Link {
	var l []api.Link
	for i := range n {
		l = append(l, by(255&^(1<<(i%8)), check(uint64(3*i), i+1), check(uint64(3*i+3), i+2)))
	}
	return l
}

// with are the same with another one at a place.
func with(l []api.Link, i int, k api.Link) []api.Link {
	l = slices.Clone(l)
	l[i] = k
	return l
}

// masked are the same with another Mask at a place.
func masked(l []api.Link, i int, mask uint64) []api.Link {
	k := l[i]
	k.Mask = mask
	return with(l, i, k)
}

func behind(l []api.Link, k ...api.Link) []api.Link { return append(slices.Clone(l), k...) }

// flipped is a root with one byte of its own changed.
func flipped(r api.Root, i int) api.Root {
	r[i] ^= 64
	return r
}

// others are links that differ from one in one part alone of S or T, of which each is from one epoch to a later one.
func others(k api.Link) []api.Link {
	var l []api.Link
	for _, change := range []func(*api.Link){
		func(k *api.Link) { k.S.Epoch++ },
		func(k *api.Link) { k.S.Epoch-- },
		func(k *api.Link) { k.T.Epoch++ },
		func(k *api.Link) { k.T.Epoch-- },
		func(k *api.Link) { k.T.Epoch |= half },
		func(k *api.Link) { k.S.Root = flipped(k.S.Root, 0) },
		func(k *api.Link) { k.S.Root = flipped(k.S.Root, 16) },
		func(k *api.Link) { k.S.Root = flipped(k.S.Root, 31) },
		func(k *api.Link) { k.T.Root = flipped(k.T.Root, 0) },
		func(k *api.Link) { k.T.Root = flipped(k.T.Root, 16) },
		func(k *api.Link) { k.T.Root = flipped(k.T.Root, 31) },
	} {
		o := k
		change(&o)
		l = append(l, o)
	}
	return l
}

func mayBe() [][]api.Link {
	k := by(1, check(5, 1), check(9, 2))
	l := [][]api.Link{
		nil,
		{},
		line(1),
		line(2),
		line(15),
		line(16),
		{epochs(0, 1, 1)},
		{epochs(0, 1, 255)},
		{epochs(0, 1, 128)},
		{epochs(0, last, 2)},
		{epochs(last-1, last, 255)},
		{epochs(half-1, half, 3)},
		{epochs(0, half, 3)},
		{by(7, check(0, 0), check(1, 0))},
		// Links that clash may be, and so may all that somebody did.
		{epochs(0, 3, 1), epochs(1, 2, 1)},
		{epochs(1, 2, 1), epochs(0, 3, 255), epochs(1, 3, 255)},
		// One and its way round may not both be, but two that share an end may.
		{by(1, check(0, 1), check(1, 2)), by(1, check(0, 1), check(2, 2))},
		{by(1, check(0, 1), check(2, 2)), by(1, check(1, 1), check(2, 2))},
		{by(1, check(0, 1), check(1, 2)), by(1, check(0, 2), check(1, 1))},
	}
	for _, o := range others(k) {
		l = append(l, []api.Link{k, o}, []api.Link{o, k}, behind(line(14), k, o))
	}
	return append(l, slices.Concat([]api.Link{k}, others(k)))
}

func mayNotBe() [][]api.Link {
	return [][]api.Link{
		line(17),
		line(300),
		// Two that are one: next to one another, the first and the last.
		{epochs(0, 1, 1), epochs(0, 1, 1)},
		{epochs(0, 1, 1), epochs(0, 1, 2)},
		{epochs(0, 1, 255), epochs(0, 1, 1)},
		behind(line(15), line(1)...),
		behind(line(15), line(15)[14]),
		behind(line(7), line(4)[3]),
		behind(line(15), masked(line(1), 0, 1)...),
		behind(line(15), masked(line(15), 14, 1)[14]),
		behind(line(1), line(1)[0], line(1)[0]),
		// A target's epoch that is not above its source's.
		{epochs(0, 0, 1)},
		{epochs(1, 0, 1)},
		{epochs(1, 1, 255)},
		{epochs(last, 0, 1)},
		{epochs(last, last, 1)},
		{epochs(half, half-1, 1)},
		{epochs(half, 1, 1)},
		{by(1, check(4, 9), check(4, 1))},
		{by(1, check(4, 1), check(4, 1))},
		{by(1, check(0, 0), check(0, 0))},
		with(line(16), 0, epochs(1, 1, 1)),
		with(line(16), 15, epochs(50, 2, 1)),
		// A Mask of nobody, or of somebody that there is not.
		{epochs(0, 1, 0)},
		{epochs(0, 1, 256)},
		{epochs(0, 1, 257)},
		{epochs(0, 1, 511)},
		{epochs(0, 1, 1<<16)},
		{epochs(0, 1, 1<<32)},
		{epochs(0, 1, half)},
		{epochs(0, 1, half+1)},
		{epochs(0, 1, last)},
		masked(line(16), 0, 0),
		masked(line(16), 15, 256),
		masked(line(16), 7, half+255),
		// Where reasons meet.
		{epochs(0, 0, 0)},
		{epochs(1, 0, 256)},
		{epochs(1, 0, 1), epochs(1, 0, 1)},
		{epochs(0, 1, 0), epochs(0, 1, 0)},
		{epochs(1, 1, half), epochs(1, 1, half)},
		behind(line(16), line(1)...),
		behind(line(16), epochs(9, 9, 0)),
		behind(with(line(16), 3, epochs(2, 1, 256)), line(1)...),
		make([]api.Link, 17),
		make([]api.Link, 16),
		make([]api.Link, 1),
	}
}

// checksOf are all of these epochs, and two roots each.
func checksOf(l ...uint64) []api.Check {
	var out []api.Check
	for _, e := range l {
		out = append(out, check(e, 1), check(e, 2))
	}
	return out
}

// between are all links from one of them to another one, or to the same.
func between(l []api.Check, mask uint64) []api.Link {
	var out []api.Link
	for _, s := range l {
		for _, t := range l {
			out = append(out, by(mask, s, t))
		}
	}
	return out
}

// forth are links that may be, of few epochs and roots, so that two are one often.
func forth(chance *rand.Rand, n int) []api.Link {
	var l []api.Link
	wide := uint64(2 + chance.Intn(9))
	for range n {
		s := chance.Uint64() % wide
		l = append(l, by(1+chance.Uint64()%255, check(s, chance.Intn(2)), check(s+1+chance.Uint64()%wide, chance.Intn(2))))
	}
	return l
}

// mixed are of any epochs, and of any bits.
func mixed(chance *rand.Rand, n int) []api.Link {
	var l []api.Link
	few := []uint64{0, 1, 2, 3, 4, half - 1, half, last - 1, last}
	for range n {
		mask := chance.Uint64() & chance.Uint64() & chance.Uint64()
		l = append(l, by(mask, check(few[chance.Intn(9)], chance.Intn(3)), check(few[chance.Intn(9)], chance.Intn(3))))
	}
	return l
}

// shuffled are the same in another order.
func shuffled(chance *rand.Rand, l []api.Link) []api.Link {
	l = slices.Clone(l)
	chance.Shuffle(len(l), func(i, j int) { l[i], l[j] = l[j], l[i] })
	return l
}

// sameRoot, and all plain ways, are the tests' own, by the words.
func sameRoot(a, b api.Root) bool {
	for i := range a {
		if a[i] != b[i] {
			return false
		}
	}
	return true
}

func sameCheck(a, b api.Check) bool { return a.Epoch == b.Epoch && sameRoot(a.Root, b.Root) }

func plainOne(a, b api.Link) bool { return sameCheck(a.S, b.S) && sameCheck(a.T, b.T) }

func plainSame(a, b []api.Link) bool {
	if len(a) != len(b) {
		return false
	}
	for i := range a {
		if !plainOne(a[i], b[i]) || a[i].Mask != b[i].Mask {
			return false
		}
	}
	return true
}

func plainMay(l []api.Link) bool {
	if len(l) > 16 {
		return false
	}
	for i, k := range l {
		if k.T.Epoch <= k.S.Epoch || k.Mask < 1 || k.Mask > 255 {
			return false
		}
		for _, o := range l[:i] {
			if plainOne(k, o) {
				return false
			}
		}
	}
	return true
}

func plainWho(l []api.Link, s, t api.Check) uint64 {
	for _, k := range l {
		if plainOne(k, by(0, s, t)) {
			return k.Mask
		}
	}
	return 0
}

func plainPut(l []api.Link, s, t api.Check, val int) ([]api.Link, api.Errno) {
	switch {
	case !plainMay(l):
		return l, api.ErrArg
	case val < 0 || val > 7:
		return l, api.ErrVal
	case t.Epoch <= s.Epoch:
		return l, api.ErrLink
	}
	for i, k := range l {
		if plainOne(k, by(0, s, t)) {
			return masked(l, i, k.Mask|1<<val), api.OK
		}
	}
	if len(l) == 16 {
		return l, api.ErrFull
	}
	return behind(l, by(1<<val, s, t)), api.OK
}

func plainAround(a, b api.Link) bool {
	return a.S.Epoch < b.S.Epoch && b.T.Epoch < a.T.Epoch
}

func plainClash(a, b api.Link) bool {
	return !plainOne(a, b) && a.T.Epoch == b.T.Epoch || plainAround(a, b) || plainAround(b, a)
}

func plainGuilty(l []api.Link) uint64 {
	var out uint64
	for i, a := range l {
		for _, b := range l[:i] {
			if plainClash(a, b) {
				out |= a.Mask & b.Mask
			}
		}
	}
	return out
}

func holdMay(t *testing.T, l []api.Link, want bool) {
	t.Helper()
	if got := May(l); got != want {
		t.Errorf("May(%v) = %v, want %v", l, got, want)
	}
}

// holdSame holds it either way round.
func holdSame(t *testing.T, a, b []api.Link, want bool) {
	t.Helper()
	if got := Same(a, b); got != want {
		t.Errorf("Same(%v, %v) = %v, want %v", a, b, got, want)
	}
	if got := Same(b, a); got != want {
		t.Errorf("Same(%v, %v) = %v, want %v", b, a, got, want)
	}
}

func holdPut(t *testing.T, l []api.Link, s, to api.Check, val int, want []api.Link, e api.Errno) []api.Link {
	t.Helper()
	was := slices.Clone(l)
	got, is := Put(l, s, to, val)
	if is != e || !plainSame(got, want) {
		t.Errorf("Put(%v, %v, %v, %d) = %v, %v, want %v, %v", l, s, to, val, got, is, want, e)
	}
	if !plainSame(l, was) {
		t.Errorf("Put changed %v to %v", was, l)
	}
	return got
}

// holdStays wants the links as they were, and an error.
func holdStays(t *testing.T, l []api.Link, s, to api.Check, val int, e api.Errno) {
	t.Helper()
	holdPut(t, l, s, to, val, l, e)
}

func holdWho(t *testing.T, l []api.Link, s, to api.Check, want uint64) {
	t.Helper()
	if got := Who(l, s, to); got != want {
		t.Errorf("Who(%v, %v, %v) = %d, want %d", l, s, to, got, want)
	}
}

// holdClash holds it either way round, whoever attested them.
func holdClash(t *testing.T, a, b api.Link, want bool) {
	t.Helper()
	for _, mask := range []uint64{0, 1, 255, last} {
		x, y := by(mask, a.S, a.T), by(1, b.S, b.T)
		if got := Clash(x, y); got != want {
			t.Errorf("Clash(%v, %v) = %v, want %v", x, y, got, want)
		}
		if got := Clash(y, x); got != want {
			t.Errorf("Clash(%v, %v) = %v, want %v", y, x, got, want)
		}
	}
}

func holdGuilty(t *testing.T, l []api.Link, want uint64) {
	t.Helper()
	if got := Guilty(l); got != want {
		t.Errorf("Guilty(%v) = %d, want %d", l, got, want)
	}
}

// holdPlain holds all calls by the plain ways, of one more link and one validator.
func holdPlain(t *testing.T, l []api.Link, k api.Link, val int) {
	t.Helper()
	holdMay(t, l, plainMay(l))
	want, e := plainPut(l, k.S, k.T, val)
	got := holdPut(t, l, k.S, k.T, val, want, e)
	holdWho(t, l, k.S, k.T, plainWho(l, k.S, k.T))
	holdWho(t, got, k.S, k.T, plainWho(want, k.S, k.T))
	holdGuilty(t, l, plainGuilty(l))
	holdGuilty(t, got, plainGuilty(want))
	holdSame(t, l, want, plainSame(l, want))
	holdSame(t, got, want, true)
	for _, o := range l {
		holdClash(t, k, o, plainClash(k, o))
	}
}

// The numbers of the errors, and how many there may be.
func TestNumbers(t *testing.T) {
	if api.ErrArg != 1 || api.ErrFull != 3 || api.ErrLink != 9 || api.ErrVal != 10 || api.MaxLinks != 16 || api.MaxVals != 8 {
		t.Error("numbers are others")
	}
}

// P15.3: the chapter's example: from epoch 0 to 3, and from 1 to 2.
func TestExample(t *testing.T) {
	a, b := epochs(0, 3, 1), epochs(1, 2, 1)
	holdClash(t, a, b, true)
	holdGuilty(t, []api.Link{a, b}, 1)
	l := holdPut(t, nil, a.S, a.T, 0, []api.Link{a}, api.OK)
	l = holdPut(t, l, b.S, b.T, 0, []api.Link{a, b}, api.OK)
	holdMay(t, l, true)
	holdGuilty(t, l, 1)
}

// P15.1: how many there are.
func TestMayByHowMany(t *testing.T) {
	for n := range 40 {
		holdMay(t, line(n), n <= 16)
	}
	holdMay(t, nil, true)
	holdMay(t, []api.Link{}, true)
	// As many of one Mask, or of one end.
	for _, n := range []int{1, 15, 16, 17} {
		var sameS, sameT []api.Link
		for i := range n {
			sameS = append(sameS, by(1, check(0, 1), check(uint64(1+i), 1)))
			sameT = append(sameT, by(1, check(uint64(i), 1), check(99, 1)))
		}
		holdMay(t, sameS, n <= 16)
		holdMay(t, sameT, n <= 16)
	}
}

// P15.1: written out.
func TestMayOfMany(t *testing.T) {
	for _, l := range mayBe() {
		holdMay(t, l, true)
		for i := range l {
			holdMay(t, l[:i], true)
			holdMay(t, l[i:], true)
		}
	}
	for _, l := range mayNotBe() {
		holdMay(t, l, false)
		holdMay(t, behind(line(1), l...), false)
		holdMay(t, behind(l, line(20)[19]), false)
	}
}

// P15.1: no two are one, wherever they stand, whoever attested them.
func TestMayByOne(t *testing.T) {
	for n := 2; n <= 16; n++ {
		for i := range n {
			for j := range i {
				l := line(n)
				l[i] = l[j]
				holdMay(t, l, false)
				holdMay(t, masked(l, i, 1), false)
				holdMay(t, masked(l, j, 255), false)
				for _, o := range others(line(n)[j]) {
					if o.S.Epoch < o.T.Epoch {
						holdMay(t, with(l, i, o), true)
					}
				}
			}
		}
	}
}

// P15.1: two that differ in one part alone, by each byte of a root, are two.
func TestMayByEachByte(t *testing.T) {
	k := epochs(1, 2, 4)
	for i := range zero {
		a, b := k, k
		a.S.Root = flipped(k.S.Root, i)
		b.T.Root = flipped(k.T.Root, i)
		holdMay(t, []api.Link{k, a}, true)
		holdMay(t, []api.Link{k, b}, true)
		holdMay(t, []api.Link{k, a, b}, true)
		holdMay(t, []api.Link{k, a, b, a}, false)
		holdMay(t, []api.Link{k, a, b, k}, false)
	}
}

// P15.1: the target's epoch is above the source's, as numbers without a sign.
func TestMayByEpochs(t *testing.T) {
	l := []uint64{0, 1, 2, 3, 1 << 32, half - 1, half, half + 1, last - 1, last}
	for i, s := range l {
		for j, e := range l {
			for _, r := range []int{1, 2} {
				k := by(1, check(s, 1), check(e, r))
				holdMay(t, []api.Link{k}, i < j)
				holdMay(t, behind(line(15), k), i < j && !slices.ContainsFunc(line(15), func(o api.Link) bool { return plainOne(o, k) }))
			}
		}
	}
}

// P15.1: each Mask is from 1 to 255.
func TestMayByMask(t *testing.T) {
	for mask := range uint64(600) {
		holdMay(t, []api.Link{epochs(0, 1, mask)}, 0 < mask && mask < 256)
		holdMay(t, masked(line(16), 15, mask), 0 < mask && mask < 256)
		holdMay(t, masked(line(16), 0, mask), 0 < mask && mask < 256)
	}
	for b := range 64 {
		holdMay(t, []api.Link{epochs(0, 1, 1<<b)}, b < 8)
		holdMay(t, []api.Link{epochs(0, 1, 1<<b|1)}, b < 8)
		holdMay(t, []api.Link{epochs(0, 1, 1<<b|255)}, b < 8)
	}
	holdMay(t, []api.Link{epochs(0, 1, last)}, false)
}

// changed are links that differ from one in one part alone, each part once.
func changed(k api.Link) []api.Link {
	l := others(k)
	for _, mask := range []uint64{k.Mask + 1, k.Mask ^ half, k.Mask ^ 256, 0} {
		l = append(l, by(mask, k.S, k.T))
	}
	return l
}

// P15.1: Same by each part, wherever it stands.
func TestSameByParts(t *testing.T) {
	for _, l := range slices.Concat(mayBe(), mayNotBe()) {
		holdSame(t, l, slices.Clone(l), true)
		if len(l) > 20 {
			continue
		}
		for i, k := range l {
			for _, o := range changed(k) {
				holdSame(t, l, with(l, i, o), plainSame(l, with(l, i, o)))
			}
		}
	}
	k := epochs(5, 9, 3)
	for _, o := range changed(k) {
		for _, n := range []int{1, 2, 15, 16, 17} {
			for i := range n {
				l := with(line(n), i, k)
				holdSame(t, l, with(l, i, o), false)
			}
		}
	}
	for i := range zero {
		a, b := k, k
		a.S.Root = flipped(k.S.Root, i)
		b.T.Root = flipped(k.T.Root, i)
		holdSame(t, []api.Link{k}, []api.Link{a}, false)
		holdSame(t, []api.Link{k}, []api.Link{b}, false)
	}
}

// P15.1, R6: Same by how many there are.
func TestSameByHowMany(t *testing.T) {
	holdSame(t, nil, nil, true)
	holdSame(t, nil, []api.Link{}, true)
	holdSame(t, []api.Link{}, []api.Link{}, true)
	holdSame(t, nil, make([]api.Link, 1), false)
	for n := range 20 {
		holdSame(t, line(n), line(n), true)
		holdSame(t, line(n), line(n+1), false)
		holdSame(t, line(n), line(20), false)
		holdSame(t, line(n), behind(line(n), api.Link{}), false)
		holdSame(t, line(n + 1)[1:], line(n+1), false)
	}
}

// P15.1: Same in order.
func TestSameByOrder(t *testing.T) {
	l := line(5)
	for i := range l {
		for j := range l {
			swapped := slices.Clone(l)
			swapped[i], swapped[j] = swapped[j], swapped[i]
			holdSame(t, l, swapped, i == j)
		}
	}
	// Masks that have changed places.
	holdSame(t, []api.Link{epochs(0, 1, 1), epochs(1, 2, 2)}, []api.Link{epochs(0, 1, 2), epochs(1, 2, 1)}, false)
	// S and T of one another.
	holdSame(t, []api.Link{by(1, check(0, 1), check(1, 2))}, []api.Link{by(1, check(1, 2), check(0, 1))}, false)
	holdSame(t, []api.Link{line(2)[0], line(2)[0]}, []api.Link{line(2)[0], line(2)[1]}, false)
}

// P15.2: onto none, by each validator.
func TestPutOntoNone(t *testing.T) {
	s, e := check(4, 1), check(5, 2)
	for _, none := range [][]api.Link{nil, {}} {
		for val := range 8 {
			holdPut(t, none, s, e, val, []api.Link{by(1<<val, s, e)}, api.OK)
		}
		holdPut(t, none, check(0, 0), check(last, 0), 3, []api.Link{epochsOf(0, last, 8)}, api.OK)
		holdPut(t, none, s, check(5, 1), 3, []api.Link{by(8, s, check(5, 1))}, api.OK)
		holdStays(t, none, s, e, 8, api.ErrVal)
		holdStays(t, none, s, e, -1, api.ErrVal)
		holdStays(t, none, e, s, 0, api.ErrLink)
		holdStays(t, none, s, s, 0, api.ErrLink)
	}
}

// epochsOf is a link between zero roots.
func epochsOf(s, t, mask uint64) api.Link { return by(mask, check(s, 0), check(t, 0)) }

// P15.2: of one that is there, wherever it stands, however many there are: its Mask alone is another one, or none, if the bit is there.
func TestPutWhatIsThere(t *testing.T) {
	for n := 1; n <= 16; n++ {
		for i := range n {
			for val := range 8 {
				l := line(n)
				holdPut(t, l, l[i].S, l[i].T, val, masked(l, i, l[i].Mask|1<<val), api.OK)
				for _, mask := range []uint64{1, 128, 255, 1 << val, 255 &^ (1 << val)} {
					if mask == 0 {
						continue
					}
					m := masked(l, i, mask)
					holdPut(t, m, l[i].S, l[i].T, val, masked(l, i, mask|1<<val), api.OK)
				}
			}
		}
	}
}

// P15.2: of one that is not there: behind all, of that bit alone; no room, where there are 16.
func TestPutWhatIsNotThere(t *testing.T) {
	for n := range 17 {
		for val := range 8 {
			s, e := check(1, 1), check(2, 2)
			want, fits := behind(line(n), by(1<<val, s, e)), api.OK
			if n == 16 {
				want, fits = line(n), api.ErrFull
			}
			holdPut(t, line(n), s, e, val, want, fits)
		}
	}
	// One that differs in one part alone from one that is there is not there.
	for _, n := range []int{1, 2, 15, 16} {
		for i := range n {
			l := line(n)
			for _, o := range others(l[i]) {
				want, fits := behind(l, by(4, o.S, o.T)), api.OK
				if n == 16 {
					want, fits = l, api.ErrFull
				}
				if o.S.Epoch >= o.T.Epoch {
					want, fits = l, api.ErrLink
				}
				holdPut(t, l, o.S, o.T, 2, want, fits)
			}
		}
	}
	// From there to here.
	for i, k := range line(16) {
		holdStays(t, line(16), k.T, k.S, i%8, api.ErrLink)
		holdPut(t, line(16), k.S, k.T, i%8, masked(line(16), i, 255), api.OK)
	}
	l := []api.Link{by(1, check(0, 1), check(1, 2))}
	holdPut(t, l, check(0, 2), check(1, 1), 0, behind(l, by(1, check(0, 2), check(1, 1))), api.OK)
}

// P15.2: val at its edges, and beyond.
func TestPutByVal(t *testing.T) {
	for _, l := range mayBe() {
		for _, val := range []int{-1, -2, -8, 8, 9, 63, 64, 256, 1 << 32, least, least + 1, greatest - 1, greatest} {
			holdStays(t, l, check(0, 1), check(1, 2), val, api.ErrVal)
			for _, k := range l {
				holdStays(t, l, k.S, k.T, val, api.ErrVal)
			}
		}
		for _, val := range []int{0, 7} {
			want, e := plainPut(l, check(0, 1), check(1, 2), val)
			holdPut(t, l, check(0, 1), check(1, 2), val, want, e)
		}
	}
}

// P15.2: epochs at their edges.
func TestPutByEpochs(t *testing.T) {
	few := []uint64{0, 1, 2, 3, 1 << 32, half - 1, half, half + 1, last - 1, last}
	for i, s := range few {
		for j, e := range few {
			for _, r := range []int{1, 2} {
				if i < j {
					holdPut(t, nil, check(s, 1), check(e, r), 5, []api.Link{by(32, check(s, 1), check(e, r))}, api.OK)
				} else {
					holdStays(t, nil, check(s, 1), check(e, r), 5, api.ErrLink)
					holdStays(t, line(16), check(s, 1), check(e, r), 5, api.ErrLink)
				}
			}
		}
	}
}

// P15.2, R2: which error is first: links that may not be, val, the epochs, no room.
func TestPutFirst(t *testing.T) {
	good, back, room := line(16)[3], by(1, check(2, 1), check(1, 1)), by(1, check(1, 9), check(2, 9))
	for _, l := range mayNotBe() {
		for _, k := range []api.Link{good, back, room, {}} {
			for _, val := range []int{0, 7, 8, -1, least, greatest} {
				holdStays(t, l, k.S, k.T, val, api.ErrArg)
			}
		}
		// Also where it is there.
		for _, k := range l[:min(len(l), 20)] {
			holdStays(t, l, k.S, k.T, 1, api.ErrArg)
			holdStays(t, l, k.S, k.T, 8, api.ErrArg)
		}
	}
	for _, l := range [][]api.Link{nil, {}, line(1), line(15), line(16)} {
		for _, val := range []int{-1, 8, least, greatest} {
			holdStays(t, l, back.S, back.T, val, api.ErrVal)
			holdStays(t, l, room.S, room.T, val, api.ErrVal)
		}
		holdStays(t, l, back.S, back.T, 0, api.ErrLink)
		holdStays(t, l, room.S, room.S, 7, api.ErrLink)
	}
	holdStays(t, line(16), room.S, room.T, 0, api.ErrFull)
	holdStays(t, line(16), good.S, good.T, 8, api.ErrVal)
	holdPut(t, line(16), good.S, good.T, 3, masked(line(16), 3, 255), api.OK)
}

// P15.2: Put onto what was answered, till there is no room, and then of those that are there.
func TestPutOnAndOn(t *testing.T) {
	var l, want []api.Link
	for i := range 16 {
		s, e := check(uint64(i%4), i), check(uint64(4+i%3), i)
		want = behind(want, by(1<<(i%8), s, e))
		l = holdPut(t, l, s, e, i%8, want, api.OK)
	}
	holdStays(t, l, check(0, 99), check(1, 99), 0, api.ErrFull)
	for i := range 16 {
		for val := range 8 {
			want = masked(want, i, want[i].Mask|1<<val)
			l = holdPut(t, l, want[i].S, want[i].T, val, want, api.OK)
		}
	}
	holdMay(t, l, true)
	holdStays(t, l, check(0, 99), check(1, 99), 0, api.ErrFull)
}

// P15.2: Who of one that is there, first, last and in between, and of none.
func TestWho(t *testing.T) {
	for n := 1; n <= 17; n++ {
		l := line(n)
		for i, k := range l {
			holdWho(t, l, k.S, k.T, k.Mask)
			holdWho(t, l, k.T, k.S, 0)
			holdWho(t, l, k.S, check(88, 88), 0)
			holdWho(t, l, check(88, 88), k.T, 0)
			holdWho(t, l, k.S, k.S, 0)
			holdWho(t, l, k.T, k.T, 0)
			for _, o := range others(k) {
				holdWho(t, l, o.S, o.T, 0)
				holdWho(t, with(l, i, o), k.S, k.T, 0)
				holdWho(t, behind(l, o), o.S, o.T, o.Mask)
			}
			for b := range zero {
				holdWho(t, l, api.Check{Epoch: k.S.Epoch, Root: flipped(k.S.Root, b)}, k.T, 0)
				holdWho(t, l, k.S, api.Check{Epoch: k.T.Epoch, Root: flipped(k.T.Root, b)}, 0)
			}
		}
	}
	for _, none := range [][]api.Link{nil, {}} {
		holdWho(t, none, check(0, 1), check(1, 2), 0)
		holdWho(t, none, api.Check{}, api.Check{}, 0)
	}
	holdWho(t, line(1), api.Check{}, api.Check{}, 0)
	// S alone, T alone is the same; one is from there to here.
	l := []api.Link{by(1, check(0, 1), check(2, 1)), by(2, check(0, 1), check(2, 2)), by(4, check(0, 2), check(2, 1)), by(8, check(0, 2), check(2, 2)), by(16, check(2, 1), check(0, 1))}
	for i, want := range []uint64{1, 2, 4, 8, 16} {
		holdWho(t, l, l[i].S, l[i].T, want)
		holdWho(t, slices.Delete(slices.Clone(l), i, i+1), l[i].S, l[i].T, 0)
	}
}

// P15.2: Who of links that may not be: any Mask, any epochs, and of two from one to the same the first one's.
func TestWhoOfLinksThatMayNotBe(t *testing.T) {
	k := epochs(3, 5, 0)
	for _, first := range []uint64{0, 1, 2, 256, half, last} {
		for _, second := range []uint64{0, 1, 2, 256, half, last} {
			l := []api.Link{by(first, k.S, k.T), by(second, k.S, k.T)}
			holdWho(t, l, k.S, k.T, first)
			holdWho(t, slices.Concat(line(16), l, line(3), l[1:]), k.S, k.T, first)
			holdWho(t, slices.Concat(l[1:], line(16), l), k.S, k.T, second)
		}
	}
	for _, mask := range []uint64{0, 1, 256, half, last} {
		holdWho(t, []api.Link{epochs(3, 3, mask)}, check(3, 1), check(3, 2), mask)
		holdWho(t, []api.Link{epochs(3, 2, mask)}, check(3, 1), check(2, 2), mask)
		holdWho(t, []api.Link{epochs(3, 2, mask)}, check(2, 2), check(3, 1), 0)
		holdWho(t, []api.Link{{Mask: mask}}, api.Check{}, api.Check{}, mask)
	}
	holdWho(t, line(300), line(300)[299].S, line(300)[299].T, line(300)[299].Mask)
	holdWho(t, line(300), line(300)[0].S, line(300)[0].T, line(300)[0].Mask)
	for _, l := range mayNotBe() {
		for _, k := range l {
			holdWho(t, l, k.S, k.T, plainWho(l, k.S, k.T))
		}
	}
}

// P15.3: written out.
func TestClash(t *testing.T) {
	for _, c := range []struct {
		a, b api.Link
		want bool
	}{
		// One, whoever attested it.
		{epochs(0, 2, 1), epochs(0, 2, 1), false},
		{epochs(0, 2, 1), epochs(0, 2, 255), false},
		// Of one target's epoch.
		{epochs(0, 2, 1), epochs(1, 2, 1), true},
		{by(1, check(0, 1), check(2, 1)), by(1, check(0, 1), check(2, 2)), true},
		{by(1, check(0, 1), check(2, 1)), by(1, check(0, 2), check(2, 1)), true},
		{by(1, check(0, 1), check(2, 1)), by(1, check(0, 2), check(2, 2)), true},
		{by(1, check(0, 1), check(9, 1)), by(1, check(8, 2), check(9, 2)), true},
		// One around the other: by one epoch, by many, at the ends.
		{epochs(0, 3, 1), epochs(1, 2, 1), true},
		{epochs(0, 4, 1), epochs(1, 3, 1), true},
		{epochs(0, 4, 1), epochs(2, 3, 1), true},
		{epochs(0, 4, 1), epochs(1, 2, 1), true},
		{epochs(0, last, 1), epochs(1, 2, 1), true},
		{epochs(0, last, 1), epochs(half-1, half, 1), true},
		{epochs(0, last, 1), epochs(1, last-1, 1), true},
		{epochs(0, last, 1), epochs(last-2, last-1, 1), true},
		{epochs(half-1, half+2, 1), epochs(half, half+1, 1), true},
		{epochs(half-2, half+1, 1), epochs(half-1, half, 1), true},
		{by(1, check(0, 7), check(3, 8)), by(1, check(1, 9), check(2, 10)), true},
		// Of the same source's epoch.
		{epochs(0, 3, 1), epochs(0, 2, 1), false},
		{epochs(1, 9, 1), epochs(1, 2, 1), false},
		{by(1, check(1, 1), check(9, 1)), by(1, check(1, 2), check(2, 2)), false},
		{epochs(0, last, 1), epochs(0, 1, 1), false},
		// One ends where the other one begins, or before that.
		{epochs(0, 1, 1), epochs(1, 2, 1), false},
		{by(1, check(0, 1), check(1, 2)), by(1, check(1, 2), check(2, 3)), false},
		{by(1, check(0, 1), check(1, 2)), by(1, check(1, 3), check(2, 4)), false},
		{epochs(0, 1, 1), epochs(2, 3, 1), false},
		{epochs(0, 1, 1), epochs(last-1, last, 1), false},
		// One begins within the other, and ends behind it.
		{epochs(0, 2, 1), epochs(1, 3, 1), false},
		{epochs(0, 9, 1), epochs(8, 10, 1), false},
		{epochs(0, half, 1), epochs(half-1, last, 1), false},
		// Links that may not be.
		{api.Link{}, api.Link{}, false},
		{api.Link{}, api.Link{Mask: 1}, false},
		{api.Link{}, by(1, check(0, 0), check(0, 1)), true},
		{epochs(2, 2, 1), epochs(1, 2, 1), true},
		{epochs(5, 2, 1), epochs(9, 2, 1), true},
		{epochs(3, 2, 1), epochs(4, 1, 1), true},
		{epochs(3, 2, 1), epochs(4, 2, 1), true},
		{epochs(3, 2, 1), epochs(4, 3, 1), false},
		{epochs(3, 2, 1), epochs(3, 1, 1), false},
		{epochs(1, 1, 1), epochs(0, 2, 1), true},
		{epochs(2, 0, 1), epochs(0, 2, 1), true},
		{epochs(0, 1, 1), epochs(1, 0, 1), true},
		{epochs(1, 1, 1), epochs(2, 2, 1), false},
	} {
		holdClash(t, c.a, c.b, c.want)
	}
}

// P15.3: a link clashes neither with itself nor with one of another Mask, and with others by the parts in which they differ.
func TestClashByParts(t *testing.T) {
	for _, k := range []api.Link{epochs(5, 9, 3), epochs(1, 3, 255), by(1, check(7, 0), check(half, 0))} {
		holdClash(t, k, k, false)
		for _, mask := range []uint64{0, 1, 255, 256, half, last} {
			holdClash(t, k, by(mask, k.S, k.T), false)
		}
		for i := range zero {
			a, b := k, k
			a.S.Root = flipped(k.S.Root, i)
			b.T.Root = flipped(k.T.Root, i)
			holdClash(t, k, a, true)
			holdClash(t, k, b, true)
			holdClash(t, a, b, true)
			a.T.Epoch++
			b.T.Epoch--
			holdClash(t, k, a, false)
			holdClash(t, k, b, false)
			holdClash(t, a, b, false)
			a.S.Epoch++
			holdClash(t, k, a, false)
			a.S.Epoch -= 2
			holdClash(t, k, a, true)
			b.S.Epoch++
			holdClash(t, k, b, true)
			b.S.Epoch -= 2
			holdClash(t, k, b, false)
		}
	}
}

// P15.3: of all pairs of few checkpoints, also of links that may not be.
func TestClashOfAll(t *testing.T) {
	l := between(checksOf(0, 1, 2, 3, 4), 1)
	l = append(l, between(checksOf(0, half-1, half, last), 1)...)
	for i, a := range l {
		for _, b := range l[:i+1] {
			if got, want := Clash(a, b), plainClash(a, b); got != want || Clash(b, a) != want {
				t.Fatalf("Clash(%v, %v) = %v, the other way round %v, want %v", a, b, got, Clash(b, a), want)
			}
		}
	}
}

// P15.3: written out.
func TestGuilty(t *testing.T) {
	for _, c := range []struct {
		l    []api.Link
		want uint64
	}{
		{nil, 0},
		{[]api.Link{}, 0},
		{[]api.Link{epochs(0, 1, 255)}, 0},
		{line(16), 0},
		// Two that clash with no bit, one, some, and all in common.
		{[]api.Link{epochs(0, 3, 85), epochs(1, 2, 170)}, 0},
		{[]api.Link{epochs(0, 3, 1), epochs(1, 2, 254)}, 0},
		{[]api.Link{epochs(0, 3, 1), epochs(1, 2, 1)}, 1},
		{[]api.Link{epochs(0, 3, 128), epochs(1, 2, 255)}, 128},
		{[]api.Link{epochs(0, 3, 60), epochs(1, 2, 15)}, 12},
		{[]api.Link{epochs(0, 3, 255), epochs(1, 2, 255)}, 255},
		{[]api.Link{epochs(0, 3, 12), epochs(1, 3, 5)}, 4},
		{[]api.Link{by(12, check(0, 1), check(3, 1)), by(5, check(0, 1), check(3, 2))}, 4},
		{[]api.Link{by(12, check(0, 1), check(3, 1)), by(5, check(0, 2), check(3, 1))}, 4},
		// Two that do not.
		{[]api.Link{epochs(0, 3, 255), epochs(0, 2, 255)}, 0},
		{[]api.Link{epochs(0, 3, 255), epochs(1, 4, 255)}, 0},
		{[]api.Link{epochs(0, 3, 255), epochs(3, 4, 255)}, 0},
		{[]api.Link{epochs(0, 3, 255), epochs(4, 5, 255)}, 0},
		// Three, of which one clashes with both others, which do not clash.
		{[]api.Link{epochs(0, 9, 255), epochs(1, 2, 1), epochs(3, 4, 128)}, 129},
		{[]api.Link{epochs(1, 2, 1), epochs(0, 9, 3), epochs(3, 4, 6)}, 3},
		{[]api.Link{epochs(1, 2, 4), epochs(3, 4, 4), epochs(0, 9, 3)}, 0},
		{[]api.Link{epochs(2, 5, 7), epochs(0, 5, 1), epochs(3, 4, 2)}, 3},
		// Three, of which two clash around one that clashes with none of them.
		{[]api.Link{epochs(0, 7, 1), epochs(0, 4, 1), epochs(1, 3, 0), epochs(0, 2, 1)}, 0},
		{[]api.Link{epochs(0, 9, 2), epochs(3, 4, 1), epochs(1, 2, 3)}, 2},
		{[]api.Link{epochs(0, 9, 1), epochs(1, 4, 3), epochs(2, 3, 2)}, 3},
		{[]api.Link{epochs(2, 3, 1), epochs(2, 4, 1), epochs(2, 5, 1), epochs(1, 6, 1)}, 1},
		{[]api.Link{epochs(2, 3, 1), epochs(3, 4, 1), epochs(3, 5, 1), epochs(2, 6, 1)}, 1},
		{[]api.Link{epochs(1, 3, 2), epochs(3, 4, 1), epochs(0, 5, 2), epochs(4, 6, 1)}, 2},
		// Three of one target's epoch.
		{[]api.Link{epochs(0, 3, 5), epochs(1, 3, 6), epochs(2, 3, 9)}, 5},
		{[]api.Link{epochs(0, 3, 3), epochs(1, 3, 6), epochs(2, 3, 12)}, 6},
		// Links that may not be: two that are one, bits of nobody, epochs that do not rise.
		{[]api.Link{epochs(0, 3, 1), epochs(0, 3, 1)}, 0},
		{[]api.Link{epochs(0, 3, 255), epochs(0, 3, 255), epochs(0, 3, 255)}, 0},
		{[]api.Link{epochs(0, 3, 1), epochs(0, 3, 2), epochs(1, 2, 3)}, 3},
		{[]api.Link{epochs(0, 3, 3), epochs(1, 3, 1), epochs(0, 3, 3)}, 1},
		{[]api.Link{epochs(0, 3, last), epochs(1, 2, half|256)}, half | 256},
		{[]api.Link{epochs(0, 3, last), epochs(1, 2, last)}, last},
		{[]api.Link{epochs(0, 3, 0), epochs(1, 2, last)}, 0},
		{[]api.Link{epochs(2, 2, 3), epochs(1, 2, 6)}, 2},
		{[]api.Link{epochs(3, 2, 3), epochs(4, 1, 6)}, 2},
		{[]api.Link{epochs(3, 2, 3), epochs(4, 3, 6)}, 0},
		{[]api.Link{epochs(9, 0, 3), epochs(8, 1, 6), epochs(7, 2, 12)}, 6},
		{make([]api.Link, 3), 0},
		{slices.Repeat([]api.Link{{Mask: last}}, 20), 0},
	} {
		holdGuilty(t, c.l, c.want)
		holdGuilty(t, c.l, plainGuilty(c.l))
		slices.Reverse(c.l)
		holdGuilty(t, c.l, c.want)
	}
}

// P15.3: of two that clash wherever they stand among others that clash with none, by each bit alone.
func TestGuiltyWherever(t *testing.T) {
	// Both are around all of the line, of which none has that bit.
	for _, b := range []int{0, 1, 6, 7, 8, 32, 63} {
		bit := uint64(1) << b
		for i := range 16 {
			for j := range 16 {
				l := slices.Clone(line(16))
				for k := range l {
					l[k].Mask = last &^ bit
				}
				l = slices.Insert(l, i, by(bit, check(0, 1), check(99, 1)))
				l = slices.Insert(l, j, by(bit|1, check(0, 2), check(99, 2)))
				want := plainGuilty(l)
				if want&bit == 0 {
					t.Fatal(l, want)
				}
				holdGuilty(t, l, want)
			}
		}
	}
}

// P15.4: in whatever order they stand Guilty is the same, with one more no less, and with one fewer no more; those that are by P15.3 asked of each pair.
func TestGuiltyByOrder(t *testing.T) {
	chance := rand.New(rand.NewSource(151))
	for i := range 3000 {
		l := forth(chance, chance.Intn(18))
		if i%3 == 0 {
			l = mixed(chance, chance.Intn(24))
		}
		if i%5 == 0 {
			// Few bits each, so that few are guilty.
			for k := range l {
				l[k].Mask = 1 << chance.Intn(8)
			}
		}
		want := plainGuilty(l)
		holdGuilty(t, l, want)
		for range 4 {
			holdGuilty(t, shuffled(chance, l), want)
		}
		for n := range l {
			if part := Guilty(l[:n]); part&^want != 0 {
				t.Fatalf("Guilty(%v) = %d, of more %d", l[:n], part, want)
			}
			if part := Guilty(l[n:]); part&^want != 0 {
				t.Fatalf("Guilty(%v) = %d, of more %d", l[n:], part, want)
			}
		}
	}
}

// cast is that somebody attested a link.
type cast struct {
	k   api.Link
	val int
}

// P15.4: by all that was attested, one after the other, guilty are just those that attested two that clash.
func TestGuiltyByWhatWasPut(t *testing.T) {
	chance := rand.New(rand.NewSource(152))
	for range 800 {
		var all []cast
		var l []api.Link
		var guilty uint64
		for range 30 {
			c := cast{forth(chance, 1)[0], chance.Intn(8)}
			if next, e := Put(l, c.k.S, c.k.T, c.val); e == api.OK {
				l, all = next, append(all, c)
			} else if e != api.ErrFull {
				t.Fatal(l, c, e)
			}
			for _, o := range all {
				if e := all[len(all)-1]; o.val == e.val && plainClash(o.k, e.k) {
					guilty |= 1 << o.val
				}
			}
			holdGuilty(t, l, guilty)
			holdMay(t, l, true)
		}
		for _, c := range all {
			if Who(l, c.k.S, c.k.T)>>c.val&1 == 0 {
				t.Fatalf("%d attested %v, Who(%v) tells %d", c.val, c.k, l, Who(l, c.k.S, c.k.T))
			}
		}
	}
}

// small are all lists of so many of few links.
func small(n int) [][]api.Link {
	some := []api.Link{{}}
	for _, mask := range []uint64{1, 3} {
		some = append(some, epochs(0, 1, mask), epochs(1, 2, mask), epochs(0, 2, mask), by(mask, check(0, 2), check(2, 2)), by(mask, check(0, 1), check(3, 2)))
	}
	some = append(some, epochs(0, 1, 256), epochs(1, 1, 1), epochs(2, 1, 2))
	l := [][]api.Link{nil}
	for range n {
		var next [][]api.Link
		for _, x := range l {
			for _, k := range some {
				next = append(next, behind(x, k))
			}
		}
		l = next
	}
	return l
}

// P15.1 to P15.3: of all lists of few links, by the plain ways.
func TestAllSmall(t *testing.T) {
	more := append(small(1), []api.Link{epochs(1, 4, 1)}, []api.Link{epochs(0, 3, 1)}, []api.Link{by(1, check(2, 2), check(1, 1))})
	for n := range 4 {
		for i, l := range small(n) {
			for j, k := range more {
				if n < 3 || (i+j)%5 == 0 {
					holdPlain(t, l, k[0], i%10-1)
				}
			}
		}
	}
	for _, a := range small(2) {
		for _, b := range slices.Concat(small(0), small(1), small(2)) {
			holdSame(t, a, b, plainSame(a, b))
		}
	}
}

// P15.1 to P15.3: of many, by the plain ways, also where something may not be.
func TestMany(t *testing.T) {
	chance := rand.New(rand.NewSource(153))
	for i := range 8000 {
		var l []api.Link
		for _, k := range forth(chance, 1+chance.Intn(30)) {
			if next, e := plainPut(l, k.S, k.T, chance.Intn(8)); e == api.OK {
				l = next
			}
		}
		k := forth(chance, 1)[0]
		switch i % 12 {
		case 1:
			k = l[chance.Intn(len(l))]
		case 3:
			l = behind(l, l[chance.Intn(len(l))])
		case 5:
			l = masked(l, chance.Intn(len(l)), []uint64{0, 256, half, 255, 1}[chance.Intn(5)])
		case 7:
			k.T.Epoch = k.S.Epoch + uint64(chance.Intn(3)) - 1
		case 8:
			l = forth(chance, chance.Intn(19))
		case 9:
			l = mixed(chance, chance.Intn(19))
		case 10:
			k = mixed(chance, 1)[0]
		case 11:
			j := chance.Intn(len(l))
			l[j].T.Epoch = l[j].S.Epoch + uint64(chance.Intn(3)) - 1
		}
		holdPlain(t, l, k, chance.Intn(12)-2)
	}
}

// spoil changes all that can be reached from a list.
func spoil(l []api.Link, mark api.Link) {
	l = l[:cap(l)]
	for i := range l {
		l[i] = mark
	}
}

// around lays a list into another one, so that there is something ahead of it and behind it.
func around(l []api.Link, mark api.Link) (whole, piece []api.Link) {
	whole = slices.Concat([]api.Link{mark, mark}, l, []api.Link{mark, mark})
	return whole, whole[2 : 2+len(l)]
}

// R3: what is handed in stays as it was, around it too, also when what was answered is changed later; what was answered stays when what was handed in is changed.
func TestOwn(t *testing.T) {
	mark := by(77, check(70, 70), check(71, 71))
	other := by(66, check(60, 60), check(61, 61))
	for _, l := range slices.Concat(mayBe(), mayNotBe()) {
		for _, k := range slices.Concat(l[:min(len(l), 20)], []api.Link{mark, by(1, mark.T, mark.S), {}}) {
			for _, val := range []int{0, 7, 8} {
				whole, piece := around(l, mark)
				was := slices.Clone(whole)
				May(piece)
				Same(piece, whole)
				Who(piece, k.S, k.T)
				Guilty(piece)
				got, _ := Put(piece, k.S, k.T, val)
				want, _ := plainPut(l, k.S, k.T, val)
				if !plainSame(whole, was) || !plainSame(got, want) {
					t.Fatalf("%v was handed in, and is %v; answered was %v", was, whole, got)
				}
				spoil(got, other)
				if !plainSame(whole, was) {
					t.Fatalf("%v was handed in, and is changed with the answer to %v", was, whole)
				}
				got, _ = Put(piece, k.S, k.T, val)
				spoil(whole, other)
				if !plainSame(got, want) {
					t.Fatalf("%v was answered, and is changed with what was handed in to %v", want, got)
				}
			}
		}
	}
}

// R3: what is put onto one answer changes neither another answer nor what was put onto.
func TestPutOntoAnswers(t *testing.T) {
	for n := range 16 {
		base := holdPut(t, line(n), check(0, 50), check(1, 50), 1, behind(line(n), by(2, check(0, 50), check(1, 50))), api.OK)
		was := slices.Clone(base)
		var answers, wants [][]api.Link
		for i := range 6 {
			s, e := check(0, 51+i), check(9, 51+i)
			want, _ := plainPut(base, s, e, i)
			got, _ := Put(base, s, e, i)
			answers, wants = append(answers, got), append(wants, want)
			want, _ = plainPut(base, base[i%len(base)].S, base[i%len(base)].T, i)
			got, _ = Put(base, base[i%len(base)].S, base[i%len(base)].T, i)
			answers, wants = append(answers, got), append(wants, want)
		}
		if !plainSame(base, was) {
			t.Fatalf("%v was put onto, and is %v", was, base)
		}
		for i := range answers {
			if !plainSame(answers[i], wants[i]) {
				t.Fatalf("%v was answered, and is %v", wants[i], answers[i])
			}
		}
		// Whatever is behind an answer is nobody else's.
		for i := range answers {
			_ = append(answers[i], by(9, check(9, 9), check(10, 9)))
			spoil(answers[i], by(9, check(9, 9), check(10, 9)))
			for j := i + 1; j < len(answers); j++ {
				if !plainSame(answers[j], wants[j]) {
					t.Fatalf("answer %d is changed, and answer %d with it", i, j)
				}
			}
		}
		if !plainSame(base, was) {
			t.Fatalf("%v was put onto, and is %v with its answers", was, base)
		}
	}
}

// R3: Guilty puts nothing in order but its own.
func TestGuiltyLeavesOrder(t *testing.T) {
	l := []api.Link{epochs(5, 9, 1), epochs(0, 1, 1), epochs(3, 4, 2), epochs(1, 2, 1), epochs(0, 10, 4)}
	was := slices.Clone(l)
	holdGuilty(t, l, 0)
	if !plainSame(l, was) {
		t.Errorf("%v was handed in, and is %v", was, l)
	}
}

// R3: one list handed in twice.
func TestOneListTwice(t *testing.T) {
	l := line(3)
	holdSame(t, l, l, true)
	holdSame(t, l, l[:2], false)
	holdSame(t, l[:2], l[1:], false)
	holdClash(t, l[0], l[0], false)
}

// R5: each call answers the same again, whatever was asked between.
func TestAgain(t *testing.T) {
	a, b := []api.Link{epochs(0, 3, 5), epochs(1, 2, 6)}, []api.Link{epochs(0, 1, 7), epochs(1, 2, 7)}
	for range 50 {
		holdGuilty(t, a, 4)
		holdGuilty(t, b, 0)
		holdClash(t, a[0], a[1], true)
		holdClash(t, b[0], b[1], false)
		holdWho(t, a, check(1, 1), check(2, 2), 6)
		holdWho(t, b, check(1, 1), check(2, 2), 7)
		holdPut(t, a, check(1, 1), check(2, 2), 7, masked(a, 1, 134), api.OK)
		holdStays(t, b, check(1, 1), check(2, 2), 8, api.ErrVal)
		holdMay(t, a, true)
		holdMay(t, behind(a, a[0]), false)
	}
}

// P1: very many links, also where most clash, and where none does.
func TestVeryMany(t *testing.T) {
	const n = 300000
	rising, falling, nested, one := make([]api.Link, n), make([]api.Link, n), make([]api.Link, n), make([]api.Link, n)
	for i := range uint64(n) {
		rising[i] = epochs(i, i+1, 255)
		falling[n-1-i] = epochs(i, i+1, 255)
		nested[i] = epochs(i, 2*n-i, 1<<(i%64))
		one[i] = epochs(4, 5, 255)
	}
	for _, c := range []struct {
		l    []api.Link
		want uint64
	}{{rising, 0}, {falling, 0}, {nested, last}, {one, 0}} {
		holdMay(t, c.l, false)
		if got := Guilty(c.l); got != c.want {
			t.Errorf("Guilty of very many = %d, want %d", got, c.want)
		}
		if got := Who(c.l, c.l[n-1].S, c.l[n-1].T); got != c.l[n-1].Mask {
			t.Errorf("Who of very many = %d, want %d", got, c.l[n-1].Mask)
		}
		if got, e := Put(c.l, check(0, 1), check(1, 2), 0); e != api.ErrArg || !Same(got, c.l) {
			t.Errorf("Put onto very many: %v", e)
		}
		if Same(c.l, c.l[:n-1]) {
			t.Error("Same of very many, and one fewer")
		}
	}
}

// epochOf are few from one byte, at both ends.
func epochOf(b byte) uint64 { return uint64(int64(int8(b))) }

// linksOf are one of each five bytes: epochs, roots, a Mask, and a bit of it.
func linksOf(in []byte) []api.Link {
	var l []api.Link
	for ; len(in) >= 5; in = in[5:] {
		mask := uint64(in[3])
		if in[4] >= 128 {
			mask |= 1 << (in[4] % 64)
		}
		l = append(l, by(mask, check(epochOf(in[0]), int(in[2]%3)), check(epochOf(in[1]), int(in[2]/3%3))))
	}
	return l
}

// P1, P15.1 to P15.3: whatever the links, and whoever attests.
func FuzzLink(f *testing.F) {
	f.Add([]byte{}, []byte{}, 0)
	f.Add([]byte("\x00\x03\x01\x01\x00"), []byte("\x01\x02\x01\x01\x00"), 0)
	f.Add([]byte("\x00\x03\x01\x01\x00\x01\x02\x01\x03\x00\x02\x03\x01\x0f\x00"), []byte("\x01\xff\x01\x01\x00"), 7)
	f.Add([]byte("\x00\x01\x00\x01\x00\x00\x01\x01\x01\x00\x00\x01\x02\x01\x00\x00\x02\x00\x01\x00\x00\x02\x01\x01\x00"), []byte("\x00\x01\x04\x01\x00"), 8)
	f.Fuzz(func(t *testing.T, in, more []byte, val int) {
		// The plain ways hold each link against all others.
		l := linksOf(in[:min(len(in), 200)])
		next := linksOf(more[:min(len(more), 50)])
		for _, k := range append(next, api.Link{}) {
			holdPlain(t, l, k, val)
			holdPlain(t, l, k, val&7)
		}
		holdSame(t, l, next, plainSame(l, next))
		// The same, as far as they may be.
		var fits []api.Link
		for _, k := range l {
			want, e := plainPut(fits, k.S, k.T, int(k.Mask%8))
			fits = holdPut(t, fits, k.S, k.T, int(k.Mask%8), want, e)
		}
		holdMay(t, fits, true)
		for _, k := range append(next, fits...) {
			holdPlain(t, fits, k, val)
			holdPlain(t, fits, k, val&7)
		}
	})
}
