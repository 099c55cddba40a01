package stake

import (
	"encoding/binary"
	"math"
	"math/big"
	"math/rand"
	"slices"
	"testing"
)

const (
	least    = math.MinInt
	greatest = math.MaxInt
	top      = uint64(1) << 40
	last     = uint64(math.MaxUint64)
	half     = uint64(1) << 63
)

// same are so many balances of one size.
func same(n int, b uint64) []uint64 {
	l := make([]uint64, n)
	for i := range l {
		l[i] = b
	}
	return l
}

// upTo are so many balances, all different, of which no two masks have the same sum.
func upTo(n int) []uint64 {
	var l []uint64
	for i := range n {
		l = append(l, 1<<i)
	}
	return l
}

// with are the balances with another one at a place.
func with(l []uint64, at int, b uint64) []uint64 {
	l = slices.Clone(l)
	l[at] = b
	return l
}

// some are balances that may be, the same for the same chance, with many that are alike, and the ends.
func some(chance *rand.Rand, n int) []uint64 {
	from := []uint64{0, 1, 1, 2, 3, 31, top/3 - 1, top / 3, top / 2, top - 1, top}
	var l []uint64
	for range n {
		if chance.Intn(3) == 0 {
			l = append(l, chance.Uint64()%(top+1))
		} else {
			l = append(l, from[chance.Intn(1+chance.Intn(len(from)))])
		}
	}
	return l
}

func mayBe() [][]uint64 {
	var out [][]uint64
	chance := rand.New(rand.NewSource(111))
	for n := 1; n <= 8; n++ {
		out = append(out, same(n, 0), same(n, 1), same(n, 3), same(n, top-1), same(n, top), upTo(n))
		for i := range n {
			for _, b := range []uint64{0, 1, top - 1, top} {
				out = append(out, with(upTo(n), i, b), with(same(n, 0), i, b), with(same(n, top), i, b))
			}
		}
		for range 8 {
			out = append(out, some(chance, n))
		}
	}
	return out
}

// mayNotBe are balances that may not be for one thing alone.
func mayNotBe() [][]uint64 {
	out := [][]uint64{nil, {}, make([]uint64, 0, 8), same(9, 0), same(9, 1), same(9, top), upTo(9), upTo(12), same(16, 1), upTo(40), same(64, 1), same(65, 1), same(256, 0), same(257, 1)}
	for n := 1; n <= 8; n++ {
		for i := range n {
			for _, b := range []uint64{top + 1, top + 2, 2 * top, 2*top + 1, 1 << 41, half - 1, half, half + 1, last - 1, last} {
				out = append(out, with(same(n, 0), i, b), with(upTo(n), i, b), with(same(n, top), i, b))
			}
		}
	}
	return append(out, same(8, top+1), same(8, last), same(8, half))
}

// masks are those of which something ends: none, each bit alone and all but it, all up to a bit, and all.
func masks() []uint64 {
	l := []uint64{0, last, last - 1, half - 1, half, half | 1, 0x5555555555555555, 0xaaaaaaaaaaaaaaaa}
	for v := range 64 {
		l = append(l, 1<<v, last^1<<v, 1<<v-1, last<<v)
	}
	return l
}

// has is the tests' own way to ask for a bit, by halves, not by shifts.
func has(mask uint64, v int) bool {
	for range v {
		mask /= 2
	}
	return mask%2 == 1
}

// plainMay is the tests' own.
func plainMay(bal []uint64) bool {
	for _, b := range bal {
		if b > top {
			return false
		}
	}
	return len(bal) != 0 && len(bal) < 9
}

// plainSum adds without an end, of balances that may be.
func plainSum(bal []uint64, mask uint64) *big.Int {
	out := new(big.Int)
	for v, b := range bal {
		if has(mask, v) {
			out.Add(out, new(big.Int).SetUint64(b))
		}
	}
	return out
}

// plainPart is the tests' own way to hold a part against so many thirds of a whole.
func plainPart(bal []uint64, mask uint64, thirds int64) bool {
	if !plainMay(bal) {
		return false
	}
	part := new(big.Int).Mul(big.NewInt(3), plainSum(bal, mask))
	return part.Cmp(new(big.Int).Mul(big.NewInt(thirds), plainSum(bal, last))) >= 0
}

func holdOf(t *testing.T, bal []uint64, mask, want uint64) {
	t.Helper()
	if got := Of(bal, mask); got != want {
		t.Errorf("Of(%v, %#x) = %d, want %d", bal, mask, got, want)
	}
}

func holdTotal(t *testing.T, bal []uint64, want uint64) {
	t.Helper()
	if got := Total(bal); got != want {
		t.Errorf("Total(%v) = %d, want %d", bal, got, want)
	}
}

func holdParts(t *testing.T, bal []uint64, mask uint64, most, some bool) {
	t.Helper()
	if got := Most(bal, mask); got != most {
		t.Errorf("Most(%v, %#x) = %v, want %v", bal, mask, got, most)
	}
	if got := Some(bal, mask); got != some {
		t.Errorf("Some(%v, %#x) = %v, want %v", bal, mask, got, some)
	}
}

func holdWho(t *testing.T, mask uint64, want ...int) {
	t.Helper()
	if got := Who(mask); !slices.Equal(got, want) {
		t.Errorf("Who(%#x) = %v, want %v", mask, got, want)
	}
}

// holdPlain holds all that is told of balances, and a mask, by the plain way.
func holdPlain(t *testing.T, bal []uint64, mask uint64) {
	t.Helper()
	if got, want := May(bal), plainMay(bal); got != want {
		t.Errorf("May(%v) = %v, want %v", bal, got, want)
	}
	of, total := uint64(0), uint64(0)
	if plainMay(bal) {
		of, total = plainSum(bal, mask).Uint64(), plainSum(bal, last).Uint64()
	}
	holdOf(t, bal, mask, of)
	holdTotal(t, bal, total)
	holdParts(t, bal, mask, plainPart(bal, mask, 2), plainPart(bal, mask, 1))
}

// holdNothing wants what is told of balances that may not be.
func holdNothing(t *testing.T, bal []uint64, mask uint64) {
	t.Helper()
	if May(bal) {
		t.Errorf("May(%v) is so", bal)
	}
	holdTotal(t, bal, 0)
	holdOf(t, bal, mask, 0)
	holdParts(t, bal, mask, false, false)
}

// P11.3: the chapter's example: of 1, 1 and 1 bits 0 and 2 are Most. And DOC.md's first one: two are two thirds, one is one third.
func TestExample(t *testing.T) {
	three := []uint64{1, 1, 1}
	holdParts(t, three, Bit(0)|Bit(2), true, true)
	for _, two := range []uint64{3, 5, 6} {
		holdOf(t, three, two, 2)
		holdParts(t, three, two, true, true)
	}
	for _, one := range []uint64{1, 2, 4} {
		holdOf(t, three, one, 1)
		holdParts(t, three, one, false, true)
	}
	holdParts(t, three, 7, true, true)
	holdParts(t, three, 0, false, false)
}

// P11.1: how many there are: none, 1, 8 and 9.
func TestMayByHowMany(t *testing.T) {
	for _, c := range []struct {
		bal  []uint64
		want bool
	}{
		{nil, false}, {[]uint64{}, false}, {make([]uint64, 0, 8), false},
		{[]uint64{0}, true}, {[]uint64{1}, true}, {[]uint64{top}, true},
		{same(2, 1), true}, {same(7, 1), true}, {same(8, 0), true}, {same(8, 1), true}, {same(8, top), true},
		{same(9, 0), false}, {same(9, 1), false}, {same(9, top), false}, {same(10, 1), false}, {same(64, 0), false},
		{same(8, 1)[:0], false}, {same(9, 1)[:8], true}, {make([]uint64, 8, 100), true},
		{same(256, 1), false}, {same(257, 1), false}, {same(264, 1), false}, {same(65537, 1), false},
	} {
		if got := May(c.bal); got != c.want {
			t.Errorf("May of %d, %v = %v, want %v", len(c.bal), c.bal[:min(len(c.bal), 9)], got, c.want)
		}
	}
}

// P11.1: how great each one is, in the first place, in the middle, and in the last one.
func TestMayByHowGreat(t *testing.T) {
	for n := 1; n <= 8; n++ {
		for i := range n {
			for _, others := range []uint64{0, 1, top} {
				for b, want := range map[uint64]bool{0: true, 1: true, top - 1: true, top: true, top + 1: false, 2 * top: false, 1 << 50: false, half: false, half + 1: false, last - 1: false, last: false} {
					if bal := with(same(n, others), i, b); May(bal) != want {
						t.Errorf("May(%v) = %v, want %v", bal, !want, want)
					}
				}
			}
		}
	}
	for bit := range 64 {
		if bal := []uint64{5, 1 << bit, 5}; May(bal) != (bit <= 40) {
			t.Errorf("May(%v) = %v", bal, May(bal))
		}
	}
}

// P11.1: 2 to the v, where v is from 0 to 63.
func TestBit(t *testing.T) {
	want := uint64(1)
	for v := range 64 {
		if got := Bit(v); got != want {
			t.Errorf("Bit(%d) = %d, want %d", v, got, want)
		}
		want *= 2
	}
	for v, want := range map[int]uint64{0: 1, 1: 2, 2: 4, 40: top, 62: half / 2, 63: half} {
		if got := Bit(v); got != want {
			t.Errorf("Bit(%d) = %d, want %d", v, got, want)
		}
	}
	for _, v := range []int{least, least + 1, least + 63, -1 << 32, -65, -64, -63, -2, -1, 64, 65, 127, 128, 256, 1 << 32, 1<<32 + 1, 1 << 62, greatest - 63, greatest - 1, greatest} {
		if got := Bit(v); got != 0 {
			t.Errorf("Bit(%d) = %d, want 0", v, got)
		}
	}
}

// P11.1: written out.
func TestWho(t *testing.T) {
	holdWho(t, 0)
	holdWho(t, 1, 0)
	holdWho(t, 2, 1)
	holdWho(t, half/2, 62)
	holdWho(t, half, 63)
	holdWho(t, half|1, 0, 63)
	holdWho(t, half|9, 0, 3, 63)
	holdWho(t, half|half/2|3, 0, 1, 62, 63)
	holdWho(t, 0xff, 0, 1, 2, 3, 4, 5, 6, 7)
	holdWho(t, 0x180, 7, 8)
	holdWho(t, 0x1_8000_0000, 31, 32)
	holdWho(t, 0x8001_0000_0000_8001, 0, 15, 48, 63)
	var whole []int
	for v := range 64 {
		holdWho(t, 1<<v, v)
		whole = append(whole, v)
	}
	holdWho(t, last, whole...)
	holdWho(t, last-1, whole[1:]...)
	holdWho(t, half-1, whole[:63]...)
}

// holdPlainWho wants each v whose bit the mask has, rising, and whose bits together are the mask again.
func holdPlainWho(t *testing.T, mask uint64) {
	t.Helper()
	var want []int
	for v := range 64 {
		if has(mask, v) {
			want = append(want, v)
		}
	}
	holdWho(t, mask, want...)
	var back uint64
	for _, v := range Who(mask) {
		if back&Bit(v) != 0 {
			t.Errorf("Who(%#x) has %d twice", mask, v)
		}
		back |= Bit(v)
	}
	if back != mask {
		t.Errorf("Who(%#x) comes to %#x", mask, back)
	}
}

// P11.1: of many.
func TestWhoOfMany(t *testing.T) {
	for _, mask := range masks() {
		holdPlainWho(t, mask)
	}
	for mask := range uint64(1 << 10) {
		holdPlainWho(t, mask)
		holdPlainWho(t, mask<<54)
		holdPlainWho(t, mask<<27)
	}
	chance := rand.New(rand.NewSource(112))
	for range 2000 {
		holdPlainWho(t, chance.Uint64())
		holdPlainWho(t, chance.Uint64()&chance.Uint64()&chance.Uint64())
	}
}

// P11.2: written out: of no bits, of one, of several, of all, and of some that are no place.
func TestOf(t *testing.T) {
	bal := []uint64{5, 70, 900, 0, 8000, 60000, 100000, top}
	for _, c := range []struct{ mask, want uint64 }{
		{0, 0}, {1, 5}, {2, 70}, {4, 900}, {8, 0}, {16, 8000}, {32, 60000}, {64, 100000}, {128, top},
		{3, 75}, {5, 905}, {6, 970}, {7, 975}, {9, 5}, {129, top + 5}, {255, top + 168975}, {127, 168975}, {254, top + 168970},
		{256, 0}, {257, 5}, {256 + 128, top}, {1<<9 | 1<<40, 0}, {half, 0}, {half | 128, top}, {half | 2, 70}, {last, top + 168975}, {last ^ 255, 0}, {last ^ 1, top + 168970}, {last ^ 128, 168975},
	} {
		holdOf(t, bal, c.mask, c.want)
	}
	holdTotal(t, bal, top+168975)
	holdOf(t, []uint64{7}, 1, 7)
	holdOf(t, []uint64{7}, 2, 0)
	holdOf(t, []uint64{7}, 3, 7)
	holdOf(t, []uint64{7}, last, 7)
	holdOf(t, []uint64{7}, last-1, 0)
	holdTotal(t, []uint64{7}, 7)
	holdTotal(t, []uint64{0}, 0)
	holdTotal(t, []uint64{top}, top)
}

// P11.2: each single bit, alone and beside all others, of as many balances as may be.
func TestOfEachBit(t *testing.T) {
	for n := 1; n <= 8; n++ {
		bal := upTo(n)
		whole := uint64(1)<<n - 1
		holdTotal(t, bal, whole)
		for v := range 64 {
			own := uint64(0)
			if v < n {
				own = 1 << v
			}
			holdOf(t, bal, 1<<v, own)
			holdOf(t, bal, last^1<<v, whole-own)
			holdOf(t, bal, 1|1<<v, 1|own)
		}
		for mask := range uint64(1 << 10) {
			holdOf(t, bal, mask, mask&whole)
			holdOf(t, bal, mask|half|1<<32, mask&whole)
		}
	}
}

// P11.2: what is behind the balances in what they are a piece of is none of them.
func TestOfPiece(t *testing.T) {
	whole := []uint64{100, 200, 1, 2, 4, 300, last, top}
	piece := whole[2:5]
	holdTotal(t, piece, 7)
	holdOf(t, piece, last, 7)
	holdOf(t, piece, 0x38, 0)
	holdOf(t, piece, 0x3c, 4)
	holdParts(t, piece, 0x3b, false, true)
	holdParts(t, piece, 0x3e, true, true)
}

// P11.2: eight balances of 2^40: all that there may be.
func TestOfTheGreatest(t *testing.T) {
	bal := same(8, top)
	holdTotal(t, bal, 1<<43)
	for mask := range uint64(256) {
		holdOf(t, bal, mask, uint64(len(Who(mask)))*top)
		holdOf(t, bal, mask|(last^255), uint64(len(Who(mask)))*top)
	}
	holdParts(t, bal, 0x3f, true, true)
	holdParts(t, bal, 0x1f, false, true)
	holdParts(t, bal, 0x07, false, true)
	holdParts(t, bal, 0x03, false, false)
	holdParts(t, bal, last^255, false, false)
}

// P11.3: just two thirds, just one third, and one less, of wholes that three divides, and of others.
func TestEdgesOfThirds(t *testing.T) {
	for _, c := range []struct {
		bal        []uint64
		most, some bool
	}{
		{[]uint64{2, 1}, true, true}, {[]uint64{1, 2}, false, true}, {[]uint64{1, 1}, false, true}, {[]uint64{0, 3}, false, false}, {[]uint64{3, 0}, true, true},
		{[]uint64{4, 2}, true, true}, {[]uint64{3, 3}, false, true}, {[]uint64{2, 4}, false, true}, {[]uint64{1, 5}, false, false},
		{[]uint64{5, 2}, true, true}, {[]uint64{4, 3}, false, true}, {[]uint64{3, 4}, false, true}, {[]uint64{2, 5}, false, false},
		{[]uint64{6, 2}, true, true}, {[]uint64{5, 3}, false, true}, {[]uint64{3, 5}, false, true}, {[]uint64{2, 6}, false, false},
		{[]uint64{1, 3}, false, false}, {[]uint64{3, 1}, true, true},
		{[]uint64{200, 100}, true, true}, {[]uint64{199, 101}, false, true}, {[]uint64{100, 200}, false, true}, {[]uint64{99, 201}, false, false},
		{[]uint64{top, top / 2}, true, true}, {[]uint64{top - 1, top / 2}, false, true}, {[]uint64{top, top/2 + 1}, false, true}, {[]uint64{top / 2, top}, false, true}, {[]uint64{top/2 - 1, top}, false, false},
		{[]uint64{top, top}, false, true}, {[]uint64{1, top}, false, false}, {[]uint64{top, 1}, true, true},
	} {
		for _, more := range []uint64{0, 4, 8, 256, half, last ^ 3} {
			holdParts(t, c.bal, 1|more, c.most, c.some)
		}
		// The same, turned round.
		turned := []uint64{c.bal[1], c.bal[0]}
		holdParts(t, turned, 2, c.most, c.some)
		// The same, spread over eight, with one that is 0.
		spread := []uint64{0, 0, c.bal[1] / 2, c.bal[0] / 3, 0, c.bal[0] - c.bal[0]/3, 0, c.bal[1] - c.bal[1]/2}
		holdParts(t, spread, 0x28, c.most, c.some)
		holdParts(t, spread, 0x7b, c.most, c.some)
	}
}

// P11.3: a part of one more, and one less, than each third, and a whole of one more, and one less.
func TestEdgesOfThirdsOfMany(t *testing.T) {
	for _, third := range []uint64{1, 2, 3, 100, 1 << 16, 1 << 31, 1 << 32, 1<<32 + 1, top/2 - 1} {
		for step := range uint64(3) {
			part := third + step - 1
			for more := range uint64(3) {
				rest := 2*third + more - 1
				whole := part + rest
				holdParts(t, []uint64{part, rest}, 1, 3*part >= 2*whole, 3*part >= whole)
				holdParts(t, []uint64{part, rest}, 2, 3*rest >= 2*whole, 3*rest >= whole)
			}
		}
	}
}

// P11.3: of balances that are all 0 each part is Most, and Some, none too.
func TestOfNoughts(t *testing.T) {
	for n := 1; n <= 8; n++ {
		bal := same(n, 0)
		holdTotal(t, bal, 0)
		for _, mask := range masks() {
			holdOf(t, bal, mask, 0)
			holdParts(t, bal, mask, true, true)
		}
	}
}

// P11.3: a part of nothing is no third, where there is anything; and all of it is.
func TestOfNoneAndOfAll(t *testing.T) {
	for _, bal := range mayBe() {
		nothing := Total(bal) == 0
		places := uint64(1)<<len(bal) - 1
		for _, none := range []uint64{0, 1 << len(bal), half, last ^ places} {
			holdParts(t, bal, none, nothing, nothing)
		}
		for _, whole := range []uint64{places, last, places | half, places | 1<<len(bal)} {
			holdParts(t, bal, whole, true, true)
		}
	}
}

// P11.1 to P11.3: of balances that may not be there is nothing.
func TestBalancesThatMayNotBe(t *testing.T) {
	few := []uint64{0, 1, 2, 3, 0x80, 0xff, 0x100, 0x1ff, half, half | 1, last - 1, last}
	for _, bal := range mayNotBe() {
		for _, mask := range few {
			holdNothing(t, bal, mask)
		}
	}
	for _, bal := range [][]uint64{nil, {}, same(9, 1), {top + 1}, {1, last, 1}, same(8, last)} {
		for _, mask := range masks() {
			holdNothing(t, bal, mask)
		}
	}
}

// P11.2: one that is too great is none of the mask's, but all of them may not be.
func TestOneThatIsTooGreatSpoilsAll(t *testing.T) {
	for n := 2; n <= 8; n++ {
		for i := range n {
			bal := with(same(n, 3), i, top+1)
			for _, mask := range []uint64{0, last, last ^ 1<<i, 1 << i, 1 << ((i + 1) % n)} {
				holdNothing(t, bal, mask)
			}
			bal[i] = top
			holdOf(t, bal, last^1<<i, uint64(n-1)*3)
		}
	}
}

// P11.1 to P11.3: of each up to four balances from 0 to 3, and each mask.
func TestOfAll(t *testing.T) {
	for n := range 5 {
		for choice := range 1 << (2 * n) {
			var bal []uint64
			for i := range n {
				bal = append(bal, uint64(choice>>(2*i))%4)
			}
			for mask := range uint64(1 << (n + 1)) {
				holdPlain(t, bal, mask)
				holdPlain(t, bal, mask|half)
			}
		}
	}
}

// P11.1 to P11.3: of many, by the plain way.
func TestOfMany(t *testing.T) {
	chance := rand.New(rand.NewSource(113))
	for _, bal := range slices.Concat(mayBe(), mayNotBe()) {
		for _, mask := range []uint64{0, 1, 0x55, 0xaa, 0xff, 0x100, last, half} {
			holdPlain(t, bal, mask)
		}
		for range 30 {
			holdPlain(t, bal, chance.Uint64())
			holdPlain(t, bal, chance.Uint64()%256)
		}
	}
}

// P11.2, P11.3: who is not in a mask is in the rest: both together are the whole, and one is Most if the other one is no more than one third.
func TestOfAMaskAndTheRest(t *testing.T) {
	for _, bal := range mayBe() {
		for mask := range uint64(256) {
			part, rest, whole := Of(bal, mask), Of(bal, last^mask), Total(bal)
			if part+rest != whole {
				t.Errorf("of %v, %#x has %d, and the rest %d, of %d", bal, mask, part, rest, whole)
			}
			if Most(bal, mask) != (3*rest <= whole) || Some(bal, mask) != (3*rest <= 2*whole) {
				t.Errorf("of %v, %#x is Most: %v, Some: %v, the rest is %d", bal, mask, Most(bal, mask), Some(bal, mask), rest)
			}
		}
	}
}

// P11.4: two that are Most have Some in common.
func TestTwoMostHaveSomeInCommon(t *testing.T) {
	for _, bal := range mayBe() {
		var most []uint64
		for mask := range uint64(1) << len(bal) {
			if Most(bal, mask) {
				most = append(most, mask)
			}
		}
		for _, a := range most {
			for _, b := range most {
				if !Some(bal, a&b) {
					t.Fatalf("of %v, %#x and %#x are Most, but have %#x in common", bal, a, b, a&b)
				}
			}
		}
	}
}

// P11.4: and no fewer: of 1, 1 and 1 two that are Most have just one in common, which is just Some.
func TestInCommonIsJustSome(t *testing.T) {
	three := []uint64{1, 1, 1}
	for _, c := range [][2]uint64{{3, 5}, {3, 6}, {5, 6}} {
		holdParts(t, three, c[0], true, true)
		holdParts(t, three, c[1], true, true)
		holdParts(t, three, c[0]&c[1], false, true)
		holdOf(t, three, c[0]&c[1], 1)
	}
}

// R3: what is handed in stays as it was, around it too.
func TestHandedInStays(t *testing.T) {
	for _, bal := range slices.Concat(mayBe(), mayNotBe()) {
		whole := slices.Concat([]uint64{777, 778}, bal, []uint64{779, 780})
		were := slices.Clone(whole)
		piece := whole[2 : 2+len(bal)]
		for _, mask := range []uint64{0, 1, 0xa5, 0xff, last} {
			May(piece)
			Total(piece)
			Of(piece, mask)
			Most(piece, mask)
			Some(piece, mask)
		}
		if !slices.Equal(whole, were) {
			t.Errorf("handed in %v, and it is now %v", were, whole)
		}
	}
}

// R3, R5: what Who answers is the caller's own: later changes to it change no other answer.
func TestWhoIsTheCallersOwn(t *testing.T) {
	for _, mask := range masks() {
		one, two := Who(mask), Who(mask)
		were := slices.Clone(two)
		one = one[:cap(one)]
		for i := range one {
			one[i] = 4242
		}
		if !slices.Equal(two, were) {
			t.Errorf("Who(%#x) was %v, and is now %v", mask, were, two)
		}
		holdWho(t, mask, were...)
		holdPlainWho(t, mask)
	}
}

// R5: each call answers the same again, whatever was asked between, and what is changed later is asked as it is then.
func TestAskedAgain(t *testing.T) {
	bal := []uint64{1, 2, 3, 4}
	for range 3 {
		holdTotal(t, bal, 10)
		holdOf(t, bal, 6, 5)
		holdParts(t, bal, 6, false, true)
		holdParts(t, bal, 12, true, true)
		holdNothing(t, same(9, 1), last)
		holdNothing(t, []uint64{last}, 1)
		holdWho(t, half|9, 0, 3, 63)
		holdWho(t, 0)
		holdOf(t, []uint64{7}, last, 7)
		if Bit(63) != half || Bit(64) != 0 || Bit(0) != 1 || Bit(-1) != 0 {
			t.Error("Bit")
		}
	}
	bal[3] = top + 1
	holdNothing(t, bal, 6)
	bal[3] = 0
	holdTotal(t, bal, 6)
	holdParts(t, bal, 6, true, true)
}

// P1: very many balances.
func TestVeryMany(t *testing.T) {
	for _, bal := range [][]uint64{same(1000000, 0), same(1000000, 1), same(1000000, last)} {
		if May(bal) || Total(bal) != 0 || Of(bal, last) != 0 || Most(bal, last) || Some(bal, last) || Most(bal, 0) || Some(bal, 0) {
			t.Errorf("very many of %d", bal[0])
		}
	}
}

// balancesOf are one of each eight bytes.
func balancesOf(in []byte) []uint64 {
	var l []uint64
	for ; len(in) >= 8; in = in[8:] {
		l = append(l, binary.LittleEndian.Uint64(in))
	}
	return l
}

// P1, P11.1 to P11.4: whatever the balances, the masks, and the number.
func FuzzStake(f *testing.F) {
	f.Add([]byte{}, uint64(0), uint64(0), 0)
	f.Add([]byte("12345678"), uint64(1), last, -1)
	f.Add([]byte("1\x00\x00\x00\x00\x00\x00\x001\x00\x00\x00\x00\x00\x00\x001\x00\x00\x00\x00\x00\x00\x00"), uint64(5), uint64(6), 64)
	f.Add([]byte("\x00\x00\x00\x00\x00\x01\x00\x00\x01\x00\x00\x00\x00\x01\x00\x00"), uint64(3), half, greatest)
	f.Fuzz(func(t *testing.T, in []byte, a, b uint64, v int) {
		want := uint64(0)
		if 0 <= v && v < 64 {
			want = new(big.Int).Exp(big.NewInt(2), big.NewInt(int64(v)), nil).Uint64()
		}
		if got := Bit(v); got != want {
			t.Errorf("Bit(%d) = %d, want %d", v, got, want)
		}
		holdPlainWho(t, a)
		hold := func(bal []uint64) {
			for _, mask := range []uint64{a, b, a & b, a | b, a % 256, b % 256} {
				holdPlain(t, bal, mask)
			}
			if Most(bal, a) && Most(bal, b) && !Some(bal, a&b) {
				t.Errorf("of %v, %#x and %#x are Most, but what they have in common is not Some", bal, a, b)
			}
		}
		bal := balancesOf(in)
		hold(bal)
		// The same, few enough and small enough to be.
		bal = bal[:min(len(bal), 8)]
		for i := range bal {
			bal[i] %= top + 1
		}
		hold(bal)
	})
}
