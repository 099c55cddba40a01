package num

import (
	"math/big"
	"testing"
)

const half = uint64(1) << 63

// thirdLast is a third of the greatest number, which three divides.
const thirdLast = last / 3

type checkedCase struct {
	a, b, want uint64
	fits       bool
}

func runChecked(t *testing.T, name string, call func(a, b uint64) (uint64, bool), cases []checkedCase) {
	t.Helper()
	for _, c := range cases {
		if got, fits := call(c.a, c.b); got != c.want || fits != c.fits {
			t.Errorf("%s(%d, %d) = %d, %v, want %d, %v", name, c.a, c.b, got, fits, c.want, c.fits)
		}
	}
}

// P1.1
func TestAdd(t *testing.T) {
	runChecked(t, "Add", Add, []checkedCase{
		{2, 3, 5, true},
		{0, 0, 0, true},
		{last, 0, last, true},
		{0, last, last, true},
		{last - 1, 1, last, true},
		{half, half - 1, last, true},
		{last, 1, 0, false},
		{1, last, 0, false},
		{half, half, 0, false},
		{half + 5, half, 0, false},
		{last, last, 0, false},
	})
}

// P1.1
func TestSub(t *testing.T) {
	runChecked(t, "Sub", Sub, []checkedCase{
		{5, 3, 2, true},
		{0, 0, 0, true},
		{7, 7, 0, true},
		{last, last, 0, true},
		{last, 0, last, true},
		{last, last - 1, 1, true},
		{half, 1, half - 1, true},
		{0, 1, 0, false},
		{3, 5, 0, false},
		{last - 1, last, 0, false},
		{0, last, 0, false},
		{half - 1, half, 0, false},
	})
}

// P1.1
func TestMul(t *testing.T) {
	runChecked(t, "Mul", Mul, []checkedCase{
		{2, 3, 6, true},
		{0, 0, 0, true},
		{0, last, 0, true},
		{last, 0, 0, true},
		{1, last, last, true},
		{last, 1, last, true},
		{3, thirdLast, last, true},
		{1 << 32, 1<<32 - 1, last - (1<<32 - 1), true},
		{1<<32 + 1, 1<<32 - 1, last, true},
		{half - 1, 2, last - 1, true},
		{1 << 32, 1 << 32, 0, false},
		{half, 2, 0, false},
		{2, half, 0, false},
		{3, thirdLast + 1, 0, false},
		{1<<32 + 1, 1 << 32, 0, false},
		{last, 2, 0, false},
		{last, last, 0, false},
	})
}

// P1.2
func TestUp(t *testing.T) {
	for _, c := range [][3]uint64{
		{2, 3, 5},
		{0, 0, 0},
		{last, 0, last},
		{last - 1, 1, last},
		{last - 2, 1, last - 1},
		{half, half - 1, last},
		{half, half, last},
		{last, 1, last},
		{1, last, last},
		{last, last, last},
	} {
		if got := Up(c[0], c[1]); got != c[2] {
			t.Errorf("Up(%d, %d) = %d, want %d", c[0], c[1], got, c[2])
		}
	}
}

// P1.2
func TestDown(t *testing.T) {
	for _, c := range [][3]uint64{
		{5, 3, 2},
		{0, 0, 0},
		{7, 7, 0},
		{last, 0, last},
		{last, last - 1, 1},
		{last, last, 0},
		{3, 5, 0},
		{0, 1, 0},
		{0, last, 0},
		{last - 1, last, 0},
	} {
		if got := Down(c[0], c[1]); got != c[2] {
			t.Errorf("Down(%d, %d) = %d, want %d", c[0], c[1], got, c[2])
		}
	}
}

// P1.3
func TestMostAndSome(t *testing.T) {
	for _, c := range []struct {
		part, whole uint64
		most, some  bool
	}{
		{2, 3, true, true},
		{1, 3, false, true},
		{0, 3, false, false},
		{0, 0, true, true},
		{1, 0, true, true},
		{last, 0, true, true},
		{0, 1, false, false},
		{1, 1, true, true},
		{1, 2, false, true},
		{2, 2, true, true},
		{3, 4, true, true},
		{2, 4, false, true},
		{1, 4, false, false},
		{4, 5, true, true},
		{3, 5, false, true},
		{5, 3, true, true},
		// Three times the part is 2^64 or more.
		{2 * thirdLast, last, true, true},
		{2*thirdLast - 1, last, false, true},
		{thirdLast + 1, last, false, true},
		{thirdLast + 1, 2, true, true},
		{last, last, true, true},
		{last, 1, true, true},
		// Three times the part is the last that one word holds, and three less.
		{thirdLast, last, false, true},
		{thirdLast - 1, last, false, false},
		// Twice the whole is just below, just, and just above 2^64.
		{thirdLast, half - 1, true, true},
		{thirdLast - 1, half - 1, false, true},
		{thirdLast, half, false, true},
		{thirdLast + 1, half, true, true},
		{thirdLast + 1, half + 1, true, true},
		{thirdLast + 1, half + 2, false, true},
		{0, half, false, false},
		{1, half, false, false},
		{0, last, false, false},
		{1, last, false, false},
	} {
		if got := Most(c.part, c.whole); got != c.most {
			t.Errorf("Most(%d, %d) = %v", c.part, c.whole, got)
		}
		if got := Some(c.part, c.whole); got != c.some {
			t.Errorf("Some(%d, %d) = %v", c.part, c.whole, got)
		}
	}
}

// edges are numbers around those at which a word, half of one, a third of one or two thirds of one ends.
func edges() []uint64 {
	var l []uint64
	for _, middle := range []uint64{0, 3, 6, 1 << 32, 1 << 40, thirdLast, half, 2 * thirdLast, last / 6, last - 2} {
		for off := range uint64(5) {
			l = append(l, middle+off-2)
		}
	}
	return l
}

func exact(a uint64) *big.Int { return new(big.Int).SetUint64(a) }

func times(n int64, a uint64) *big.Int { return new(big.Int).Mul(big.NewInt(n), exact(a)) }

func sameAsExact(t *testing.T, name string, a, b, got uint64, fits bool, want *big.Int) {
	t.Helper()
	if fits != want.IsUint64() || fits && got != want.Uint64() || !fits && got != 0 {
		t.Errorf("%s(%d, %d) = %d, %v, want %v", name, a, b, got, fits, want)
	}
}

// P1, P1.1, P1.2 and P1.3, held against numbers without an end.
func holdAgainstExact(t *testing.T, a, b uint64) {
	t.Helper()
	sum := new(big.Int).Add(exact(a), exact(b))
	rest := new(big.Int).Sub(exact(a), exact(b))
	n, ok := Add(a, b)
	sameAsExact(t, "Add", a, b, n, ok, sum)
	n, ok = Sub(a, b)
	sameAsExact(t, "Sub", a, b, n, ok, rest)
	n, ok = Mul(a, b)
	sameAsExact(t, "Mul", a, b, n, ok, new(big.Int).Mul(exact(a), exact(b)))
	if !sum.IsUint64() {
		sum = exact(last)
	}
	if rest.Sign() < 0 {
		rest = exact(0)
	}
	sameAsExact(t, "Up", a, b, Up(a, b), true, sum)
	sameAsExact(t, "Down", a, b, Down(a, b), true, rest)
	if Most(a, b) != (times(3, a).Cmp(times(2, b)) >= 0) {
		t.Errorf("Most(%d, %d) = %v", a, b, Most(a, b))
	}
	if Some(a, b) != (times(3, a).Cmp(exact(b)) >= 0) {
		t.Errorf("Some(%d, %d) = %v", a, b, Some(a, b))
	}
}

func TestEdgesAgainstExact(t *testing.T) {
	for _, a := range edges() {
		for _, b := range edges() {
			holdAgainstExact(t, a, b)
		}
	}
}

func TestSmallAgainstExact(t *testing.T) {
	for a := range uint64(40) {
		for b := range uint64(40) {
			holdAgainstExact(t, a, b)
		}
	}
}

func FuzzAgainstExact(f *testing.F) {
	f.Add(uint64(2), uint64(3))
	f.Add(last, thirdLast)
	f.Fuzz(func(t *testing.T, a, b uint64) { holdAgainstExact(t, a, b) })
}

// What two parts have in common at least is what they are more than the whole, together.
func holdCommon(t *testing.T, a, b, whole uint64) {
	t.Helper()
	if a > whole || b > whole || !Most(a, whole) || !Most(b, whole) {
		return
	}
	if common := Down(a, whole-b); !Some(common, whole) {
		t.Errorf("%d and %d of %d are Most, but %d is not Some", a, b, whole, common)
	}
}

// P1.4
func TestTwoMostHaveSomeInCommon(t *testing.T) {
	for whole := range uint64(30) {
		for a := range whole + 1 {
			for b := range whole + 1 {
				holdCommon(t, a, b, whole)
			}
		}
	}
	for _, whole := range edges() {
		for _, a := range edges() {
			for _, b := range edges() {
				holdCommon(t, a, b, whole)
			}
		}
	}
}
