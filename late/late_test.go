package late

import (
	"math"
	"math/rand"
	"slices"
	"testing"

	"areopagus/api"
)

const (
	least    = math.MinInt
	greatest = math.MaxInt
	top      = uint64(1) << 40
	last     = uint64(math.MaxUint64)
	half     = uint64(1) << 63
)

// name hangs on its number at both ends, so that half of a root is not taken for it.
func name(n int) api.Root { return api.Root{byte(n), 15: byte(n >> 8), 31: byte(n)} }

func check(n int) api.Check { return api.Check{Epoch: uint64(n), Root: name(n)} }

// att has no part that another number's has.
func att(n int, slot uint64) api.Att {
	return api.Att{Val: n, Slot: slot, Head: name(10*n + 1), Source: check(10*n + 2), Target: check(10*n + 3)}
}

// of are attestations of these slots, no two of one part but it.
func of(slots ...uint64) []api.Att {
	var l []api.Att
	for i, s := range slots {
		l = append(l, att(i+1, s))
	}
	return l
}

// from are those at these places.
func from(l []api.Att, places ...int) []api.Att {
	var out []api.Att
	for _, i := range places {
		out = append(out, l[i])
	}
	return out
}

// rising are so many, of slots 1, 3, 5 and so on.
func rising(n int) []api.Att {
	var slots []uint64
	for i := range n {
		slots = append(slots, uint64(2*i+1))
	}
	return of(slots...)
}

// with are the same with another one at a place.
func with(l []api.Att, i int, a api.Att) []api.Att {
	l = slices.Clone(l)
	l[i] = a
	return l
}

func behind(l []api.Att, a api.Att) []api.Att { return append(slices.Clone(l), a) }

func slotsThatMayBe() []uint64 { return []uint64{0, 1, 2, 1 << 32, top - 1, top} }

func slotsThatMayNot() []uint64 {
	return []uint64{top + 1, top + 2, top | 1<<39, 1<<41 - 1, 1 << 41, half, half + 1, last - 1, last}
}

// someSlot is one by chance, out of few, so that one comes twice.
func someSlot(chance *rand.Rand) uint64 {
	slots := []uint64{0, 1, 2, 3, 4, 5, 1 << 32, top - 1, top}
	return slots[chance.Intn(len(slots))]
}

func mixed(chance *rand.Rand, n int) []api.Att {
	var l []api.Att
	for range n {
		l = append(l, att(chance.Intn(4), someSlot(chance)))
	}
	return l
}

func mayBe() [][]api.Att {
	l := [][]api.Att{nil, {}, make([]api.Att, 0, 8)}
	chance := rand.New(rand.NewSource(131))
	for n := 1; n <= 6; n++ {
		l = append(l, rising(n), make([]api.Att, n))
		for i := range n {
			for _, s := range slotsThatMayBe() {
				l = append(l, with(rising(n), i, att(9, s)))
			}
		}
		for range 20 {
			l = append(l, mixed(chance, n))
		}
	}
	return l
}

// mayNotBe are too many, or of a slot that is too great, or both.
func mayNotBe() [][]api.Att {
	var l [][]api.Att
	for _, n := range []int{7, 8, 12, 16, 64, 256, 257, 262} {
		l = append(l, rising(n), make([]api.Att, n), with(rising(n), n-1, att(9, last)))
	}
	for n := 1; n <= 7; n++ {
		for i := range n {
			for _, s := range slotsThatMayNot() {
				l = append(l, with(rising(n), i, att(9, s)), with(make([]api.Att, n), i, api.Att{Slot: s}))
			}
		}
	}
	return l
}

// same is the tests' own, part by part.
func same(a, b []api.Att) bool {
	if len(a) != len(b) {
		return false
	}
	for i := range a {
		if a[i].Val != b[i].Val || a[i].Slot != b[i].Slot || a[i].Head != b[i].Head {
			return false
		}
		if a[i].Source.Epoch != b[i].Source.Epoch || a[i].Source.Root != b[i].Source.Root {
			return false
		}
		if a[i].Target.Epoch != b[i].Target.Epoch || a[i].Target.Root != b[i].Target.Root {
			return false
		}
	}
	return true
}

// plainMay is the tests' own.
func plainMay(l []api.Att) bool {
	n := 0
	for _, a := range l {
		if a.Slot/2 > 1<<39 || a.Slot == 1<<40+1 {
			return false
		}
		n++
	}
	return n < 7
}

// plainPut is the tests' own, by the words of P13.2, one after the other.
func plainPut(l []api.Att, a api.Att) ([]api.Att, api.Errno) {
	if !plainMay(l) {
		return l, 1
	}
	if !plainMay([]api.Att{a}) {
		return l, 1
	}
	if len(l) > 5 {
		return l, 3
	}
	return behind(l, a), 0
}

// plainDue is the tests' own: what is not due is taken out, and what is due.
func plainDue(l []api.Att, now uint64) ([]api.Att, []api.Att) {
	due := slices.DeleteFunc(slices.Clone(l), func(a api.Att) bool { return a.Slot >= now })
	rest := slices.DeleteFunc(slices.Clone(l), func(a api.Att) bool { return a.Slot < now })
	return due, rest
}

// plainNext is the tests' own: the first one when they are sorted.
func plainNext(l []api.Att) (uint64, bool) {
	var slots []uint64
	for _, a := range l {
		slots = append(slots, a.Slot)
	}
	slices.Sort(slots)
	for _, s := range slots {
		return s, true
	}
	return 0, false
}

func holdMay(t *testing.T, l []api.Att, want bool) {
	t.Helper()
	if got := May(l); got != want {
		t.Errorf("May(%v) = %v, want %v", l, got, want)
	}
}

func holdSame(t *testing.T, a, b []api.Att, want bool) {
	t.Helper()
	if got := Same(a, b); got != want {
		t.Errorf("Same(%v, %v) = %v, want %v", a, b, got, want)
	}
	if got := Same(b, a); got != want {
		t.Errorf("Same(%v, %v) = %v, want %v", b, a, got, want)
	}
}

// holdPut answers what it was put to, so that one may go on from there.
func holdPut(t *testing.T, l []api.Att, a api.Att, want []api.Att, e api.Errno) []api.Att {
	t.Helper()
	before := slices.Clone(l)
	got, gotE := Put(l, a)
	if !same(got, want) || gotE != e {
		t.Errorf("Put(%v, %v) = %v, %d, want %v, %d", l, a, got, gotE, want, e)
	}
	if !same(l, before) {
		t.Errorf("Put(%v, %v) left %v", before, a, l)
	}
	return got
}

// holdDue answers what waits still, so that one may go on from there.
func holdDue(t *testing.T, l []api.Att, now uint64, due, rest []api.Att) []api.Att {
	t.Helper()
	before := slices.Clone(l)
	gotDue, gotRest := Due(l, now)
	if !same(gotDue, due) || !same(gotRest, rest) {
		t.Errorf("Due(%v, %d) = %v, %v, want %v, %v", l, now, gotDue, gotRest, due, rest)
	}
	if !same(l, before) {
		t.Errorf("Due(%v, %d) left %v", before, now, l)
	}
	return gotRest
}

func holdNext(t *testing.T, l []api.Att, want uint64, wantIs bool) {
	t.Helper()
	before := slices.Clone(l)
	if got, is := Next(l); got != want || is != wantIs {
		t.Errorf("Next(%v) = %d, %v, want %d, %v", l, got, is, want, wantIs)
	}
	if !same(l, before) {
		t.Errorf("Next(%v) left %v", before, l)
	}
}

// holdPlain holds all but Same by the plain ways.
func holdPlain(t *testing.T, l []api.Att, a api.Att, now uint64) {
	t.Helper()
	holdMay(t, l, plainMay(l))
	want, e := plainPut(l, a)
	got := holdPut(t, l, a, want, e)
	if e == api.OK && !May(got) {
		t.Errorf("Put(%v, %v) = %v, which may not be", l, a, got)
	}
	due, rest := plainDue(l, now)
	holdDue(t, l, now, due, rest)
	holdDue(t, due, now, due, nil)
	holdDue(t, rest, now, nil, rest)
	next, is := plainNext(l)
	holdNext(t, l, next, is)
}

// P13.1, P13.2: the numbers that the document gives to the limits, and to the errors.
func TestNumbers(t *testing.T) {
	if api.OK != 0 || api.ErrArg != 1 || api.ErrFull != 3 || api.MaxLate != 6 || api.MaxSlot != 1<<40 {
		t.Error(api.OK, api.ErrArg, api.ErrFull, api.MaxLate, api.MaxSlot)
	}
}

// P13.2: the chapter's example: of slots 3 and 5, at 4: the first one is due.
func TestExample(t *testing.T) {
	l := of(3, 5)
	holdDue(t, l, 4, from(l, 0), from(l, 1))
	holdNext(t, l, 3, true)
}

// P13.1: no attestations, 1, 5, 6 and 7 of them, and many more.
func TestMayByHowMany(t *testing.T) {
	holdMay(t, nil, true)
	holdMay(t, []api.Att{}, true)
	holdMay(t, make([]api.Att, 0, 7), true)
	holdMay(t, make([]api.Att, 7)[:6], true)
	holdMay(t, rising(7)[1:], true)
	for n := range 300 {
		holdMay(t, rising(n), n <= 6)
		holdMay(t, make([]api.Att, n), n <= 6)
		// The same one so many times.
		holdMay(t, slices.Repeat(of(top), n), n <= 6)
	}
}

// P13.1: one of each slot that is an edge, as the first, a middle and the last one.
func TestMayBySlot(t *testing.T) {
	for n := 1; n <= 7; n++ {
		for i := range n {
			for _, s := range slotsThatMayBe() {
				holdMay(t, with(rising(n), i, att(1, s)), n <= 6)
				holdMay(t, with(make([]api.Att, n), i, att(1, s)), n <= 6)
			}
			for _, s := range slotsThatMayNot() {
				holdMay(t, with(rising(n), i, att(1, s)), false)
				holdMay(t, with(make([]api.Att, n), i, api.Att{Slot: s}), false)
			}
			for bit := range 64 {
				holdMay(t, with(rising(n), i, att(1, 1<<bit)), n <= 6 && bit <= 40)
			}
		}
	}
	holdMay(t, of(0), true)
	holdMay(t, of(1<<40), true)
	holdMay(t, of(1<<40+1), false)
	holdMay(t, of(1<<64-1), false)
	holdMay(t, of(1<<40, 1<<40, 1<<40, 1<<40, 1<<40, 1<<40), true)
	holdMay(t, of(1<<40, 1<<40, 1<<40, 1<<40, 1<<40, 1<<40+1), false)
	holdMay(t, of(1<<40+1, 1<<40+1), false)
}

// P13.1: no other part of an attestation tells whether it may be.
func TestMayByNothingElse(t *testing.T) {
	far := api.Check{Epoch: last, Root: name(1)}
	for _, a := range []api.Att{{Val: -1}, {Val: 8}, {Val: least}, {Val: greatest}, {Val: 65536}, {Head: name(1)}, {Source: far}, {Target: far}, {Source: far, Target: far}, {Source: far, Target: api.Check{Epoch: 1}}} {
		for _, l := range [][]api.Att{nil, rising(1), rising(5)} {
			holdMay(t, behind(l, a), true)
			holdPut(t, l, a, behind(l, a), api.OK)
		}
		holdMay(t, behind(rising(6), a), false)
	}
}

// P13.1: two things that may not be are no better than one.
func TestMayOfMany(t *testing.T) {
	for i, l := range mayBe() {
		holdMay(t, l, true)
		if !plainMay(l) {
			t.Errorf("list %d of mayBe", i)
		}
	}
	bad := mayNotBe()
	for i, l := range bad {
		holdMay(t, l, false)
		if plainMay(l) {
			t.Errorf("list %d of mayNotBe", i)
		}
		holdMay(t, slices.Concat(l, bad[(i*7+3)%len(bad)]), false)
	}
}

// changed are all ways in which one attestation may differ in one part alone.
func changed(a api.Att) []api.Att {
	var out []api.Att
	add := func(change func(a *api.Att)) {
		b := a
		change(&b)
		out = append(out, b)
	}
	for _, bit := range []int{0, 1, 7, 8, 31, 32, 62, 63} {
		add(func(a *api.Att) { a.Val ^= 1 << bit })
		add(func(a *api.Att) { a.Slot ^= 1 << bit })
		add(func(a *api.Att) { a.Source.Epoch ^= 1 << bit })
		add(func(a *api.Att) { a.Target.Epoch ^= 1 << bit })
	}
	for at := range a.Head {
		add(func(a *api.Att) { a.Head[at] ^= 1 })
		add(func(a *api.Att) { a.Source.Root[at] ^= 128 })
		add(func(a *api.Att) { a.Target.Root[at] ^= 16 })
	}
	return out
}

// P13.1: Same of lists that differ in one part of one attestation alone.
func TestSameByParts(t *testing.T) {
	for n := 1; n <= 8; n++ {
		for _, l := range [][]api.Att{rising(n), make([]api.Att, n)} {
			for i := range l {
				for _, b := range changed(l[i]) {
					holdSame(t, l, with(l, i, b), false)
				}
			}
		}
	}
	// What changes places between two parts is another one.
	a := att(1, 2)
	turned := a
	turned.Source, turned.Target = a.Target, a.Source
	holdSame(t, []api.Att{a}, []api.Att{turned}, false)
}

// P13.1: Same goes by how many there are; of none nil and empty are the same.
func TestSameByHowMany(t *testing.T) {
	for _, l := range slices.Concat(mayBe(), mayNotBe()) {
		holdSame(t, l, l, true)
		holdSame(t, l, slices.Clone(l), true)
		holdSame(t, l, behind(l, api.Att{}), false)
		holdSame(t, l, slices.Concat([]api.Att{{}}, l), false)
		if n := len(l); n > 0 {
			holdSame(t, l, behind(l, l[n-1]), false)
			holdSame(t, l, l[:n-1], false)
			holdSame(t, l, l[1:], false)
			holdSame(t, l, nil, false)
			holdSame(t, l, []api.Att{}, false)
		}
	}
	holdSame(t, nil, []api.Att{}, true)
	holdSame(t, nil, make([]api.Att, 0, 5), true)
	holdSame(t, nil, make([]api.Att, 5)[:0], true)
	holdSame(t, nil, make([]api.Att, 1), false)
}

// P13.1: Same goes by the order.
func TestSameByOrder(t *testing.T) {
	l := of(1, 2, 3, 4)
	holdSame(t, from(l, 0, 1), from(l, 1, 0), false)
	holdSame(t, from(l, 0, 1, 2), from(l, 0, 2, 1), false)
	holdSame(t, from(l, 0, 1, 2, 3), from(l, 3, 1, 2, 0), false)
	holdSame(t, from(l, 0, 0, 1), from(l, 0, 1, 1), false)
	holdSame(t, from(l, 0, 0, 1), from(l, 0, 1, 0), false)
	holdSame(t, from(l, 0, 1, 0), from(l, 0, 1, 0), true)
	all := mayBe()
	for i, a := range all {
		for k, b := range all {
			if got, want := Same(a, b), same(a, b); got != want {
				t.Errorf("Same of %d and %d, %v and %v = %v", i, k, a, b, got)
			}
		}
	}
}

// P13.2: onto none, onto 1, 5 and 6, of each slot that is an edge.
func TestPut(t *testing.T) {
	for _, s := range slotsThatMayBe() {
		a := att(9, s)
		for _, none := range [][]api.Att{nil, {}, make([]api.Att, 0, 9), rising(6)[:0]} {
			holdPut(t, none, a, []api.Att{a}, api.OK)
		}
		for n := range 6 {
			l := holdPut(t, rising(n), a, behind(rising(n), a), api.OK)
			if !May(l) {
				t.Errorf("Put onto %d, of slot %d: it may not be", n, s)
			}
		}
		holdPut(t, rising(6), a, rising(6), api.ErrFull)
		holdPut(t, make([]api.Att, 6), a, make([]api.Att, 6), api.ErrFull)
	}
	holdPut(t, nil, api.Att{}, []api.Att{{}}, api.OK)
	// One that is there goes in again: it is no error.
	holdPut(t, of(4), att(1, 4), from(of(4), 0, 0), api.OK)
}

// P13.2, R2: ErrArg of an attestation of a slot that is too great, also where there are 6.
func TestPutBeyond(t *testing.T) {
	for _, s := range slotsThatMayNot() {
		a := att(9, s)
		for n := range 8 {
			holdPut(t, rising(n), a, rising(n), api.ErrArg)
			holdPut(t, make([]api.Att, n), a, make([]api.Att, n), api.ErrArg)
		}
	}
}

// P13.2, P1, R2: of a list that may not be ErrArg is told, whatever is put: of 7 of them, too, and of 6 where one's slot is too great.
func TestPutOntoNone(t *testing.T) {
	for _, l := range mayNotBe() {
		for _, s := range []uint64{0, 5, top, top + 1, last} {
			holdPut(t, l, att(9, s), l, api.ErrArg)
			holdPut(t, l, api.Att{Slot: s}, l, api.ErrArg)
		}
	}
	holdPut(t, rising(7), att(9, 1), rising(7), api.ErrArg)
	holdPut(t, of(1, 2, 3, top+1, 5, 6), att(9, 1), of(1, 2, 3, top+1, 5, 6), api.ErrArg)
	holdPut(t, of(1, 2, 3, 4, 5, last), att(9, last), of(1, 2, 3, 4, 5, last), api.ErrArg)
}

// P13.2: one after the other, till there is no room.
func TestPutSixTimes(t *testing.T) {
	want := of(7, 0, top, 7, 3, 1)
	var l []api.Att
	for i, a := range want {
		l = holdPut(t, l, a, want[:i+1], api.OK)
	}
	for range 3 {
		l = holdPut(t, l, att(8, 2), want, api.ErrFull)
		l = holdPut(t, l, att(8, top+1), want, api.ErrArg)
	}
	// Behind those that were due there is room again.
	l = holdDue(t, l, 4, from(want, 1, 4, 5), from(want, 0, 2, 3))
	holdPut(t, l, att(8, 2), behind(from(want, 0, 2, 3), att(8, 2)), api.OK)
}

// P13.2: at now 0, 1, at the slot of one, one below and one above, at the ends.
func TestDueByNow(t *testing.T) {
	l := of(9, 0, 5, top, 6, 4)
	all := []int{0, 1, 2, 3, 4, 5}
	holdDue(t, l, 0, nil, l)
	holdDue(t, l, 1, from(l, 1), from(l, 0, 2, 3, 4, 5))
	holdDue(t, l, 3, from(l, 1), from(l, 0, 2, 3, 4, 5))
	holdDue(t, l, 4, from(l, 1), from(l, 0, 2, 3, 4, 5))
	holdDue(t, l, 5, from(l, 1, 5), from(l, 0, 2, 3, 4))
	holdDue(t, l, 6, from(l, 1, 2, 5), from(l, 0, 3, 4))
	holdDue(t, l, 7, from(l, 1, 2, 4, 5), from(l, 0, 3))
	holdDue(t, l, 9, from(l, 1, 2, 4, 5), from(l, 0, 3))
	holdDue(t, l, 10, from(l, 0, 1, 2, 4, 5), from(l, 3))
	holdDue(t, l, top-1, from(l, 0, 1, 2, 4, 5), from(l, 3))
	holdDue(t, l, top, from(l, 0, 1, 2, 4, 5), from(l, 3))
	holdDue(t, l, top+1, from(l, all...), nil)
	holdDue(t, l, half, from(l, all...), nil)
	holdDue(t, l, last, from(l, all...), nil)
}

// P13.2: of one slot, one below it and above it, for each that is an edge.
func TestDueOfOne(t *testing.T) {
	for _, s := range slices.Concat(slotsThatMayBe(), slotsThatMayNot()) {
		l := of(s)
		holdDue(t, l, s, nil, l)
		if s > 0 {
			holdDue(t, l, s-1, nil, l)
		}
		if s < last {
			holdDue(t, l, s+1, l, nil)
			holdDue(t, l, last, l, nil)
		}
		holdDue(t, l, 0, nil, l)
	}
	for _, now := range []uint64{0, 1, top, top + 1, last} {
		holdDue(t, nil, now, nil, nil)
		holdDue(t, []api.Att{}, now, nil, nil)
		holdDue(t, make([]api.Att, 0, 6), now, nil, nil)
	}
}

// P13.2: where several are of one slot, and where they alternate: both are in order.
func TestDueInOrder(t *testing.T) {
	l := of(2, 8, 2, 8, 2, 8)
	holdDue(t, l, 2, nil, l)
	holdDue(t, l, 3, from(l, 0, 2, 4), from(l, 1, 3, 5))
	holdDue(t, l, 8, from(l, 0, 2, 4), from(l, 1, 3, 5))
	holdDue(t, l, 9, l, nil)
	l = of(8, 2, 8, 2, 8, 2)
	holdDue(t, l, 5, from(l, 1, 3, 5), from(l, 0, 2, 4))
	l = of(4, 3, 2, 1, 0)
	holdDue(t, l, 2, from(l, 3, 4), from(l, 0, 1, 2))
	holdDue(t, l, 9, l, nil)
	l = of(7, 7, 7, 7, 7, 7)
	holdDue(t, l, 7, nil, l)
	holdDue(t, l, 8, l, nil)
	// The very same one more than once: each is due.
	l = slices.Repeat(of(3), 4)
	holdDue(t, l, 4, l, nil)
	holdDue(t, l, 3, nil, l)
}

// P13.2: each way to part up to eight, seven and eight of which may not be.
func TestDueOfEach(t *testing.T) {
	for n := range 9 {
		for mask := range 1 << n {
			var slots []uint64
			var due, rest []int
			for i := range n {
				if mask>>i&1 == 1 {
					slots, due = append(slots, uint64(9-i)), append(due, i)
				} else {
					slots, rest = append(slots, uint64(10+i)), append(rest, i)
				}
			}
			l := of(slots...)
			holdDue(t, l, 10, from(l, due...), from(l, rest...))
		}
	}
}

// P13.2: a list that may not be is parted as any other one, and has a least slot as any other one.
func TestDueAndNextOfNone(t *testing.T) {
	l := of(3, top+1, 1, last, 2, top, 3, 0)
	holdDue(t, l, 3, from(l, 2, 4, 7), from(l, 0, 1, 3, 5, 6))
	holdDue(t, l, top+1, from(l, 0, 2, 4, 5, 6, 7), from(l, 1, 3))
	holdDue(t, l, top+2, from(l, 0, 1, 2, 4, 5, 6, 7), from(l, 3))
	holdDue(t, l, last, from(l, 0, 1, 2, 4, 5, 6, 7), from(l, 3))
	holdNext(t, l, 0, true)
	holdNext(t, of(last), last, true)
	holdNext(t, of(last, top+1, half), top+1, true)
	holdNext(t, rising(7), 1, true)
	for _, l := range mayNotBe() {
		for _, now := range []uint64{0, 1, 2, 5, top, top + 1, half, last} {
			holdPlain(t, l, att(9, 4), now)
		}
	}
}

// P13.2: Next of none, of one, and where the least one is first, in the middle, last, twice, at slot 0.
func TestNext(t *testing.T) {
	holdNext(t, nil, 0, false)
	holdNext(t, []api.Att{}, 0, false)
	holdNext(t, make([]api.Att, 0, 6), 0, false)
	holdNext(t, rising(6)[:0], 0, false)
	for _, s := range slices.Concat(slotsThatMayBe(), slotsThatMayNot()) {
		holdNext(t, of(s), s, true)
		holdNext(t, of(s, s), s, true)
	}
	holdNext(t, of(0), 0, true)
	holdNext(t, of(2, 5, 7), 2, true)
	holdNext(t, of(5, 2, 7), 2, true)
	holdNext(t, of(7, 5, 2), 2, true)
	holdNext(t, of(7, 2, 5, 2), 2, true)
	holdNext(t, of(2, 2, 5, 7, 9, 11), 2, true)
	holdNext(t, of(9, 8, 7, 6, 5, 4), 4, true)
	holdNext(t, of(0, 5), 0, true)
	holdNext(t, of(5, 0), 0, true)
	holdNext(t, of(top, top-1, top), top-1, true)
	holdNext(t, of(1<<32, 1<<33, 1<<31), 1<<31, true)
	for n := 1; n <= 8; n++ {
		for i := range n {
			holdNext(t, with(slices.Repeat(of(9), n), i, att(3, 4)), 4, true)
			holdNext(t, with(slices.Repeat(of(9), n), i, att(3, 0)), 0, true)
		}
	}
}

// small are all lists of so many, of a few slots, some of which may not be.
func small(n int) [][]api.Att {
	lists := [][]uint64{nil}
	for range n {
		var next [][]uint64
		for _, l := range lists {
			for _, s := range []uint64{0, 1, 2, top, top + 1} {
				next = append(next, append(slices.Clone(l), s))
			}
		}
		lists = next
	}
	var all [][]api.Att
	for _, l := range lists {
		all = append(all, of(l...))
	}
	return all
}

// P13.1, P13.2: of all lists of up to four, by the plain way beside it.
func TestAllSmall(t *testing.T) {
	for n := range 5 {
		for i, l := range small(n) {
			for k, now := range []uint64{0, 1, 2, 3, top, top + 1, top + 2, last} {
				slots := slices.Concat(slotsThatMayBe(), slotsThatMayNot())
				holdPlain(t, l, att(9, slots[(i+k)%len(slots)]), now)
			}
		}
	}
}

// P13.1, P13.2: of many, by the plain way beside it.
func TestMany(t *testing.T) {
	chance := rand.New(rand.NewSource(132))
	for i := range 20000 {
		l := mixed(chance, chance.Intn(9))
		if len(l) > 0 && i%8 == 0 {
			l[chance.Intn(len(l))].Slot = chance.Uint64()
		}
		a := att(9, someSlot(chance))
		if i%5 == 0 {
			a.Slot = slotsThatMayNot()[chance.Intn(len(slotsThatMayNot()))]
		}
		holdPlain(t, l, a, someSlot(chance)+uint64(chance.Intn(3)))
	}
}

// P13.3: at Next none is due; behind it the least ones are, and Next of what waits still is greater.
func TestDueAtNext(t *testing.T) {
	for _, l := range slices.Concat(mayBe(), mayNotBe()) {
		next, is := Next(l)
		if !is {
			continue
		}
		holdDue(t, l, next, nil, l)
		holdDue(t, l, next/2, nil, l)
		if next == last {
			continue
		}
		due, rest := Due(l, next+1)
		if len(due) == 0 || len(due)+len(rest) != len(l) {
			t.Errorf("Due(%v, %d) = %v, %v", l, next+1, due, rest)
		}
		for _, a := range due {
			if a.Slot != next {
				t.Errorf("Due(%v, %d): %v", l, next+1, a)
			}
		}
		if after, is := Next(rest); is && after <= next {
			t.Errorf("Next(%v) = %d, behind %d", rest, after, next)
		}
	}
}

// holdOnce has each wait when it comes, asks by slots that rise, and wants each to be due once, when it is to be.
func holdOnce(t *testing.T, chance *rand.Rand, ticks int) {
	t.Helper()
	var l []api.Att
	var put, came, want []int
	slotOf := map[int]uint64{}
	for now := range uint64(ticks) {
		for range chance.Intn(3) {
			a := att(len(slotOf)+1, now+uint64(chance.Intn(5)))
			next, e := Put(l, a)
			slotOf[a.Val] = a.Slot
			if e == api.OK {
				put = append(put, a.Val)
			} else if e != api.ErrFull || len(l) != 6 {
				t.Fatalf("Put(%v, %v): %d", l, a, e)
			}
			l = next
		}
		want = nil
		for _, a := range l {
			if a.Slot < now {
				want = append(want, a.Val)
			}
		}
		due, rest := Due(l, now)
		var got []int
		for _, a := range due {
			got = append(got, a.Val)
		}
		if !slices.Equal(got, want) {
			t.Fatalf("at %d of %v: %v, want %v", now, l, got, want)
		}
		came, l = append(came, got...), rest
	}
	due, rest := Due(l, last)
	for _, a := range due {
		came = append(came, a.Val)
	}
	slices.Sort(came)
	if !slices.Equal(came, put) || len(rest) != 0 {
		t.Fatalf("%v were put, %v were due, %v wait still", put, came, rest)
	}
}

// P13.3: each is due once, whatever comes between.
func TestOnce(t *testing.T) {
	chance := rand.New(rand.NewSource(133))
	for range 500 {
		holdOnce(t, chance, 40)
	}
}

// R3: what is answered is the caller's own, with an error, too.
func TestPutOwn(t *testing.T) {
	for _, l := range slices.Concat(mayBe(), mayNotBe()) {
		for _, a := range []api.Att{att(9, 0), att(9, top), att(9, top+1)} {
			hand := slices.Clone(l)
			got, _ := Put(hand, a)
			holdApart(t, hand, l, got)
		}
	}
}

// R3: both answers are the caller's own, also where all are due, or none is; neither is gone on in by the other one.
func TestDueOwn(t *testing.T) {
	for _, l := range slices.Concat(mayBe(), mayNotBe()) {
		for _, now := range []uint64{0, 1, 4, 6, top, top + 1, last} {
			hand := slices.Clone(l)
			due, rest := Due(hand, now)
			holdApart(t, hand, l, due)
			holdApart(t, slices.Clone(l), l, rest)
			hand = slices.Clone(l)
			due, rest = Due(hand, now)
			holdApart(t, hand, l, rest)
			due, rest = Due(l, now)
			holdApart(t, due, slices.Clone(due), rest)
			due, rest = Due(l, now)
			holdApart(t, rest, slices.Clone(rest), due)
		}
	}
}

// holdApart changes what was answered, and what was handed in, and wants neither to be seen in the other one.
func holdApart(t *testing.T, hand, was, got []api.Att) {
	t.Helper()
	mark := att(77, 77)
	answer := slices.Clone(got)
	for i := range got {
		got[i] = mark
	}
	if !same(hand, was) {
		t.Fatalf("%v was handed in, and changed by its answer to %v", was, hand)
	}
	copy(got, answer)
	for i := range hand {
		hand[i] = mark
	}
	if !same(got, answer) {
		t.Fatalf("%v was answered, and changed by what was handed in to %v", answer, got)
	}
	// Behind the end of the one stands nothing of the other one either.
	for i := range hand[:cap(hand)] {
		hand[:cap(hand)][i] = mark
	}
	if !same(got, answer) {
		t.Fatalf("%v was answered, and changed behind the end of what was handed in to %v", answer, got)
	}
	clear(hand[:cap(hand)])
	for i := range got[:cap(got)] {
		got[:cap(got)][i] = mark
	}
	if slices.ContainsFunc(hand[:cap(hand)], func(a api.Att) bool { return a == mark }) {
		t.Fatalf("%v was handed in, and is gone on in by its answer", was)
	}
}

// R3: what is put onto an answer later changes nothing of it, nor of what another one was put onto.
func TestPutOntoAnswers(t *testing.T) {
	for n := range 5 {
		l, e := Put(rising(n), att(20, 5))
		if e != api.OK {
			t.Fatal(n, e)
		}
		want := behind(rising(n), att(20, 5))
		x := holdPut(t, l, att(21, 6), behind(want, att(21, 6)), api.OK)
		y := holdPut(t, l, att(22, 7), behind(want, att(22, 7)), api.OK)
		_ = append(l, att(23, 8))
		if !same(l, want) || !same(x, behind(want, att(21, 6))) || !same(y, behind(want, att(22, 7))) {
			t.Errorf("of %d: %v, %v, %v", n, l, x, y)
		}
	}
	l := of(1, 9, 1, 9)
	due, rest := Due(l, 5)
	x := holdPut(t, due, att(21, 6), behind(from(l, 0, 2), att(21, 6)), api.OK)
	y := holdPut(t, rest, att(22, 7), behind(from(l, 1, 3), att(22, 7)), api.OK)
	_, _ = append(due, att(23, 8)), append(rest, att(24, 8))
	if !same(due, from(l, 0, 2)) || !same(rest, from(l, 1, 3)) || !same(x, behind(from(l, 0, 2), att(21, 6))) || !same(y, behind(from(l, 1, 3), att(22, 7))) {
		t.Errorf("%v, %v, %v, %v", due, rest, x, y)
	}
}

// R3: a piece of a longer list: what stands behind stays.
func TestPiece(t *testing.T) {
	whole := of(1, 9, 2, 8, 3, 7, 4, 6)
	was := slices.Clone(whole)
	for first := range len(whole) {
		for end := first; end <= len(whole); end++ {
			piece := whole[first:end]
			holdPlain(t, piece, att(9, 5), 5)
			holdPlain(t, piece, att(9, top+1), 5)
			got, _ := Put(piece, att(9, 5))
			bad, _ := Put(piece, att(9, last))
			due, rest := Due(piece, 5)
			for _, l := range [][]api.Att{got, bad, due, rest} {
				_ = append(l, att(77, 77))
			}
			if !same(whole, was) {
				t.Fatalf("of %d to %d: %v", first, end, whole)
			}
		}
	}
}

// R5: asked again, with other ones asked between.
func TestAgain(t *testing.T) {
	l := of(3, 5)
	for i := range 50 {
		holdDue(t, l, 4, from(l, 0), from(l, 1))
		holdPut(t, l, att(i, uint64(i)), behind(l, att(i, uint64(i))), api.OK)
		holdNext(t, l, 3, true)
		holdDue(t, rising(i%9), 0, nil, rising(i%9))
		holdMay(t, l, true)
	}
}

// P1: very many attestations.
func TestVeryMany(t *testing.T) {
	l := make([]api.Att, 300000)
	for i := range l {
		l[i] = api.Att{Val: i, Slot: uint64(i%2)*5 + 1}
	}
	if May(l) || !Same(l, l) || Same(l, l[:299999]) || Same(l, l[1:]) {
		t.Error("very many")
	}
	if out, e := Put(l, api.Att{}); e != api.ErrArg || !Same(out, l) {
		t.Error(len(out), e)
	}
	due, rest := Due(l, 3)
	if len(due) != 150000 || len(rest) != 150000 {
		t.Error(len(due), len(rest))
	}
	for i := range due {
		if due[i] != l[2*i] || rest[i] != l[2*i+1] {
			t.Fatal(i, due[i], rest[i])
		}
	}
	holdNext(t, l[:1000], 1, true)
	if n, is := Next(l); n != 1 || !is {
		t.Error(n, is)
	}
}

// listOf is one attestation of each four bytes: who attests, its slot in two ways, and its roots and epochs.
func listOf(in []byte) []api.Att {
	var l []api.Att
	for ; len(in) >= 4; in = in[4:] {
		a := api.Att{Val: int(int8(in[0])), Slot: uint64(in[1]%8) << (in[2] % 64), Head: api.Root{in[3] % 2, 31: in[3] / 128}}
		a.Source = api.Check{Epoch: uint64(in[3] % 4), Root: api.Root{in[0] % 2}}
		a.Target = api.Check{Epoch: uint64(in[3] % 8), Root: api.Root{31: in[2] % 2}}
		l = append(l, a)
	}
	return l
}

// P1, P13.1 to P13.3: whatever the list, the attestation, and now.
func FuzzLate(f *testing.F) {
	f.Add([]byte{}, []byte{}, uint64(0), uint64(0), 0)
	f.Add([]byte("\x00\x03\x00\x00\x01\x05\x00\x00"), []byte("\x00\x03\x00\x00"), uint64(4), uint64(4), 1)
	f.Add([]byte("\x00\x01\x28\x00\x01\x01\x28\x01"), []byte("\x00\x01\x28\x00"), top, top+1, -1)
	f.Add([]byte("\x00\x01\x3f\x00\x01\x00\x28\x01"), []byte("\x00\x01\x3f\x00"), last, last, greatest)
	f.Fuzz(func(t *testing.T, in, other []byte, slot, now uint64, val int) {
		l, m := listOf(in), listOf(other)
		a := api.Att{Val: val, Slot: slot}
		holdPlain(t, l, a, now)
		holdPlain(t, l, a, slot)
		holdPlain(t, l, att(val%9, slot%(top+3)), now%9)
		holdSame(t, l, m, same(l, m))
		// The same, few enough, of slots that may be.
		l = l[:min(len(l), 6)]
		for i := range l {
			l[i].Slot %= top + 1
		}
		holdMay(t, l, true)
		holdPlain(t, l, a, now%(top+2))
		next, _ := Next(l)
		holdDue(t, l, next, nil, l)
		holdPlain(t, l, a, next+1)
		chance := rand.New(rand.NewSource(int64(now)))
		holdOnce(t, chance, int(slot%20))
	})
}
