package wire

import (
	"bytes"
	"encoding/binary"
	"math"
	"math/rand"
	"slices"
	"strconv"
	"testing"

	"areopagus/api"
)

// Where each part stands. The tests hold to these, not to the package's own way along the bytes.
const (
	blockRoot   = 1
	blockParent = 33
	blockSlot   = 65
	blockJust   = 73

	attVal         = 1
	attSlot        = 3
	attHead        = 11
	attSourceEpoch = 43
	attSourceRoot  = 51
	attTargetEpoch = 83
	attTargetRoot  = 91
)

const greatest = uint64(math.MaxUint64)

func numbers() []uint64 {
	return []uint64{0, 1, 2, 127, 128, 255, 256, 257, 65535, 65536, 1 << 32, 1<<56 - 1, 1 << 56, 1<<63 - 1, 1 << 63, greatest - 1, greatest, 0x0102030405060708, 0xf1e2d3c4b5a69788}
}

// run is a root whose bytes go on from a first one, so that a byte at the wrong place is seen.
func run(first byte) api.Root {
	var r api.Root
	for i := range r {
		r[i] = first + byte(i)
	}
	return r
}

func filled(b byte) api.Root {
	return api.Root(bytes.Repeat([]byte{b}, 32))
}

func someBlock() api.Block {
	return api.Block{Root: run(10), Parent: run(60), Slot: 0xa1a2a3a4a5a6a7a8, Just: 0xb1b2b3b4b5b6b7b8}
}

func someAtt() api.Att {
	return api.Att{
		Val:    0xc1c2,
		Slot:   0xd1d2d3d4d5d6d7d8,
		Head:   run(10),
		Source: api.Check{Epoch: 0xe1e2e3e4e5e6e7e8, Root: run(60)},
		Target: api.Check{Epoch: 0xf1f2f3f4f5f6f7f8, Root: run(110)},
	}
}

func fullBlock() api.Block {
	return api.Block{Root: filled(255), Parent: filled(255), Slot: greatest, Just: greatest}
}

func fullAtt() api.Att {
	full := api.Check{Epoch: greatest, Root: filled(255)}
	return api.Att{Val: 65535, Slot: greatest, Head: filled(255), Source: full, Target: full}
}

// blockBytes are a block's, each part laid at its place.
func blockBytes(b api.Block) []byte {
	out := make([]byte, 81)
	out[0] = 1
	copy(out[blockRoot:], b.Root[:])
	copy(out[blockParent:], b.Parent[:])
	binary.BigEndian.PutUint64(out[blockSlot:], b.Slot)
	binary.BigEndian.PutUint64(out[blockJust:], b.Just)
	return out
}

// attBytes are an attestation's, each part laid at its place.
func attBytes(a api.Att) []byte {
	out := make([]byte, 123)
	out[0] = 2
	binary.BigEndian.PutUint16(out[attVal:], uint16(a.Val))
	binary.BigEndian.PutUint64(out[attSlot:], a.Slot)
	copy(out[attHead:], a.Head[:])
	binary.BigEndian.PutUint64(out[attSourceEpoch:], a.Source.Epoch)
	copy(out[attSourceRoot:], a.Source.Root[:])
	binary.BigEndian.PutUint64(out[attTargetEpoch:], a.Target.Epoch)
	copy(out[attTargetRoot:], a.Target.Root[:])
	return out
}

// blockOf reads 81 bytes, each part from its place.
func blockOf(b []byte) api.Block {
	return api.Block{
		Root:   api.Root(b[blockRoot:blockParent]),
		Parent: api.Root(b[blockParent:blockSlot]),
		Slot:   binary.BigEndian.Uint64(b[blockSlot:]),
		Just:   binary.BigEndian.Uint64(b[blockJust:]),
	}
}

// attOf reads 123 bytes, each part from its place.
func attOf(b []byte) api.Att {
	return api.Att{
		Val:    int(binary.BigEndian.Uint16(b[attVal:])),
		Slot:   binary.BigEndian.Uint64(b[attSlot:]),
		Head:   api.Root(b[attHead:attSourceEpoch]),
		Source: api.Check{Epoch: binary.BigEndian.Uint64(b[attSourceEpoch:]), Root: api.Root(b[attSourceRoot:attTargetEpoch])},
		Target: api.Check{Epoch: binary.BigEndian.Uint64(b[attTargetEpoch:]), Root: api.Root(b[attTargetRoot:])},
	}
}

// holdBlock holds that these are the block's bytes, and that it is theirs.
func holdBlock(t *testing.T, b api.Block, want []byte) {
	t.Helper()
	if got := PutBlock(b); !bytes.Equal(got, want) {
		t.Errorf("PutBlock(%x) = %x, want %x", b, got, want)
	}
	if got, is := Block(want); !is || got != b {
		t.Errorf("Block(%x) = %x, %v, want %x", want, got, is, b)
	}
	holdNoAtt(t, want)
}

// holdAtt holds that these are the attestation's bytes, and that it is theirs.
func holdAtt(t *testing.T, a api.Att, want []byte) {
	t.Helper()
	if got, is := PutAtt(a); !is || !bytes.Equal(got, want) {
		t.Errorf("PutAtt(%x) = %x, %v, want %x", a, got, is, want)
	}
	if got, is := Att(want); !is || got != a {
		t.Errorf("Att(%x) = %x, %v, want %x", want, got, is, a)
	}
	holdNoBlock(t, want)
}

func holdNoBlock(t *testing.T, b []byte) {
	t.Helper()
	if got, is := Block(b); is || got != (api.Block{}) {
		t.Errorf("Block of %d bytes, %x = %x, %v, want none", len(b), b, got, is)
	}
}

func holdNoAtt(t *testing.T, b []byte) {
	t.Helper()
	if got, is := Att(b); is || got != (api.Att{}) {
		t.Errorf("Att of %d bytes, %x = %x, %v, want none", len(b), b, got, is)
	}
}

func holdNone(t *testing.T, b []byte) {
	t.Helper()
	holdNoBlock(t, b)
	holdNoAtt(t, b)
}

// P3.1: bytes written out one by one.
func TestBlockWrittenOut(t *testing.T) {
	holdBlock(t, api.Block{Root: run(100), Parent: run(200), Slot: 0x0102030405060708, Just: 0x1112131415161718}, []byte{
		1,
		100, 101, 102, 103, 104, 105, 106, 107, 108, 109, 110, 111, 112, 113, 114, 115,
		116, 117, 118, 119, 120, 121, 122, 123, 124, 125, 126, 127, 128, 129, 130, 131,
		200, 201, 202, 203, 204, 205, 206, 207, 208, 209, 210, 211, 212, 213, 214, 215,
		216, 217, 218, 219, 220, 221, 222, 223, 224, 225, 226, 227, 228, 229, 230, 231,
		1, 2, 3, 4, 5, 6, 7, 8,
		17, 18, 19, 20, 21, 22, 23, 24,
	})
}

// P3.2: bytes written out one by one.
func TestAttWrittenOut(t *testing.T) {
	a := api.Att{
		Val:    0x0203,
		Slot:   0x0102030405060708,
		Head:   run(100),
		Source: api.Check{Epoch: 0x1112131415161718, Root: run(150)},
		Target: api.Check{Epoch: 0x2122232425262728, Root: run(200)},
	}
	holdAtt(t, a, []byte{
		2,
		2, 3,
		1, 2, 3, 4, 5, 6, 7, 8,
		100, 101, 102, 103, 104, 105, 106, 107, 108, 109, 110, 111, 112, 113, 114, 115,
		116, 117, 118, 119, 120, 121, 122, 123, 124, 125, 126, 127, 128, 129, 130, 131,
		17, 18, 19, 20, 21, 22, 23, 24,
		150, 151, 152, 153, 154, 155, 156, 157, 158, 159, 160, 161, 162, 163, 164, 165,
		166, 167, 168, 169, 170, 171, 172, 173, 174, 175, 176, 177, 178, 179, 180, 181,
		33, 34, 35, 36, 37, 38, 39, 40,
		200, 201, 202, 203, 204, 205, 206, 207, 208, 209, 210, 211, 212, 213, 214, 215,
		216, 217, 218, 219, 220, 221, 222, 223, 224, 225, 226, 227, 228, 229, 230, 231,
	})
}

// P3.1 and P3.2: tags and lengths are api's.
func TestTagsAndLengths(t *testing.T) {
	b := PutBlock(someBlock())
	if len(b) != api.LenBlock || b[0] != api.TagBlock {
		t.Errorf("a block's: %d bytes, tag %d", len(b), b[0])
	}
	a, is := PutAtt(someAtt())
	if !is || len(a) != api.LenAtt || a[0] != api.TagAtt {
		t.Errorf("an attestation's: %d bytes, %v", len(a), is)
	}
}

// P3.1: the chapter's example.
func TestLastByteOfBlockIsLowestOfJust(t *testing.T) {
	for n := range 256 {
		b := someBlock()
		b.Just = b.Just>>8<<8 | uint64(n)
		put := PutBlock(b)
		if put[80] != byte(n) || !bytes.Equal(put[:80], PutBlock(someBlock())[:80]) {
			t.Errorf("the lowest byte of Just is %d: %x", n, put)
		}
		if got, is := Block(put); !is || got != b {
			t.Errorf("Block(%x) = %x, %v", put, got, is)
		}
	}
}

// P3.1 and P3.2: nothing but the tag is left of a zero one; the greatest of everything.
func TestZeroAndFull(t *testing.T) {
	zeroBlock, zeroAtt := make([]byte, 81), make([]byte, 123)
	zeroBlock[0], zeroAtt[0] = 1, 2
	holdBlock(t, api.Block{}, zeroBlock)
	holdAtt(t, api.Att{}, zeroAtt)
	fullBytes := slices.Repeat([]byte{255}, 123)
	holdBlock(t, fullBlock(), append([]byte{1}, fullBytes[:80]...))
	holdAtt(t, fullAtt(), append([]byte{2}, fullBytes[:122]...))
}

// P3.1: the numbers' edges at each place, among noughts, full ones and others.
func TestNumbersOfBlock(t *testing.T) {
	for _, from := range []api.Block{{}, fullBlock(), someBlock()} {
		for _, n := range numbers() {
			slot, just := from, from
			slot.Slot, just.Just = n, n
			holdBlock(t, slot, blockBytes(slot))
			holdBlock(t, just, blockBytes(just))
			for _, other := range numbers() {
				just.Slot = other
				holdBlock(t, just, blockBytes(just))
			}
		}
	}
}

// P3.2: the numbers' edges at each place, among noughts, full ones and others.
func TestNumbersOfAtt(t *testing.T) {
	for _, from := range []api.Att{{}, fullAtt(), someAtt()} {
		for _, n := range numbers() {
			slot, source, target := from, from, from
			slot.Slot, source.Source.Epoch, target.Target.Epoch = n, n, n
			holdAtt(t, slot, attBytes(slot))
			holdAtt(t, source, attBytes(source))
			holdAtt(t, target, attBytes(target))
			for _, other := range numbers() {
				source.Slot, source.Target.Epoch = other, ^other
				holdAtt(t, source, attBytes(source))
			}
		}
	}
}

// P3.1 and P3.2, the word 'number': each bit alone stands where the highest byte is first.
func TestEachBitOfNumber(t *testing.T) {
	for bit := range 64 {
		n := uint64(1) << bit
		b := PutBlock(api.Block{Slot: n})
		a, _ := PutAtt(api.Att{Target: api.Check{Epoch: n}})
		if b[blockSlot+7-bit/8] != 1<<(bit%8) || a[attTargetEpoch+7-bit/8] != 1<<(bit%8) {
			t.Errorf("bit %d: %x, %x", bit, b, a)
		}
		holdBlock(t, api.Block{Slot: n}, blockBytes(api.Block{Slot: n}))
		holdAtt(t, api.Att{Slot: n}, attBytes(api.Att{Slot: n}))
	}
}

// P3.2: each Val that may be.
func TestEachVal(t *testing.T) {
	for _, a := range []api.Att{{}, fullAtt(), someAtt()} {
		want := attBytes(a)
		for v := range 65536 {
			a.Val = v
			want[attVal], want[attVal+1] = byte(v/256), byte(v%256)
			if got, is := PutAtt(a); !is || !bytes.Equal(got, want) {
				t.Fatalf("Val %d: %x, %v, want %x", v, got, is, want)
			}
			if got, is := Att(want); !is || got != a {
				t.Fatalf("Val %d: %x, %v", v, got, is)
			}
		}
	}
}

// P3.2: the edges of Val, one by one.
func TestValEdges(t *testing.T) {
	for _, c := range []struct {
		val       int
		high, low byte
	}{{0, 0, 0}, {1, 0, 1}, {255, 0, 255}, {256, 1, 0}, {257, 1, 1}, {65280, 255, 0}, {65534, 255, 254}, {65535, 255, 255}} {
		a := someAtt()
		a.Val = c.val
		want := attBytes(someAtt())
		want[attVal], want[attVal+1] = c.high, c.low
		holdAtt(t, a, want)
	}
}

// P3.2: a Val that may not be, among them those whose two lowest bytes could pass for one.
func TestValThatMayNotBe(t *testing.T) {
	vals := []int{-1, -2, -255, -256, -65535, -65536, -65537, 65536, 65537, 65536 + 255, 2 * 65536, 1 << 24, math.MaxInt32, math.MinInt32, math.MinInt, math.MinInt + 1, math.MaxInt, math.MaxInt - 1}
	for shift := 16; shift < strconv.IntSize-1; shift++ {
		vals = append(vals, 1<<shift, -1<<shift, 1<<shift+5, -1<<shift+5)
	}
	for _, v := range vals {
		for _, a := range []api.Att{{}, fullAtt(), someAtt()} {
			a.Val = v
			if got, is := PutAtt(a); is || len(got) != 0 {
				t.Errorf("PutAtt with Val %d = %x, %v, want nothing", v, got, is)
			}
		}
	}
}

// P3.1 and P3.2: no other length is anybody's, whatever it begins with.
func TestEachLength(t *testing.T) {
	noughts := make([]byte, 400)
	tails := [][]byte{noughts, slices.Repeat([]byte{255}, 400), slices.Repeat(attBytes(someAtt()), 4), slices.Repeat(blockBytes(someBlock()), 5)}
	for _, tail := range tails {
		for n := range 400 {
			block := append([]byte{1}, tail[:n]...)
			att := append([]byte{2}, tail[:n]...)
			if len(block) == 81 {
				holdBlock(t, blockOf(block), block)
			} else {
				holdNone(t, block)
			}
			if len(att) == 123 {
				holdAtt(t, attOf(att), att)
			} else {
				holdNone(t, att)
			}
		}
	}
}

// P3.1 and P3.2: bytes of no length, one too short, one too long, far too long, and those of the other kind.
func TestBytesThatAreNones(t *testing.T) {
	block, att := blockBytes(someBlock()), attBytes(someAtt())
	far := make([]byte, 1<<20)
	for name, b := range map[string][]byte{
		"nil":                        nil,
		"empty":                      {},
		"the tag of a block":         {1},
		"the tag of an attestation":  {2},
		"a block, one too short":     block[:80],
		"a block without its tag":    block[1:],
		"a block, one too long":      append(slices.Clone(block), 0),
		"a block, one ahead":         append([]byte{1}, block...),
		"a block twice":              slices.Concat(block, block),
		"an att, one too short":      att[:122],
		"an att without its tag":     att[1:],
		"an att, one too long":       append(slices.Clone(att), 0),
		"an att, one ahead":          append([]byte{2}, att...),
		"an att twice":               slices.Concat(att, att),
		"a block, far too long":      append(slices.Clone(block), far...),
		"an att, far too long":       append(slices.Clone(att), far...),
		"a block as long as an att":  append(slices.Clone(block), far[:42]...),
		"an att as long as a block":  att[:81],
		"noughts as long as a block": far[:81],
		"noughts as long as an att":  far[:123],
	} {
		t.Run(name, func(t *testing.T) { holdNone(t, b) })
	}
	holdNoBlock(t, att)
	holdNoAtt(t, block)
}

// P3.1 and P3.2: each first byte but the tag.
func TestEachFirstByte(t *testing.T) {
	for _, block := range [][]byte{blockBytes(api.Block{}), blockBytes(fullBlock()), blockBytes(someBlock())} {
		for tag := range 256 {
			block[0] = byte(tag)
			if tag != 1 {
				holdNone(t, block)
			}
		}
	}
	for _, att := range [][]byte{attBytes(api.Att{}), attBytes(fullAtt()), attBytes(someAtt())} {
		for tag := range 256 {
			att[0] = byte(tag)
			if tag != 2 {
				holdNone(t, att)
			}
		}
	}
}

// P3.1, P3.2 and P3.3: each byte behind the tag is of one part alone, and is read as it is.
func TestEachByteChangedAlone(t *testing.T) {
	for place := 1; place < 81; place++ {
		for b := range 256 {
			block := blockBytes(someBlock())
			block[place] = byte(b)
			holdBlock(t, blockOf(block), block)
		}
	}
	for place := 1; place < 123; place++ {
		for b := range 256 {
			att := attBytes(someAtt())
			att[place] = byte(b)
			holdAtt(t, attOf(att), att)
		}
	}
}

// P3.3: by chance, the same each time.
func TestThereAndBack(t *testing.T) {
	chance := rand.New(rand.NewSource(3))
	for range 2000 {
		block, att := make([]byte, 81), make([]byte, 123)
		chance.Read(block)
		chance.Read(att)
		block[0], att[0] = 1, 2
		holdBlock(t, blockOf(block), block)
		holdAtt(t, attOf(att), att)
	}
}

// within lays bytes into others, so that there is something ahead of them and behind them.
func within(b []byte) (all, piece []byte) {
	all = slices.Concat([]byte{7, 8, 9}, b, []byte{1, 2, 3, 4, 5})
	return all, all[3 : 3+len(b)]
}

// R3: bytes that are handed in stay as they were, around them too, whether they are somebody's or not.
func TestBytesHandedInStay(t *testing.T) {
	block, att := blockBytes(someBlock()), attBytes(someAtt())
	for _, b := range [][]byte{block, att, block[:80], att[:122], block[1:], att[1:], {}} {
		all, piece := within(b)
		before := slices.Clone(all)
		Block(piece)
		Att(piece)
		if !bytes.Equal(all, before) {
			t.Errorf("handed in %x, now %x", before, all)
		}
	}
}

// R3: what was read hangs no more on the bytes.
func TestReadIsNew(t *testing.T) {
	block, att := blockBytes(someBlock()), attBytes(someAtt())
	b, _ := Block(block)
	a, _ := Att(att)
	clear(block)
	clear(att)
	if b != someBlock() || a != someAtt() {
		t.Errorf("read bytes were changed later, and now: %x, %x", b, a)
	}
}

// R3: no two answers share bytes, and none hangs on what was handed in; nor does what was put before show.
func TestPutIsNew(t *testing.T) {
	b, a := someBlock(), someAtt()
	first, second := PutBlock(b), PutBlock(b)
	third, _ := PutAtt(a)
	fourth, _ := PutAtt(a)
	b.Root[0], b.Slot = 99, 99
	a.Head[0], a.Val = 99, 99
	for _, l := range [][]byte{first, third} {
		for whole, i := l[:cap(l)], 0; i < len(whole); i++ {
			whole[i] = 238
		}
	}
	if !bytes.Equal(second, blockBytes(someBlock())) || !bytes.Equal(fourth, attBytes(someAtt())) {
		t.Errorf("answers share: %x, %x", second, fourth)
	}
	holdBlock(t, api.Block{}, blockBytes(api.Block{}))
	holdAtt(t, api.Att{}, attBytes(api.Att{}))
}

// P1, P3.1, P3.2 and P3.3: whatever the bytes, both end, and answer just if the bytes are somebody's.
func FuzzBytes(f *testing.F) {
	f.Add([]byte{})
	f.Add(blockBytes(someBlock()))
	f.Add(attBytes(someAtt()))
	f.Add(blockBytes(someBlock())[:80])
	f.Add(append(attBytes(someAtt()), 0))
	f.Fuzz(func(t *testing.T, b []byte) {
		if len(b) == 81 && b[0] == 1 {
			holdBlock(t, blockOf(b), b)
		} else {
			holdNoBlock(t, b)
		}
		if len(b) == 123 && b[0] == 2 {
			holdAtt(t, attOf(b), b)
		} else {
			holdNoAtt(t, b)
		}
	})
}

// P1, P3.2 and P3.3: whatever the attestation.
func FuzzAtt(f *testing.F) {
	f.Add(0, uint64(0), []byte{}, uint64(0), uint64(0))
	f.Add(65535, greatest, slices.Repeat([]byte{255}, 96), greatest, greatest)
	f.Add(65536, uint64(1), []byte{1, 2, 3}, uint64(255), uint64(256))
	f.Add(-1, uint64(1)<<56, []byte{}, uint64(1)<<63, uint64(3))
	f.Fuzz(func(t *testing.T, val int, slot uint64, roots []byte, source, target uint64) {
		a := api.Att{Val: val, Slot: slot, Source: api.Check{Epoch: source}, Target: api.Check{Epoch: target}}
		roots = roots[copy(a.Head[:], roots):]
		roots = roots[copy(a.Source.Root[:], roots):]
		copy(a.Target.Root[:], roots)
		if 0 <= val && val <= 65535 {
			holdAtt(t, a, attBytes(a))
		} else if got, is := PutAtt(a); is || len(got) != 0 {
			t.Errorf("PutAtt(%x) = %x, %v, want nothing", a, got, is)
		}
	})
}
