package sum_test

import (
	"bytes"
	"hash/crc32"
	"math/bits"
	"strings"
	"testing"

	"drumline/sum"
)

// reversed returns b with the bits of each byte in the opposite order.
func reversed(b []byte) []byte {
	l := make([]byte, len(b))
	for i, c := range b {
		l[i] = bits.Reverse8(c)
	}
	return l
}

// wanted works the sum out another way: the library's checksum has the same polynomial and the same inversions, but takes the bits of bytes and register in the opposite order.
func wanted(b []byte) uint32 {
	return bits.Reverse32(crc32.ChecksumIEEE(reversed(b)))
}

// noise returns n bytes without a pattern, always the same ones for the same seed.
func noise(seed uint64, n int) []byte {
	l := make([]byte, n)
	for i := range l {
		seed = seed*6364136223846793005 + 1442695040888963407
		l[i] = byte(seed >> 56)
	}
	return l
}

// samples lists byte strings of many lengths: none, single bytes, only zeros, only ones, and noise.
func samples() [][]byte {
	l := [][]byte{nil, {}, []byte("123456789"), []byte(strings.Repeat("drum", 5000))}
	for c := range 256 {
		l = append(l, []byte{byte(c)})
	}
	for n := range 90 {
		l = append(l, make([]byte, n), bytes.Repeat([]byte{0xff}, n), noise(uint64(n), n))
	}
	return append(l, noise(1, 4096), noise(2, 65537))
}

func TestOfExamples(t *testing.T) {
	for _, x := range []struct {
		in   string
		want uint32
	}{
		{"123456789", 0xfc891918},
		{"", 0},
		{"\x00", 0xb1f7404b},
		{"\xff", 0x000000ff},
		{"\x00\x00\x00\x00", 0x38fb2284},
		{"\xff\xff\xff\xff", 0xffffffff},
	} {
		if got := sum.Of([]byte(x.in)); got != x.want {
			t.Errorf("P201: Of(%q) = %08x; want %08x", x.in, got, x.want)
		}
	}
	if got := sum.Of(nil); got != 0 {
		t.Errorf("P201: Of(nil) = %08x; want 0", got)
	}
}

func TestOfAnyBytes(t *testing.T) {
	for _, b := range samples() {
		if got, want := sum.Of(b), wanted(b); got != want {
			t.Fatalf("P201: Of of %d bytes = %08x; want %08x", len(b), got, want)
		}
	}
}

func TestMoreOfNone(t *testing.T) {
	for _, s := range []uint32{0, 1, 5, 0x7fffffff, 0x80000000, 0xfc891918, 0xffffffff} {
		if got := sum.More(s, nil); got != s {
			t.Errorf("P201: More(%08x, nil) = %08x", s, got)
		}
		if got := sum.More(s, []byte{}); got != s {
			t.Errorf("P201: More(%08x, empty) = %08x", s, got)
		}
	}
}

func TestMoreAtEveryPlace(t *testing.T) {
	b := noise(7, 70)
	want := wanted(b)
	for i := range len(b) + 1 {
		if got := sum.More(sum.Of(b[:i]), b[i:]); got != want {
			t.Errorf("P201: More behind %d bytes = %08x; want %08x", i, got, want)
		}
	}
	var s uint32
	for i := range b {
		s = sum.More(s, b[i:i+1])
		if s != wanted(b[:i+1]) {
			t.Fatalf("P201: More byte by byte, behind byte %d: %08x", i, s)
		}
	}
}

// Any number is the sum of some 4 bytes, so More must go on from any number.
func TestMoreFromAnySum(t *testing.T) {
	for seed := range uint64(200) {
		head, tail := noise(seed, 4), noise(seed+1000, int(seed%9))
		if got, want := sum.More(wanted(head), tail), wanted(append(head, tail...)); got != want {
			t.Fatalf("P201: More(%08x, %x) = %08x; want %08x", wanted(head), tail, got, want)
		}
	}
}

func TestTable(t *testing.T) {
	l := sum.Table()
	if l[0] != 0 || l[1] != 0x04c11db7 || l[2] != 0x09823b6e || l[128] != 0x690ce0ee || l[255] != 0xb1f740b4 {
		t.Errorf("P201: Table: %08x %08x %08x %08x %08x", l[0], l[1], l[2], l[128], l[255])
	}
	opposite := crc32.MakeTable(crc32.IEEE)
	for i := range l {
		if want := bits.Reverse32(opposite[bits.Reverse8(uint8(i))]); l[i] != want {
			t.Errorf("P201: element %d of Table = %08x; want %08x", i, l[i], want)
		}
	}
}

func TestTableIsNew(t *testing.T) {
	l := sum.Table()
	l[1] = 0
	if again := sum.Table(); again[1] != 0x04c11db7 || sum.Of([]byte("123456789")) != 0xfc891918 {
		t.Error("rule 4: what is done to a table is seen by a later call")
	}
}

func TestSealExamples(t *testing.T) {
	for _, x := range []struct{ in, want string }{
		{"123456789", "123456789\xfc\x89\x19\x18"},
		{"", "\x00\x00\x00\x00"},
		{"\x00", "\x00\xb1\xf7\x40\x4b"},
		{"\xff", "\xff\x00\x00\x00\xff"},
	} {
		if got := sum.Seal([]byte(x.in)); string(got) != x.want {
			t.Errorf("P202: Seal(%q) = %x; want %x", x.in, got, x.want)
		}
	}
	if got := sum.Seal(nil); string(got) != "\x00\x00\x00\x00" {
		t.Errorf("P202: Seal(nil) = %x", got)
	}
}

func TestSealAndOpenAnyBytes(t *testing.T) {
	for _, b := range samples() {
		s := wanted(b)
		want := append(bytes.Clone(b), byte(s>>24), byte(s>>16), byte(s>>8), byte(s))
		got := sum.Seal(b)
		if !bytes.Equal(got, want) {
			t.Fatalf("P202: Seal of %d bytes is wrong", len(b))
		}
		if in, ok := sum.Open(got); !ok || !bytes.Equal(in, b) {
			t.Fatalf("P202: Open of %d sealed bytes: %d bytes, %v", len(b), len(in), ok)
		}
	}
}

// refuses checks that Open tells nothing but false.
func refuses(t *testing.T, why string, b []byte) {
	t.Helper()
	if in, ok := sum.Open(b); ok || len(in) != 0 {
		t.Errorf("P202: Open of %s (%x) = %x, %v; want no bytes, false", why, b, in, ok)
	}
}

func TestOpenTooShort(t *testing.T) {
	refuses(t, "nil", nil)
	for n := range 4 {
		refuses(t, "too few zeros", make([]byte, n))
		refuses(t, "too few ones", bytes.Repeat([]byte{0xff}, n))
		refuses(t, "too few bytes", []byte{1, 2, 3}[:n])
	}
}

// With 4 bytes nothing is left before the sum: only the sum of nothing fits.
func TestOpenFourBytes(t *testing.T) {
	if in, ok := sum.Open([]byte{0, 0, 0, 0}); !ok || len(in) != 0 {
		t.Errorf("P202: Open of nothing, sealed = %x, %v", in, ok)
	}
	for i := range 32 {
		b := make([]byte, 4)
		b[i/8] = 1 << (i % 8)
		refuses(t, "a wrong sum of nothing", b)
	}
	refuses(t, "a wrong sum of nothing", []byte{0xff, 0xff, 0xff, 0xff})
}

func TestOpenSpoiled(t *testing.T) {
	s := sum.Seal([]byte("123456789"))
	for i := range s {
		for v := 1; v < 256; v++ {
			b := bytes.Clone(s)
			b[i] ^= byte(v)
			refuses(t, "a turned byte", b)
		}
		refuses(t, "a piece from the front", s[:i])
	}
	for i := 1; i < len(s); i++ {
		refuses(t, "a piece from the back", s[i:])
	}
	refuses(t, "one byte too many", append(bytes.Clone(s), 0))
	refuses(t, "a sum with its least significant byte first", []byte("123456789\x18\x19\x89\xfc"))
	refuses(t, "a sum that was not inverted", []byte("123456789\x03\x76\xe6\xe7"))
	refuses(t, "a sum in the opposite order of bits", []byte("123456789\xcb\xf4\x39\x26"))
}

// held returns bytes with spare room behind them, and all of that room.
func held(b []byte) (part, room []byte) {
	room = append(bytes.Clone(b), noise(99, 16)...)
	return room[:len(b)], room
}

func TestArgumentsStay(t *testing.T) {
	for _, b := range [][]byte{{}, []byte("abc"), sum.Seal([]byte("abc")), sum.Seal(nil)} {
		part, room := held(b)
		before := bytes.Clone(room)
		sum.Of(part)
		sum.More(5, part)
		sum.Seal(part)
		sum.Open(part)
		if !bytes.Equal(room, before) {
			t.Errorf("rule 4: the argument %x became %x", before, room)
		}
	}
}

// spoil changes all of b, its spare room too.
func spoil(b []byte) {
	b = b[:cap(b)]
	for i := range b {
		b[i] ^= 0xff
	}
}

func TestResultsAreNew(t *testing.T) {
	for _, b := range [][]byte{{}, []byte("abc"), noise(3, 80)} {
		part, room := held(b)
		before := bytes.Clone(room)
		spoil(sum.Seal(part))
		if !bytes.Equal(room, before) {
			t.Error("rule 4: Seal answers memory of its argument")
		}
		part, room = held(sum.Seal(b))
		before = bytes.Clone(room)
		in, ok := sum.Open(part)
		spoil(in)
		if !ok || !bytes.Equal(room, before) {
			t.Error("rule 4: Open answers memory of its argument")
		}
	}
}

// turned returns b with the 32 bits from bit first on xored with pattern, its most significant bit first; bits behind the end fall away.
func turned(b []byte, first int, pattern uint32) []byte {
	l := bytes.Clone(b)
	for i := range 32 {
		at := first + i
		if pattern>>(31-i)&1 == 1 && at < 8*len(l) {
			l[at/8] ^= 0x80 >> (at % 8)
		}
	}
	return l
}

// rank counts how many of the numbers are independent under xor.
func rank(l []uint32) int {
	var held [32]uint32
	n := 0
	for _, v := range l {
		for v != 0 {
			top := bits.Len32(v) - 1
			if held[top] == 0 {
				held[top] = v
				n++
				break
			}
			v ^= held[top]
		}
	}
	return n
}

// The change of a sum is the xor of the changes that single bits make, so no pattern of a window leaves the sum as it was if the changes of its bits are independent.
func TestBurstsOfAnyPattern(t *testing.T) {
	for _, b := range [][]byte{{9}, noise(4, 2), make([]byte, 3), noise(5, 4), make([]byte, 40), noise(6, 84)} {
		s := sum.Of(b)
		for first := range max(8*len(b)-31, 1) {
			var changes []uint32
			for i := range min(32, 8*len(b)) {
				changes = append(changes, s^sum.Of(turned(b, first, 1<<(31-i))))
			}
			if rank(changes) != len(changes) {
				t.Errorf("P203: some pattern from bit %d of %d bytes on leaves the sum as it was", first, len(b))
			}
		}
	}
}

func TestBurstsChangeTheSum(t *testing.T) {
	patterns := []uint32{1, 0x80000000, 0x80000001, 0xffffffff, 0x04c11db7, 0x82608edb, 0xedb88320}
	for seed := range uint64(40) {
		n := noise(seed, 4)
		patterns = append(patterns, uint32(n[0])<<24|uint32(n[1])<<16|uint32(n[2])<<8|uint32(n[3])|1)
	}
	for _, b := range [][]byte{make([]byte, 5), noise(8, 33), noise(9, 84)} {
		s, sealed := sum.Of(b), sum.Seal(b)
		for first := range 8*len(b) - 31 {
			for _, p := range patterns {
				if sum.Of(turned(b, first, p)) == s {
					t.Fatalf("P203: %08x at bit %d of %d bytes leaves the sum as it was", p, first, len(b))
				}
				if _, ok := sum.Open(turned(sealed, first, p)); ok {
					t.Fatalf("P203: Open takes %d bytes with %08x turned at bit %d", len(b), p, first)
				}
			}
		}
	}
}

// The polynomial itself is 33 bits long: as a change, it is the shortest one that leaves the sum as it was.
func TestBurstOf33BitsMayPass(t *testing.T) {
	b := noise(10, 20)
	for first := range 8*len(b) - 32 {
		x := turned(turned(b, first, 0x80000000), first+1, 0x04c11db7)
		if sum.Of(x) != sum.Of(b) {
			t.Fatalf("P201: the polynomial at bit %d changes the sum", first)
		}
	}
}
