package wire_test

import (
	"bytes"
	"math"
	"math/big"
	"testing"

	"drumline/wire"
)

// widths lists those that a number may have, those just outside, and far ones.
func widths() []int {
	return []int{math.MinInt, -8, -7, -1, 0, 1, 2, 3, 4, 5, 6, 7, 8, 9, 15, 64, 256, 257, 1 << 32, 1<<32 + 1, math.MaxInt}
}

// spread lists numbers of every size, thick around the powers of 2, where the ranges of all widths end.
func spread() []int64 {
	l := []int64{258, -258, 0x0102030405060708, -0x0102030405060708, math.MinInt64, math.MinInt64 + 1, math.MaxInt64 - 1, math.MaxInt64}
	for k := range 63 {
		for d := int64(-2); d <= 2; d++ {
			l = append(l, 1<<k+d, -(1<<k)+d)
		}
	}
	return l
}

// noise returns n bytes without a pattern, always the same ones for the same seed.
func noise(seed uint64, n int) []byte {
	l := make([]byte, n)
	for i := range l {
		seed = seed*6364136223846793005 + 1442695040888963407
		l[i] = byte(seed >> 56)
	}
	return l
}

// samples lists byte strings of up to 9 bytes: none, every single byte, patterns at the edges of the ranges, and noise.
func samples() [][]byte {
	l := [][]byte{nil, {}}
	for c := range 256 {
		l = append(l, []byte{byte(c)})
	}
	for n := 1; n <= 9; n++ {
		zeros, ones := make([]byte, n), bytes.Repeat([]byte{0xff}, n)
		l = append(l, zeros, ones)
		for i := range n {
			for bit := range 8 {
				a, b := bytes.Clone(zeros), bytes.Clone(ones)
				a[i] ^= 1 << bit
				b[i] ^= 1 << bit
				l = append(l, a, b)
			}
		}
		for seed := range uint64(30) {
			l = append(l, noise(seed, n))
		}
	}
	return l
}

// power returns 2^k, as a number of any size.
func power(k int) *big.Int {
	return new(big.Int).Lsh(big.NewInt(1), uint(k))
}

// within reports whether low <= n < high.
func within(n, low, high *big.Int) bool {
	return low.Cmp(n) <= 0 && n.Cmp(high) < 0
}

// plainOf works out what Plain must answer, with numbers of any size.
func plainOf(n *big.Int, width int) ([]byte, bool) {
	if width < 1 || width > 7 || !within(n, new(big.Int), power(8*width)) {
		return nil, false
	}
	return n.FillBytes(make([]byte, width)), true
}

// signedOf does so for Signed.
func signedOf(n *big.Int, width int) ([]byte, bool) {
	if width < 1 || width > 7 {
		return nil, false
	}
	half := power(8*width - 1)
	if !within(n, new(big.Int).Neg(half), half) {
		return nil, false
	}
	if n.Sign() < 0 {
		n = new(big.Int).Add(n, power(8*width))
	}
	return n.FillBytes(make([]byte, width)), true
}

// numberOf works out what Number must answer.
func numberOf(b []byte) int64 {
	if len(b) < 1 || len(b) > 7 {
		return 0
	}
	return new(big.Int).SetBytes(b).Int64()
}

// offsetOf does so for Offset.
func offsetOf(b []byte) int64 {
	n := numberOf(b)
	if len(b) >= 1 && len(b) <= 7 && b[0] >= 128 {
		return new(big.Int).Sub(big.NewInt(n), power(8*len(b))).Int64()
	}
	return n
}

func TestPlainExamples(t *testing.T) {
	for _, x := range []struct {
		n     int64
		width int
		want  string
		ok    bool
	}{
		{258, 2, "\x01\x02", true},
		{258, 1, "", false},
		{258, 3, "\x00\x01\x02", true},
		{0, 1, "\x00", true},
		{0, 7, "\x00\x00\x00\x00\x00\x00\x00", true},
		{-1, 1, "", false},
		{-1, 7, "", false},
		{255, 1, "\xff", true},
		{256, 1, "", false},
		{65535, 2, "\xff\xff", true},
		{65536, 2, "", false},
		{0x01020304050607, 7, "\x01\x02\x03\x04\x05\x06\x07", true},
		{1<<56 - 1, 7, "\xff\xff\xff\xff\xff\xff\xff", true},
		{1 << 56, 7, "", false},
		{0, 0, "", false},
		{0, 8, "", false},
		{1, -1, "", false},
		{math.MinInt64, 1, "", false},
		{math.MaxInt64, 8, "", false},
	} {
		if got, ok := wire.Plain(x.n, x.width); string(got) != x.want || ok != x.ok {
			t.Errorf("P301: Plain(%d, %d) = %x, %v; want %x, %v", x.n, x.width, got, ok, x.want, x.ok)
		}
	}
}

func TestPlainAnyNumbers(t *testing.T) {
	for _, width := range widths() {
		for _, n := range spread() {
			want, ok := plainOf(big.NewInt(n), width)
			got, is := wire.Plain(n, width)
			if !bytes.Equal(got, want) || is != ok {
				t.Fatalf("P301: Plain(%d, %d) = %x, %v; want %x, %v", n, width, got, is, want, ok)
			}
			if ok && wire.Number(got) != n {
				t.Fatalf("P301: Number(%x) = %d; want %d", got, wire.Number(got), n)
			}
		}
	}
}

func TestNumberExamples(t *testing.T) {
	for _, x := range []struct {
		b    string
		want int64
	}{
		{"", 0},
		{"\x00", 0},
		{"\x80", 128},
		{"\xff", 255},
		{"\x01\x02", 258},
		{"\x00\x00\x01", 1},
		{"\xff\xff\xff\xff\xff\xff\xff", 1<<56 - 1},
		{"\x00\x00\x00\x00\x00\x00\x00\x01", 0},
		{"\x01\x02\x03\x04\x05\x06\x07\x08", 0},
		{"\xff\xff\xff\xff\xff\xff\xff\xff", 0},
	} {
		if got := wire.Number([]byte(x.b)); got != x.want {
			t.Errorf("P301: Number(%x) = %d; want %d", x.b, got, x.want)
		}
	}
	if wire.Number(nil) != 0 || wire.Number(noise(1, 1000)) != 0 {
		t.Error("P301: Number of no bytes, of many")
	}
}

func TestNumberAnyBytes(t *testing.T) {
	for _, b := range samples() {
		got := wire.Number(b)
		if got != numberOf(b) {
			t.Fatalf("P301: Number(%x) = %d; want %d", b, got, numberOf(b))
		}
		if back, ok := wire.Plain(got, len(b)); ok != (len(b) >= 1 && len(b) <= 7) || ok && !bytes.Equal(back, b) {
			t.Fatalf("P301: Plain(%d, %d) = %x, %v; want %x", got, len(b), back, ok, b)
		}
	}
}

func TestSignedExamples(t *testing.T) {
	for _, x := range []struct {
		n     int64
		width int
		want  string
		ok    bool
	}{
		{-1, 2, "\xff\xff", true},
		{-1, 7, "\xff\xff\xff\xff\xff\xff\xff", true},
		{258, 2, "\x01\x02", true},
		{-258, 3, "\xff\xfe\xfe", true},
		{0, 1, "\x00", true},
		{127, 1, "\x7f", true},
		{128, 1, "", false},
		{255, 1, "", false},
		{-128, 1, "\x80", true},
		{-129, 1, "", false},
		{1<<55 - 1, 7, "\x7f\xff\xff\xff\xff\xff\xff", true},
		{1 << 55, 7, "", false},
		{-(1 << 55), 7, "\x80\x00\x00\x00\x00\x00\x00", true},
		{-(1 << 55) - 1, 7, "", false},
		{0, 0, "", false},
		{0, 8, "", false},
		{-1, 8, "", false},
		{-1, -1, "", false},
		{math.MinInt64, 8, "", false},
		{math.MinInt64, 7, "", false},
		{math.MaxInt64, 7, "", false},
	} {
		if got, ok := wire.Signed(x.n, x.width); string(got) != x.want || ok != x.ok {
			t.Errorf("P302: Signed(%d, %d) = %x, %v; want %x, %v", x.n, x.width, got, ok, x.want, x.ok)
		}
	}
}

func TestSignedAnyNumbers(t *testing.T) {
	for _, width := range widths() {
		for _, n := range spread() {
			want, ok := signedOf(big.NewInt(n), width)
			got, is := wire.Signed(n, width)
			if !bytes.Equal(got, want) || is != ok {
				t.Fatalf("P302: Signed(%d, %d) = %x, %v; want %x, %v", n, width, got, is, want, ok)
			}
			if ok && wire.Offset(got) != n {
				t.Fatalf("P302: Offset(%x) = %d; want %d", got, wire.Offset(got), n)
			}
		}
	}
}

func TestOffsetExamples(t *testing.T) {
	for _, x := range []struct {
		b    string
		want int64
	}{
		{"", 0},
		{"\x7f", 127},
		{"\x80", -128},
		{"\xff", -1},
		{"\x00\xff", 255},
		{"\x80\x00", -32768},
		{"\x7f\xff\xff\xff\xff\xff\xff", 1<<55 - 1},
		{"\x80\x00\x00\x00\x00\x00\x00", -(1 << 55)},
		{"\xff\xff\xff\xff\xff\xff\xff", -1},
		{"\x00\x00\x00\x00\x00\x00\x00\x01", 0},
		{"\xff\xff\xff\xff\xff\xff\xff\xff", 0},
	} {
		if got := wire.Offset([]byte(x.b)); got != x.want {
			t.Errorf("P302: Offset(%x) = %d; want %d", x.b, got, x.want)
		}
	}
	if wire.Offset(nil) != 0 || wire.Offset(noise(1, 1000)) != 0 {
		t.Error("P302: Offset of no bytes, of many")
	}
}

func TestOffsetAnyBytes(t *testing.T) {
	for _, b := range samples() {
		got := wire.Offset(b)
		if got != offsetOf(b) {
			t.Fatalf("P302: Offset(%x) = %d; want %d", b, got, offsetOf(b))
		}
		if back, ok := wire.Signed(got, len(b)); ok != (len(b) >= 1 && len(b) <= 7) || ok && !bytes.Equal(back, b) {
			t.Fatalf("P302: Signed(%d, %d) = %x, %v; want %x", got, len(b), back, ok, b)
		}
	}
}

// stands checks what At and Bad answer.
func stands(t *testing.T, what string, r *wire.Reader, at int, bad bool) {
	t.Helper()
	if r.At() != at || r.Bad() != bad {
		t.Errorf("P303: %s: At %d, Bad %v; want %d, %v", what, r.At(), r.Bad(), at, bad)
	}
}

// silent checks that Take, Number and Offset read nothing, whatever they are asked for.
func silent(t *testing.T, what string, r *wire.Reader) {
	t.Helper()
	at, bad := r.At(), r.Bad()
	for _, n := range append(widths(), 0, 1, 2) {
		if got := r.Take(n); len(got) != 0 {
			t.Errorf("P303: %s: Take(%d) = %x; want no bytes", what, n, got)
		}
		if got := r.Number(n); got != 0 {
			t.Errorf("P303: %s: Number(%d) = %d; want 0", what, n, got)
		}
		if got := r.Offset(n); got != 0 {
			t.Errorf("P303: %s: Offset(%d) = %d; want 0", what, n, got)
		}
		stands(t, what, r, at, bad)
	}
}

func TestReaderExample(t *testing.T) {
	r := wire.New([]byte{1, 2, 3})
	stands(t, "a new reader", r, 0, false)
	if got := r.Number(2); got != 258 {
		t.Errorf("P303: Number(2) = %d; want 258", got)
	}
	stands(t, "behind Number(2)", r, 2, false)
	if got := r.Take(2); len(got) != 0 {
		t.Errorf("P303: Take(2) = %x; want no bytes", got)
	}
	stands(t, "behind Take(2)", r, 2, true)
	silent(t, "a bad reader", r)
}

func TestReaderOfNothing(t *testing.T) {
	for _, b := range [][]byte{nil, {}} {
		r := wire.New(b)
		stands(t, "a new reader of nothing", r, 0, false)
		if got := r.Take(0); len(got) != 0 {
			t.Errorf("P303: Take(0) of nothing = %x", got)
		}
		stands(t, "behind Take(0) of nothing", r, 0, false)
		if got := r.Number(1); got != 0 {
			t.Errorf("P303: Number(1) of nothing = %d", got)
		}
		stands(t, "behind Number(1) of nothing", r, 0, true)
	}
}

// behind returns a reader of b that has read its first k bytes.
func behind(b []byte, k int) *wire.Reader {
	r := wire.New(b)
	r.Take(k)
	return r
}

func TestTakeAnyCount(t *testing.T) {
	b := noise(11, 20)
	for k := range len(b) + 1 {
		for _, n := range append(widths(), 10, 11, 12, 19, 20, 21, math.MaxInt-k, math.MaxInt-k+1) {
			r := behind(b, k)
			got := r.Take(n)
			if n >= 0 && n <= len(b)-k {
				if !bytes.Equal(got, b[k:k+n]) {
					t.Errorf("P303: Take(%d) behind %d bytes = %x; want %x", n, k, got, b[k:k+n])
				}
				stands(t, "behind Take", r, k+n, false)
				continue
			}
			if len(got) != 0 {
				t.Errorf("P303: Take(%d) behind %d bytes = %x; want no bytes", n, k, got)
			}
			stands(t, "behind a Take that can't be read", r, k, true)
			silent(t, "a reader that Take made bad", r)
		}
	}
}

// checkRead checks one read of a number, at every place and of every width.
func checkRead(t *testing.T, name string, b []byte, read func(*wire.Reader, int) int64, of func([]byte) int64) {
	t.Helper()
	for k := range len(b) + 1 {
		for _, width := range widths() {
			r := behind(b, k)
			got := read(r, width)
			if width >= 1 && width <= 7 && width <= len(b)-k {
				if want := of(b[k : k+width]); got != want {
					t.Errorf("P303: %s(%d) of %x behind %d bytes = %d; want %d", name, width, b, k, got, want)
				}
				stands(t, "behind "+name, r, k+width, false)
				continue
			}
			if got != 0 {
				t.Errorf("P303: %s(%d) of %x behind %d bytes = %d; want 0", name, width, b, k, got)
			}
			stands(t, "behind a "+name+" that can't be read", r, k, true)
			silent(t, "a reader that "+name+" made bad", r)
		}
	}
}

func TestReadAnyNumber(t *testing.T) {
	for _, b := range [][]byte{nil, {200}, noise(12, 7), noise(13, 20), bytes.Repeat([]byte{0xff}, 12), make([]byte, 9)} {
		checkRead(t, "Number", b, (*wire.Reader).Number, numberOf)
		checkRead(t, "Offset", b, (*wire.Reader).Offset, offsetOf)
	}
}

func TestReadOneBehindTheOther(t *testing.T) {
	r := wire.New([]byte{5, 0xff, 0xfe, 7, 8, 9, 0x80, 1, 2, 3, 4, 5, 6, 7})
	if r.Number(1) != 5 || r.Offset(2) != -2 || len(r.Take(0)) != 0 || string(r.Take(3)) != "\x07\x08\x09" || r.Offset(1) != -128 {
		t.Error("P303: reading one behind the other")
	}
	stands(t, "in the middle", r, 7, false)
	if r.Number(7) != 0x01020304050607 {
		t.Error("P303: reading to the end")
	}
	stands(t, "at the end", r, 14, false)
	if len(r.Take(0)) != 0 {
		t.Error("P303: Take(0) at the end")
	}
	stands(t, "behind Take(0) at the end", r, 14, false)
	if r.Offset(1) != 0 {
		t.Error("P303: Offset behind the end")
	}
	stands(t, "behind the end", r, 14, true)
}

func TestReadersAreApart(t *testing.T) {
	b := []byte{1, 2, 3}
	bad, good := wire.New(b), wire.New(b)
	bad.Take(4)
	if string(good.Take(3)) != "\x01\x02\x03" {
		t.Error("rule 5: what one reader was asked for is seen by another one")
	}
	stands(t, "the bad one of two readers", bad, 0, true)
	stands(t, "the good one of two readers", good, 3, false)
}

func TestNilReader(t *testing.T) {
	var r *wire.Reader
	stands(t, "a nil reader", r, 0, false)
	silent(t, "a nil reader", r)
}

func TestReaderKeepsNoArgument(t *testing.T) {
	room := []byte{1, 2, 3, 4, 5}
	r := wire.New(room[:3])
	for i := range room {
		room[i] = 9
	}
	if r.Number(1) != 1 || r.Offset(1) != 2 || string(r.Take(1)) != "\x03" || r.Number(1) != 0 || !r.Bad() {
		t.Error("rule 4: the reader keeps its argument, or reads what is behind it")
	}
}

// spoil overwrites all of b, its spare room too, always with the same byte: a second spoiling must not undo the first one.
func spoil(b []byte) {
	b = b[:cap(b)]
	for i := range b {
		b[i] = 0xaa
	}
}

func TestTakenBytesAreNew(t *testing.T) {
	room := []byte{1, 2, 3, 4, 5, 6}
	r := wire.New(room[:5])
	spoil(r.Take(0))
	spoil(r.Take(2))
	if got := r.Take(3); string(got) != "\x03\x04\x05" {
		t.Errorf("rule 4: Take answers memory of the reader: then %x", got)
	}
	if string(room) != "\x01\x02\x03\x04\x05\x06" {
		t.Errorf("rule 4: the argument became %x", room)
	}
}

func TestWrittenBytesAreNew(t *testing.T) {
	plain, _ := wire.Plain(258, 2)
	spoil(plain)
	if again, ok := wire.Plain(258, 2); !ok || string(again) != "\x01\x02" {
		t.Error("rule 4: what is done to Plain's bytes is seen by a later call")
	}
	signed, _ := wire.Signed(-2, 2)
	spoil(signed)
	if again, ok := wire.Signed(-2, 2); !ok || string(again) != "\xff\xfe" {
		t.Error("rule 4: what is done to Signed's bytes is seen by a later call")
	}
}

func TestArgumentsStay(t *testing.T) {
	for _, b := range samples() {
		room := append(bytes.Clone(b), 7, 8, 9)
		before := bytes.Clone(room)
		part := room[:len(b)]
		wire.Number(part)
		wire.Offset(part)
		r := wire.New(part)
		r.Number(1)
		r.Offset(2)
		r.Take(1)
		r.Take(100)
		if !bytes.Equal(room, before) {
			t.Fatalf("rule 4: the argument %x became %x", before, room)
		}
	}
}
