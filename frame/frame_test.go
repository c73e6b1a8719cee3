package frame_test

import (
	"bytes"
	"encoding/binary"
	"math"
	"slices"
	"testing"

	"drumline/api"
	"drumline/frame"
	"drumline/sum"
)

// kinds lists the five kinds of a frame.
func kinds() []int { return []int{api.Cold, api.Sync, api.Gate, api.Member, api.Data} }

// number is a field of one number: its range, the kinds that have it, and how it is set.
type number struct {
	name      string
	low, high int64
	kinds     []int
	set       func(f *api.Frame, n int64)
}

// numbers lists the fields of one number, as the chapter's section 'Words' does.
func numbers() []number {
	return []number{
		{"Part", 0, 5, kinds(), func(f *api.Frame, n int64) { f.Part = int(n) }},
		{"Node", 0, 11, kinds(), func(f *api.Frame, n int64) { f.Node = int(n) }},
		{"Wait", 0, 60000, []int{api.Cold}, func(f *api.Frame, n int64) { f.Wait = int(n) }},
		{"Mask", 0, 4095, []int{api.Sync}, func(f *api.Frame, n int64) { f.Mask = int(n) }},
		{"Link", 0, 9, []int{api.Gate, api.Member, api.Data}, func(f *api.Frame, n int64) { f.Link = int(n) }},
		{"Cycle", 0, 1 << 40, []int{api.Sync, api.Gate}, func(f *api.Frame, n int64) { f.Cycle = n }},
		{"Offset", -1 << 40, 1 << 40, []int{api.Gate}, func(f *api.Frame, n int64) { f.Offset = n }},
		{"From", 0, 5, []int{api.Data}, func(f *api.Frame, n int64) { f.From = int(n) }},
		{"To", 0, 5, []int{api.Data}, func(f *api.Frame, n int64) { f.To = int(n) }},
		{"Seq", 1, 1 << 31, []int{api.Data}, func(f *api.Frame, n int64) { f.Seq = n }},
	}
}

// around lists numbers at the edges of a range, and those that have the same low bytes as one within it.
func around(low, high int64) []int64 {
	l := []int64{math.MinInt64, math.MinInt64 + 1, -256, -255, -1, 0, 1, 2, math.MaxInt64 - 1, math.MaxInt64}
	for d := int64(-2); d <= 2; d++ {
		l = append(l, low+d, high+d, (low+high)/2+d)
	}
	for k := 8; k < 63; k++ {
		l = append(l, low+1<<k, high+1<<k, low-1<<k, high-1<<k)
	}
	return l
}

// plain returns a valid frame of this kind, with as many zeros as may be.
func plain(kind int) api.Frame {
	f := api.Frame{Kind: kind}
	switch kind {
	case api.Sync, api.Member:
		f.Ages = []int{0}
	case api.Data:
		f.Seq = 1
	}
	return f
}

// rich returns valid frames of all kinds whose fields are different, at the ends of their ranges too.
func rich() []api.Frame {
	return []api.Frame{
		{Kind: api.Cold, Part: 1, Node: 2, Wait: 3},
		{Kind: api.Cold, Part: 5, Node: 11, Wait: 60000},
		{Kind: api.Cold, Part: 5, Node: 11, Wait: 258},
		{Kind: api.Sync, Ages: []int{0}},
		{Kind: api.Sync, Part: 2, Node: 3, Cycle: 0x010203040506 >> 1, Mask: 0xabc, Ages: []int{1, 2, 3, 4, 5, 6}},
		{Kind: api.Sync, Part: 5, Node: 11, Cycle: 1 << 40, Mask: 4095, Ages: []int{201, 201, 201, 201, 201, 201}},
		{Kind: api.Gate},
		{Kind: api.Gate, Part: 4, Node: 5, Link: 6, Flag: true, Cycle: 0x0a0b0c0d, Offset: 0x05060708},
		{Kind: api.Gate, Part: 4, Node: 5, Link: 9, Flag: true, Cycle: 1 << 40, Offset: -1 << 40},
		{Kind: api.Gate, Part: 4, Node: 5, Link: 9, Cycle: 1, Offset: 1 << 40},
		{Kind: api.Gate, Part: 4, Node: 5, Link: 9, Cycle: 1, Offset: -1},
		{Kind: api.Member, Ages: []int{0}},
		{Kind: api.Member, Part: 3, Node: 8, Link: 9, Ages: []int{201, 0, 128, 1}},
		{Kind: api.Data, Seq: 1},
		{Kind: api.Data, Part: 3, Node: 4, Link: 5, From: 1, To: 2, Seq: 0x01020304, Body: []byte("some bytes")},
		{Kind: api.Data, Part: 5, Node: 11, Link: 9, From: 5, To: 5, Seq: 1 << 31, Body: bytes.Repeat([]byte{255}, 24)},
	}
}

// bare works out the fields of a valid frame as bytes by another way than the package does.
func bare(f api.Frame) []byte {
	six := func(n int64) []byte { return binary.BigEndian.AppendUint64(nil, uint64(n))[2:] }
	ages := []byte{byte(len(f.Ages))}
	for _, a := range f.Ages {
		ages = append(ages, byte(a))
	}
	flag := byte(0)
	if f.Flag {
		flag = 1
	}
	link := []byte{byte(f.Link)}
	tail := map[int][][]byte{
		api.Cold:   {binary.BigEndian.AppendUint16(nil, uint16(f.Wait))},
		api.Sync:   {six(f.Cycle), binary.BigEndian.AppendUint16(nil, uint16(f.Mask)), ages},
		api.Gate:   {link, {flag}, six(f.Cycle), six(f.Offset)},
		api.Member: {link, ages},
		api.Data:   {link, {byte(f.From), byte(f.To)}, binary.BigEndian.AppendUint32(nil, uint32(f.Seq)), {byte(len(f.Body))}, f.Body},
	}
	return append([]byte{byte(f.Kind), byte(f.Part), byte(f.Node)}, bytes.Join(tail[f.Kind], nil)...)
}

// holds checks what May and Encode answer about a frame that is known to be valid or not.
func holds(t *testing.T, what string, f api.Frame, valid bool) {
	t.Helper()
	if frame.May(f) != valid {
		t.Errorf("P401: May of %+v, %s: %v", f, what, !valid)
	}
	b, e := frame.Encode(f)
	switch {
	case valid && (e != api.OK || !bytes.Equal(b, sum.Seal(bare(f)))):
		t.Errorf("P402: Encode of %+v, %s: %x, %d", f, what, b, e)
	case !valid && (e != api.ErrArg || len(b) != 0):
		t.Errorf("P402: Encode of the wrong %+v, %s: %x, %d", f, what, b, e)
	}
}

func TestExamples(t *testing.T) {
	if frame.May(api.Frame{Kind: api.Cold, Wait: 60001}) {
		t.Error("P401: a Cold frame with the Wait 60,001 may be")
	}
	b, e := frame.Encode(api.Frame{Kind: api.Cold, Part: 1, Node: 2, Wait: 3})
	if e != api.OK || len(b) != 9 || !bytes.Equal(b[:5], []byte{1, 1, 2, 0, 3}) {
		t.Errorf("P402: Encode: %v, %d", b, e)
	}
	if f, e := frame.Decode(sum.Seal([]byte{1, 1, 2, 0})); e != api.ErrShort || !frame.Same(f, api.Frame{}) {
		t.Errorf("P402: Decode: %+v, %d", f, e)
	}
	if e, at := frame.Why(nil); e != api.ErrShort || at != 0 {
		t.Errorf("P403: Why of no bytes: %d, %d", e, at)
	}
	if frame.Same(api.Frame{Kind: 1}, api.Frame{Kind: 2}) {
		t.Error("P404: frames of different kinds are the same")
	}
}

func TestRightFrames(t *testing.T) {
	for _, f := range rich() {
		holds(t, "rich", f, true)
	}
	for _, k := range kinds() {
		holds(t, "plain", plain(k), true)
	}
}

func TestKinds(t *testing.T) {
	for _, f := range rich() {
		for _, k := range []int{math.MinInt, -1, 0, 6, 7, 255, 256, 257, 258, 259, 260, 261, 1<<32 + 1, math.MaxInt} {
			g := f
			g.Kind = k
			holds(t, "a kind that is none", g, false)
		}
	}
	for _, k := range []int{0, 6, 257} {
		holds(t, "a kind that is none", api.Frame{Kind: k}, false)
	}
}

func TestNumbers(t *testing.T) {
	for _, n := range numbers() {
		for _, k := range kinds() {
			has := slices.Contains(n.kinds, k)
			for _, x := range around(n.low, n.high) {
				f := plain(k)
				n.set(&f, x)
				holds(t, n.name, f, has && x >= n.low && x <= n.high || !has && x == 0)
			}
		}
	}
}

func TestFlags(t *testing.T) {
	for _, k := range kinds() {
		f := plain(k)
		f.Flag = true
		holds(t, "Flag", f, k == api.Gate)
	}
}

func TestAges(t *testing.T) {
	for _, k := range kinds() {
		has := k == api.Sync || k == api.Member
		for _, n := range []int{0, 1, 2, 5, 6, 7, 8, 255, 256, 257, 258, 262, 65537} {
			f := plain(k)
			f.Ages = make([]int, n)
			holds(t, "as many ages", f, has && n >= 1 && n <= 6 || !has && n == 0)
		}
		f := plain(k)
		f.Ages = nil
		holds(t, "no ages", f, !has)
	}
	for _, k := range []int{api.Sync, api.Member} {
		for i := range 6 {
			for _, a := range around(0, 201) {
				f := plain(k)
				f.Ages = []int{0, 1, 2, 3, 4, 5}
				f.Ages[i] = int(a)
				holds(t, "an age", f, a >= 0 && a <= 201)
			}
		}
	}
}

func TestBody(t *testing.T) {
	for _, k := range kinds() {
		for _, n := range []int{0, 1, 2, 23, 24, 25, 26, 255, 256, 257, 280, 281, 65536, 65537} {
			f := plain(k)
			f.Body = make([]byte, n)
			holds(t, "Body", f, n == 0 || k == api.Data && n <= 24)
		}
	}
	for c := range 256 {
		f := plain(api.Data)
		f.Body = []byte{byte(c), 1, byte(c)}
		holds(t, "Body", f, true)
	}
}

// step is a field as it is read: how many bytes, and whether their value is one that a valid frame has.
type step struct {
	width int
	good  func(b []byte) bool
}

// upTo tells a field of a plain number.
func upTo(width int, low, high uint64) step {
	return step{width, func(b []byte) bool {
		var n uint64
		for _, c := range b {
			n = n*256 + uint64(c)
		}
		return n >= low && n <= high
	}}
}

// times tells a field of a signed time: the bytes as they are at the ends of the two ranges.
func times() step {
	return step{6, func(b []byte) bool {
		return bytes.Compare(b, []byte{1, 0, 0, 0, 0, 0}) <= 0 || bytes.Compare(b, []byte{255, 0, 0, 0, 0, 0}) >= 0
	}}
}

// steps lists the fields that b, which begins with a kind, should have; a count that b does not have stands for 0.
func steps(b []byte) []step {
	part, node, link := upTo(1, 0, 5), upTo(1, 0, 11), upTo(1, 0, 9)
	cycle := upTo(6, 0, 1<<40)
	l := map[byte][]step{
		1: {upTo(2, 0, 60000)},
		2: {cycle, upTo(2, 0, 4095), upTo(1, 1, 6)},
		3: {link, upTo(1, 0, 1), cycle, times()},
		4: {link, upTo(1, 1, 6)},
		5: {link, part, part, upTo(4, 1, 1<<31), upTo(1, 0, 24)},
	}[b[0]]
	l = append([]step{upTo(1, 1, 5), part, node}, l...)
	at := 0
	for _, s := range l {
		at += s.width
	}
	if at > len(b) {
		return l
	}
	count := int(b[at-1])
	switch b[0] {
	case 2, 4:
		l = append(l, slices.Repeat([]step{upTo(1, 0, 201)}, count)...)
	case 5:
		l = append(l, step{count, func([]byte) bool { return true }})
	}
	return l
}

// why works out what Why must answer by another way than the package does.
func why(b []byte) (api.Errno, int) {
	if len(b) < 7 {
		return api.ErrShort, 0
	}
	in := b[:len(b)-4]
	if binary.BigEndian.Uint32(b[len(in):]) != sum.Of(in) {
		return api.ErrSum, len(in)
	}
	if in[0] < 1 || in[0] > 5 {
		return api.ErrKind, 0
	}
	at := 0
	for _, s := range steps(in) {
		if at+s.width > len(in) {
			return api.ErrShort, at
		}
		if !s.good(in[at : at+s.width]) {
			return api.ErrForm, at
		}
		at += s.width
	}
	if at < len(in) {
		return api.ErrLong, at
	}
	return api.OK, 0
}

// reads holds Decode and Why of b against what is worked out by another way.
func reads(t *testing.T, b []byte) {
	t.Helper()
	e, at := why(b)
	if ge, gat := frame.Why(b); ge != e || gat != at {
		t.Errorf("P403: Why of %x: %d, %d; not %d, %d", b, ge, gat, e, at)
	}
	f, ge := frame.Decode(b)
	if ge != e {
		t.Errorf("P402: Decode of %x: %d, not %d", b, ge, e)
	}
	if e != api.OK {
		if !frame.Same(f, api.Frame{}) {
			t.Errorf("rule 2: Decode of %x: %+v beside an error", b, f)
		}
		return
	}
	if c, e := frame.Encode(f); e != api.OK || !bytes.Equal(b, c) || !frame.May(f) {
		t.Errorf("P404: Encode of Decode of %x: %x, %d", b, c, e)
	}
}

func TestDecodeOfEncode(t *testing.T) {
	for _, f := range rich() {
		b := sum.Seal(bare(f))
		if g, e := frame.Decode(b); e != api.OK || !frame.Same(f, g) {
			t.Errorf("P402: Decode of %x: %+v, %d; not %+v", b, g, e, f)
		}
		if e, at := frame.Why(b); e != api.OK || at != 0 {
			t.Errorf("P403: Why of %x: %d, %d", b, e, at)
		}
	}
}

func TestShortAndLong(t *testing.T) {
	for n := range 12 {
		reads(t, make([]byte, n))
		reads(t, bytes.Repeat([]byte{1}, n))
		reads(t, bytes.Repeat([]byte{255}, n))
	}
	for _, f := range rich() {
		b := bare(f)
		for n := range len(b) + 1 {
			reads(t, sum.Seal(b[:n]))
			reads(t, b[:n])
		}
		for _, more := range [][]byte{{0}, {1}, {255}, make([]byte, 4), make([]byte, 300)} {
			reads(t, sum.Seal(append(bytes.Clone(b), more...)))
			reads(t, sum.Seal(sum.Seal(b)))
		}
	}
}

func TestEveryByte(t *testing.T) {
	for _, f := range rich() {
		b := bare(f)
		for i := range b {
			for c := range 256 {
				d := bytes.Clone(b)
				d[i] = byte(c)
				reads(t, sum.Seal(d))
				reads(t, sum.Seal(d[:i+1]))
				reads(t, sum.Seal(append(d, 0)))
			}
		}
	}
}

func TestWrongSums(t *testing.T) {
	for _, f := range rich() {
		b := sum.Seal(bare(f))
		for i := range b {
			for bit := range 8 {
				d := bytes.Clone(b)
				d[i] ^= 1 << bit
				if e, at := frame.Why(d); e != api.ErrSum || at != len(b)-4 {
					t.Errorf("P403: Why of %x: %d, %d", d, e, at)
				}
				reads(t, d)
			}
		}
	}
	// A wrong sum goes ahead of a wrong kind, and too few bytes go ahead of a wrong sum.
	reads(t, []byte{9, 0, 0, 1, 2, 3, 4})
	reads(t, []byte{9, 0, 1, 2, 3, 4})
}

// noise returns n bytes without a pattern, always the same ones for the same seed.
func noise(seed uint64, n int) []byte {
	l := make([]byte, n)
	for i := range l {
		seed = seed*6364136223846793005 + 1442695040888963407
		l[i] = byte(seed >> 56)
	}
	return l
}

func TestNoise(t *testing.T) {
	for seed := range uint64(3000) {
		b := noise(seed, int(seed%40))
		reads(t, b)
		reads(t, sum.Seal(b))
		if len(b) < 3 {
			continue
		}
		b[0], b[1], b[2] = b[0]%7, b[1]%7, b[2]%13
		reads(t, sum.Seal(b))
		for i := 3; i < len(b); i++ {
			b[i] %= 3
		}
		reads(t, sum.Seal(b))
	}
}

func TestSame(t *testing.T) {
	full := api.Frame{Kind: 1, Part: 2, Node: 3, Wait: 4, Mask: 5, Link: 6, Flag: true, Cycle: 7, Offset: 8, Ages: []int{9, 10}, From: 11, To: 12, Seq: 13, Body: []byte{14, 15}}
	for i, bend := range []func(f *api.Frame){
		func(f *api.Frame) { f.Kind = -1 }, func(f *api.Frame) { f.Part = -1 }, func(f *api.Frame) { f.Node = -1 },
		func(f *api.Frame) { f.Wait = -1 }, func(f *api.Frame) { f.Mask = -1 }, func(f *api.Frame) { f.Link = -1 },
		func(f *api.Frame) { f.Flag = !f.Flag }, func(f *api.Frame) { f.Cycle = -1 }, func(f *api.Frame) { f.Offset = -1 },
		func(f *api.Frame) { f.Ages = []int{9, -1} }, func(f *api.Frame) { f.Ages = []int{-1, 10} }, func(f *api.Frame) { f.Ages = []int{9} }, func(f *api.Frame) { f.Ages = []int{9, 10, 0} },
		func(f *api.Frame) { f.From = -1 }, func(f *api.Frame) { f.To = -1 }, func(f *api.Frame) { f.Seq = -1 },
		func(f *api.Frame) { f.Body = []byte{14, 0} }, func(f *api.Frame) { f.Body = []byte{0, 15} }, func(f *api.Frame) { f.Body = []byte{14} }, func(f *api.Frame) { f.Body = []byte{14, 15, 0} },
	} {
		for _, f := range []api.Frame{full, {}} {
			g := f
			bend(&g)
			if frame.Same(f, g) || frame.Same(g, f) || !frame.Same(g, g) {
				t.Errorf("P404: Same of %+v bent by %d", f, i)
			}
		}
	}
	like := full
	like.Ages, like.Body = slices.Clone(full.Ages), bytes.Clone(full.Body)
	if !frame.Same(full, like) {
		t.Error("P404: frames with equal lists are not the same")
	}
	if !frame.Same(api.Frame{}, api.Frame{Ages: []int{}, Body: []byte{}}) {
		t.Error("rule 4: no list and an empty one are not the same")
	}
	// Frames that are not valid are compared likewise.
	odd := api.Frame{Kind: math.MinInt, Seq: math.MaxInt64, Ages: make([]int, 1000)}
	if !frame.Same(odd, odd) || frame.Same(odd, api.Frame{}) {
		t.Error("P404: Same of a frame that is not valid")
	}
}

func TestArgumentsStay(t *testing.T) {
	for _, f := range rich() {
		ages := append(slices.Clone(f.Ages), 77, 78)
		body := append(bytes.Clone(f.Body), 77, 78)
		f.Ages, f.Body = ages[:len(ages)-2], body[:len(body)-2]
		wantAges, wantBody := slices.Clone(ages), bytes.Clone(body)
		b, _ := frame.Encode(f)
		frame.May(f)
		frame.Same(f, f)
		whole := append(bytes.Clone(b), 77, 78)
		want := bytes.Clone(whole)
		g, _ := frame.Decode(whole[:len(b)])
		frame.Why(whole[:len(b)])
		if !slices.Equal(ages, wantAges) || !bytes.Equal(body, wantBody) || !bytes.Equal(whole, want) {
			t.Errorf("rule 4: an argument was changed: %+v", f)
		}
		clear(whole)
		clear(b)
		if !frame.Same(f, g) {
			t.Errorf("rule 4: the frame hangs on the bytes it was read from: %+v", g)
		}
		first, _ := frame.Encode(f)
		clear(first[:cap(first)])
		clear(g.Ages)
		clear(g.Body)
		second, e := frame.Encode(f)
		if h, e2 := frame.Decode(second); e != api.OK || e2 != api.OK || !frame.Same(f, h) {
			t.Errorf("rule 5: a later answer hangs on an earlier one: %+v", h)
		}
	}
}
