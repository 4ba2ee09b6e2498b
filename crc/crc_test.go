package crc

import (
	"bytes"
	"hash/crc32"
	"math"
	"math/bits"
	"math/rand"
	"slices"
	"testing"
)

// goneIn is the document's word for word: each byte goes in bit by bit, the lowest one first.
func goneIn(register uint32, b []byte) uint32 {
	for _, c := range b {
		for i := range 8 {
			sum := uint32(c>>i)&1 ^ register&1
			register >>= 1
			if sum == 1 {
				register ^= 0x82f63b78
			}
		}
	}
	return register
}

func drawn(r *rand.Rand, n int) []byte {
	b := make([]byte, n)
	for i := range b {
		b[i] = byte(r.Intn(256))
		if r.Intn(4) == 0 {
			b[i] = []byte{0, 255, 1, 128}[r.Intn(4)]
		}
	}
	return b
}

// registers are ones with a bit alone, a bit left out, and drawn ones.
func registers(r *rand.Rand, n int) []uint32 {
	l := []uint32{0, math.MaxUint32, 0x82f63b78, 0x7d09c487, 0xe3069283}
	for i := range 32 {
		l = append(l, 1<<i, ^uint32(1<<i))
	}
	for range n {
		l = append(l, r.Uint32())
	}
	return l
}

// P7.1

func TestOf(t *testing.T) {
	for i, x := range []struct {
		b    []byte
		want uint32
	}{
		{nil, 0},
		{[]byte{}, 0},
		{[]byte("123456789"), 0xe3069283},
		{make([]byte, 4), 0x48674bc7},
		{make([]byte, 32), 0x8a9136aa},
		{bytes.Repeat([]byte{255}, 32), 0x62a8ab43},
		{[]byte{0}, 0x527d5351},
		{[]byte{255}, 0xff000000},
		{bytes.Repeat([]byte{255}, 4), 0xffffffff},
		{[]byte("a"), 0xc1d04330},
		{[]byte("abc"), 0x364b3fb7},
	} {
		if got := Of(x.b); got != x.want {
			t.Errorf("%d: Of(% x) = %08x, want %08x", i, x.b, got, x.want)
		}
	}
}

func TestOfAndMoreOfEachByte(t *testing.T) {
	r := rand.New(rand.NewSource(1))
	for _, sum := range registers(r, 200) {
		for c := range 256 {
			b := []byte{byte(c)}
			if got, want := More(sum, b), ^goneIn(^sum, b); got != want {
				t.Fatalf("More(%08x, %02x) = %08x, want %08x", sum, c, got, want)
			}
		}
	}
	for n := range 1 << 16 {
		b := []byte{byte(n >> 8), byte(n)}
		if got, want := Of(b), ^goneIn(math.MaxUint32, b); got != want {
			t.Fatalf("Of(% x) = %08x, want %08x", b, got, want)
		}
	}
}

func TestOfDrawnBytes(t *testing.T) {
	r := rand.New(rand.NewSource(2))
	table := crc32.MakeTable(crc32.Castagnoli)
	for i := range 3000 {
		b := drawn(r, i%300)
		want := ^goneIn(math.MaxUint32, b)
		if got := Of(b); got != want || got != crc32.Checksum(b, table) {
			t.Fatalf("Of(% x) = %08x, want %08x", b, got, want)
		}
		sum := r.Uint32()
		if got, want := More(sum, b), ^goneIn(^sum, b); got != want {
			t.Fatalf("More(%08x, % x) = %08x, want %08x", sum, b, got, want)
		}
	}
	long := drawn(r, 1<<22)
	if got, want := Of(long), crc32.Checksum(long, table); got != want {
		t.Errorf("Of a long one = %08x, want %08x", got, want)
	}
}

func TestMoreGoesOn(t *testing.T) {
	r := rand.New(rand.NewSource(3))
	for _, sum := range registers(r, 200) {
		if got := More(sum, nil); got != sum {
			t.Errorf("More(%08x, nil) = %08x", sum, got)
		}
		if got := More(sum, []byte{}); got != sum {
			t.Errorf("More(%08x, empty) = %08x", sum, got)
		}
		b := drawn(r, r.Intn(40))
		cut := r.Intn(len(b) + 1)
		if got, want := More(More(sum, b[:cut]), b[cut:]), More(sum, b); got != want {
			t.Errorf("More(More(%08x, % x), % x) = %08x, want %08x", sum, b[:cut], b[cut:], got, want)
		}
		if got, want := More(Of(b[:cut]), b[cut:]), Of(b); got != want {
			t.Errorf("More(Of(% x), % x) = %08x, want %08x", b[:cut], b[cut:], got, want)
		}
	}
}

// P7.2

func TestJoin(t *testing.T) {
	for i, x := range []struct {
		a, b uint32
		n    int
		want uint32
	}{
		{0, 0, 0, 0},
		{0, 7, 0, 7},
		{5, 0, 0, 5},
		{5, 6, 0, 3},
		{5, 6, -1, 3},
		{5, 6, -3, 3},
		{5, 6, math.MinInt, 3},
		{0, 6, 1, 6},
		{0, 6, math.MaxInt, 6},
		{0xff, 0, 1, 0xad7d5351},
		{0x80000000, 0, 1, 0x00800000},
		{0x80000000, 0x00800001, 1, 1},
		{0x80000000, 0, 3, 0x00000080},
		{0x80000000, 0, 4, 0x82f63b78},
		{0x80000000, 0x82f63b78, 4, 0},
		{Of([]byte("1234")), Of([]byte("56789")), 5, 0xe3069283},
		{0, Of([]byte("123456789")), 9, 0xe3069283},
		{Of([]byte("123456789")), 0, 0, 0xe3069283},
	} {
		if got := Join(x.a, x.b, x.n); got != x.want {
			t.Errorf("%d: Join(%08x, %08x, %d) = %08x, want %08x", i, x.a, x.b, x.n, got, x.want)
		}
	}
}

func TestJoinIsZerosThatWentIn(t *testing.T) {
	r := rand.New(rand.NewSource(4))
	for _, a := range registers(r, 100) {
		register := a
		for n := range 600 {
			b := r.Uint32()
			if got := Join(a, b, n); got != register^b {
				t.Fatalf("Join(%08x, %08x, %d) = %08x, want %08x", a, b, n, got, register^b)
			}
			if got := Join(a, b, -n); got != a^b {
				t.Fatalf("Join(%08x, %08x, %d) = %08x, want %08x", a, b, -n, got, a^b)
			}
			register = goneIn(register, []byte{0})
		}
	}
}

func TestJoinOfParts(t *testing.T) {
	r := rand.New(rand.NewSource(5))
	for i := range 3000 {
		a, b := drawn(r, r.Intn(80)), drawn(r, i%300)
		if got, want := Join(Of(a), Of(b), len(b)), Of(append(slices.Clone(a), b...)); got != want {
			t.Fatalf("Join of % x and % x = %08x, want %08x", a, b, got, want)
		}
	}
	long := drawn(r, 1<<20+1)
	for _, n := range []int{0, 1, 255, 1 << 16, 1<<19 + 3, len(long)} {
		if got, want := Join(Of(long[:n]), Of(long[n:]), len(long)-n), Of(long); got != want {
			t.Errorf("%d: %08x, want %08x", n, got, want)
		}
	}
}

// zeros are what registers with one bit each come to, when 2 to the power of k bytes 0 went in.
func zeros(k int) [32]uint32 {
	var l [32]uint32
	for i := range l {
		l[i] = goneIn(1<<i, []byte{0})
	}
	for range k {
		var twice [32]uint32
		for i := range l {
			twice[i] = added(l, l[i])
		}
		l = twice
	}
	return l
}

func added(l [32]uint32, register uint32) uint32 {
	sum := uint32(0)
	for i, x := range l {
		if register>>i&1 == 1 {
			sum ^= x
		}
	}
	return sum
}

func TestJoinOfAnyLength(t *testing.T) {
	r := rand.New(rand.NewSource(6))
	var l [63][32]uint32
	for k := range l {
		l[k] = zeros(k)
	}
	lengths := []int{1<<31 - 1, 1 << 31, 1<<32 - 1, 1 << 32, 1<<32 + 1, math.MaxInt - 1, math.MaxInt}
	for k := range l {
		lengths = append(lengths, 1<<k, r.Intn(1<<k)+1)
	}
	for _, n := range lengths {
		a, b := r.Uint32(), r.Uint32()
		want := a
		for k := range l {
			if n>>k&1 == 1 {
				want = added(l[k], want)
			}
		}
		if got := Join(a, b, n); got != want^b {
			t.Errorf("Join(%08x, %08x, %d) = %08x, want %08x", a, b, n, got, want^b)
		}
	}
}

// P7.3

func TestLast(t *testing.T) {
	for i, x := range []struct {
		b    []byte
		want uint32
		last []byte
	}{
		{[]byte("12345"), 0xe3069283, []byte("6789")},
		{nil, 0x48674bc7, []byte{0, 0, 0, 0}},
		{[]byte{}, 0xffffffff, []byte{255, 255, 255, 255}},
		{make([]byte, 28), 0x8a9136aa, []byte{0, 0, 0, 0}},
		{[]byte("123456789"), 0xffffffff, []byte{0x7c, 0x6d, 0xf9, 0x1c}},
		{make([]byte, 4), 0, []byte{0x6c, 0xd0, 0x87, 0xd3}},
	} {
		got := Last(x.b, x.want)
		if !bytes.Equal(got, x.last) {
			t.Errorf("%d: Last(% x, %08x) = % x, want % x", i, x.b, x.want, got, x.last)
		}
		if sum := ^goneIn(math.MaxUint32, append(slices.Clone(x.b), got...)); sum != x.want {
			t.Errorf("%d: the sum is %08x, want %08x", i, sum, x.want)
		}
	}
}

func TestLastOfDrawnBytes(t *testing.T) {
	r := rand.New(rand.NewSource(7))
	for _, want := range registers(r, 3000) {
		for _, b := range [][]byte{nil, drawn(r, r.Intn(20)), drawn(r, 300)} {
			got := Last(b, want)
			if len(got) != 4 {
				t.Fatalf("Last(% x, %08x) = % x", b, want, got)
			}
			if sum := ^goneIn(math.MaxUint32, append(slices.Clone(b), got...)); sum != want {
				t.Fatalf("behind % x, of % x is %08x, want %08x", b, got, sum, want)
			}
		}
	}
}

// There is just one such four: so what stands there already is told.
func TestLastTellsTheFourThatStandThere(t *testing.T) {
	r := rand.New(rand.NewSource(8))
	for i := range 5000 {
		b := drawn(r, 4+i%30)
		n := len(b) - 4
		if got := Last(b[:n], Of(b)); !bytes.Equal(got, b[n:]) {
			t.Fatalf("Last(% x, %08x) = % x, want % x", b[:n], Of(b), got, b[n:])
		}
	}
}

// P7.4

func TestOfNothing(t *testing.T) {
	if Of(nil) != 0 || Of([]byte{}) != 0 || Of(make([]byte, 8)[3:3]) != 0 {
		t.Error(Of(nil))
	}
}

func changed(b []byte, at int, by uint32) []byte {
	c := slices.Clone(b)
	for i := range 32 {
		if by>>i&1 == 1 {
			c[(at+i)/8] ^= 1 << ((at + i) % 8)
		}
	}
	return c
}

// Bits are side by side as they go in: the lowest one of a byte first.
func TestChangesSideBySideAreTold(t *testing.T) {
	r := rand.New(rand.NewSource(9))
	for _, length := range []int{1, 2, 4, 5, 8, 40, 4006} {
		b := drawn(r, length)
		sum := Of(b)
		for range 2000 {
			by := r.Uint32() >> r.Intn(32)
			if r.Intn(2) == 0 {
				by = 1 << r.Intn(32)
			}
			if by == 0 {
				continue
			}
			end := length*8 - bits.Len32(by)
			if end < 0 {
				continue
			}
			for _, at := range []int{0, end, r.Intn(end + 1)} {
				if c := changed(b, at, by); Of(c) == sum {
					t.Fatalf("% x and % x are both %08x", b, c, sum)
				}
			}
		}
	}
}

func TestEachBitIsTold(t *testing.T) {
	r := rand.New(rand.NewSource(10))
	for length := range 70 {
		b := drawn(r, length)
		told := map[uint32]int{Of(b): -1}
		for at := range length * 8 {
			sum := Of(changed(b, at, 1))
			if other, ok := told[sum]; ok {
				t.Fatalf("% x: bits %d and %d are both %08x", b, other, at, sum)
			}
			told[sum] = at
		}
	}
}

// R5, R6

func TestWhatIsHandedInIsNotChanged(t *testing.T) {
	room := []byte("12345....")
	b := room[:5]
	Of(b)
	More(1, b)
	l := Last(b, 0xe3069283)
	if string(room) != "12345...." {
		t.Errorf("%q", room)
	}
	clear(l)
	if string(room) != "12345...." || string(Last(b, 0xe3069283)) != "6789" {
		t.Errorf("%q", room)
	}
	if Of(b) != Of([]byte("12345")) || Of(b) != Of(b) {
		t.Error(Of(b))
	}
}
