package checksum_test

import (
	"hash/crc32"
	"math"
	"math/rand"
	"strings"
	"testing"

	"dasd/api"
	"dasd/checksum"
)

// shift shifts a register by one byte, bit by bit as the definition says it.
func shift(register uint32) uint32 {
	for range 8 {
		out := register & 1
		register >>= 1
		if out == 1 {
			register ^= 0x82f63b78
		}
	}
	return register
}

// sum is the sum as the definition says it.
func sum(s string) uint32 {
	register := uint32(math.MaxUint32)
	for i := range len(s) {
		register = shift(register ^ uint32(s[i]))
	}
	return ^register
}

// randomText returns n bytes.
func randomText(random *rand.Rand, n int) string {
	b := make([]byte, n)
	random.Read(b)
	return string(b)
}

// samples contains texts of all small lengths, and some long ones.
func samples() []string {
	random := rand.New(rand.NewSource(2))
	list := []string{"123456789", strings.Repeat("\x00", 40), strings.Repeat("\xff", 40), "dasd", "\x00", "\xff\xff\xff\xff"}
	for n := range 70 {
		list = append(list, randomText(random, n))
	}
	return append(list, randomText(random, 1000), randomText(random, 1<<14))
}

func TestSum(t *testing.T) { // P2.1
	if n := checksum.Sum(""); n != 0 {
		t.Errorf("no bytes: %x", n)
	}
	if n := checksum.Sum("123456789"); n != 0xe3069283 {
		t.Errorf("123456789: %x", n)
	}
	for b := range 256 {
		s := string([]byte{byte(b)})
		if checksum.Sum(s) != sum(s) {
			t.Errorf("byte %d: %x", b, checksum.Sum(s))
		}
	}
	castagnoli := crc32.MakeTable(crc32.Castagnoli)
	for _, s := range samples() {
		n := checksum.Sum(s)
		if n != sum(s) || n != crc32.Checksum([]byte(s), castagnoli) {
			t.Errorf("%q: %x", s, n)
		}
	}
}

func TestUpdate(t *testing.T) { // P2.1
	for _, s := range samples() {
		for _, k := range []int{0, 1, 2, len(s) / 2, len(s) - 1, len(s)} {
			k = min(max(k, 0), len(s))
			if n := checksum.Update(sum(s[:k]), s[k:]); n != sum(s) {
				t.Errorf("%d bytes, then %q: %x", k, s[k:], n)
			}
		}
	}
	for _, n := range []uint32{0, 1, 0xe3069283, math.MaxUint32} {
		if checksum.Update(n, "") != n {
			t.Errorf("%x and no bytes: %x", n, checksum.Update(n, ""))
		}
	}
}

func TestCombine(t *testing.T) { // P2.2
	list := samples()
	for i, a := range list {
		for _, b := range []string{"", "x", "123456789", list[len(list)-1-i]} {
			if n := checksum.Combine(sum(a), sum(b), len(b)); n != sum(a+b) {
				t.Errorf("%q and %q: %x", a, b, n)
			}
		}
	}
}

func TestCombineAnyNumbers(t *testing.T) { // P2.2: for any a, b and n
	for _, a := range []uint32{0, 1, 128, 256, 1 << 31, 0x82f63b78, 0xdeadbeef, math.MaxUint32} {
		shifted := a
		for n := range 600 {
			for _, b := range []uint32{0, 7, math.MaxUint32} {
				if x := checksum.Combine(a, b, n); x != shifted^b {
					t.Errorf("%x, %x, %d: %x", a, b, n, x)
				}
			}
			shifted = shift(shifted)
		}
		for _, n := range []int{-1, -2, -600, math.MinInt} {
			if x := checksum.Combine(a, 6, n); x != a^6 {
				t.Errorf("%x, 6, %d: %x", a, n, x)
			}
		}
	}
}

func TestCombineLong(t *testing.T) { // P2.2: as many zero bytes as an int can count
	for _, a := range []uint32{1, 0xdeadbeef, math.MaxUint32} {
		// Shifting twice by half of the bytes is shifting by all of them.
		half := checksum.Combine(a, 0, 1<<61)
		if x := checksum.Combine(a, 0, 1<<62); x != checksum.Combine(half, 0, 1<<61) {
			t.Errorf("%x by 2^62: %x", a, x)
		}
		// The powers repeat after at most 2^31 - 1 bits, since the polynomial is (x + 1) times one of degree 31.
		if x := checksum.Combine(a, 9, 1<<31-1); x != a^9 {
			t.Errorf("%x by 2^31 - 1: %x", a, x)
		}
		// 2^63 - 1 is a multiple of 2^31 - 1, plus 1.
		if x := checksum.Combine(a, 9, math.MaxInt); x != shift(a)^9 {
			t.Errorf("%x by 2^63 - 1: %x", a, x)
		}
	}
	if x := checksum.Combine(0, 7, math.MaxInt); x != 7 {
		t.Errorf("nothing by 2^63 - 1: %x", x)
	}
}

func TestSeal(t *testing.T) { // P2.3
	if s := checksum.Seal(""); s != "\x00\x00\x00\x00" {
		t.Errorf("no bytes: %q", s)
	}
	if s := checksum.Seal("123456789"); s != "123456789\x83\x92\x06\xe3" {
		t.Errorf("123456789: %q", s)
	}
	for _, text := range samples() {
		s := checksum.Seal(text)
		if s != text+checksum.Bytes(sum(text)) {
			t.Errorf("%q: %q", text, s)
		}
		if x, e := checksum.Open(s); x != text || e != api.OK { // P2.4
			t.Errorf("%q: %q, error %d", text, x, e)
		}
		twice := checksum.Seal(s)
		if x, e := checksum.Open(twice); x != s || e != api.OK {
			t.Errorf("%q: %q, error %d", s, x, e)
		}
	}
}

// notSealed checks that a text does not open.
func notSealed(t *testing.T, s string) {
	t.Helper()
	if x, e := checksum.Open(s); x != "" || e != api.ErrCorrupt {
		t.Errorf("%q opens: %q, error %d", s, x, e)
	}
}

func TestOpenErrors(t *testing.T) { // Errors of Open
	for _, s := range []string{"", "\x00", "\x00\x00", "\x00\x00\x00", "abc", "\x00\x00\x00\x01", "\x01\x00\x00\x00", "\x00\x00\x00\x00\x00", "abcd"} {
		notSealed(t, s)
	}
	s := checksum.Seal("123456789")
	for i := range len(s) {
		notSealed(t, s[:i])
	}
	notSealed(t, s[1:])
	notSealed(t, s+"\x00")
	notSealed(t, "\x00"+s)
	notSealed(t, "123456789\xe3\x06\x92\x83")
}

// changed returns a text whose bytes from at on are combined with those of a pattern.
func changed(s string, at int, pattern uint32) string {
	b := []byte(s)
	for i := at; i < min(at+4, len(b)); i++ {
		b[i] ^= byte(pattern >> (8 * (i - at)))
	}
	return string(b)
}

func TestChangedSeals(t *testing.T) { // P2.4
	random := rand.New(rand.NewSource(3))
	for _, n := range []int{0, 1, 2, 3, 4, 9, 60, 136} {
		s := checksum.Seal(randomText(random, n))
		for at := range len(s) {
			for bit := range 8 {
				notSealed(t, changed(s, at, 1<<bit))
			}
			for range 50 {
				if x := changed(s, at, random.Uint32()); x != s {
					notSealed(t, x)
				}
			}
		}
	}
}

func TestExclusiveOr(t *testing.T) { // P2.4: for three texts of the same length
	random := rand.New(rand.NewSource(4))
	for n := range 100 {
		a, b, c := randomText(random, n), randomText(random, n), randomText(random, n)
		x := make([]byte, n)
		for i := range x {
			x[i] = a[i] ^ b[i] ^ c[i]
		}
		if checksum.Sum(string(x)) != checksum.Sum(a)^checksum.Sum(b)^checksum.Sum(c) {
			t.Errorf("%q, %q and %q", a, b, c)
		}
	}
}

func TestNumberBytes(t *testing.T) { // P2.3
	for _, x := range []struct {
		n uint32
		s string
	}{
		{0, "\x00\x00\x00\x00"},
		{1, "\x01\x00\x00\x00"},
		{128, "\x80\x00\x00\x00"},
		{0x01020304, "\x04\x03\x02\x01"},
		{0xe3069283, "\x83\x92\x06\xe3"},
		{1 << 31, "\x00\x00\x00\x80"},
		{math.MaxUint32, "\xff\xff\xff\xff"},
	} {
		if s := checksum.Bytes(x.n); s != x.s {
			t.Errorf("%x: %q", x.n, s)
		}
		if n := checksum.Number(x.s); n != x.n {
			t.Errorf("%q: %x", x.s, n)
		}
	}
	for _, s := range []string{"", "\x01", "\x01\x02", "\x01\x02\x03", "\x01\x02\x03\x04\x05", "\x00\x01\x02\x03\x04\x05\x06\x07", strings.Repeat("\xff", 1000)} {
		if n := checksum.Number(s); n != 0 {
			t.Errorf("%q: %x", s, n)
		}
	}
	random := rand.New(rand.NewSource(5))
	for range 1000 {
		n := random.Uint32()
		if checksum.Number(checksum.Bytes(n)) != n {
			t.Errorf("%x", n)
		}
	}
}

func FuzzOpen(f *testing.F) { // P1, P11: what opens is what would be sealed
	f.Add("")
	f.Add("123")
	f.Add("\x00\x00\x00\x00")
	f.Add("123456789\x83\x92\x06\xe3")
	f.Add("123456789\x83\x92\x06\xe2")
	f.Fuzz(func(t *testing.T, s string) {
		text, e := checksum.Open(s)
		if e == api.OK && checksum.Seal(text) != s {
			t.Errorf("%q opens as %q", s, text)
		}
		if e != api.OK && (e != api.ErrCorrupt || text != "") {
			t.Errorf("%q: %q, error %d", s, text, e)
		}
	})
}
