package variable_test

import (
	"encoding/binary"
	"math"
	"math/rand"
	"slices"
	"strings"
	"testing"

	"dasd/api"
	"dasd/variable"
)

// word returns the descriptor word of a number, as the definition says it.
func word(n int) string { return string(binary.BigEndian.AppendUint16(nil, uint16(n))) + "\x00\x00" }

// form returns the bytes of a block that has these records.
func form(records ...string) string {
	body := ""
	for _, record := range records {
		body += word(len(record)+4) + record
	}
	return word(len(body)+4) + body
}

// fit reports whether a greatest length and a block size fit each other; the sum is not computed for numbers that it could overflow.
func fit(length, block int) bool {
	return 1 <= length && length <= 1000 && length+8 <= block && block <= 1024
}

// records reads a block word by word, as the definition says it; without a block there are none.
func records(length, block int, data string) []string {
	if len(data) > block || len(data) < 4 || data[:4] != word(len(data)) {
		return nil
	}
	var l []string
	for at := 4; at < len(data); {
		if at+4 > len(data) {
			return nil
		}
		n := int(binary.BigEndian.Uint16([]byte(data[at:]))) - 4
		if n < 0 || n > length || at+4+n > len(data) || data[at+2:at+4] != "\x00\x00" {
			return nil
		}
		l = append(l, data[at+4:at+4+n])
		at += 4 + n
	}
	return l
}

// packed returns the blocks of records: the most records that fit together, as long as there are any.
func packed(block int, records []string) []string {
	var blocks []string
	for len(records) > 0 {
		n := 1
		for n < len(records) && len(form(records[:n+1]...)) <= block {
			n++
		}
		blocks = append(blocks, form(records[:n]...))
		records = records[n:]
	}
	return blocks
}

// several returns random records of at most length bytes.
func several(random *rand.Rand, length, most int) []string {
	l := make([]string, random.Intn(most+1))
	for i := range l {
		data := make([]byte, random.Intn(length>>random.Intn(8)+1))
		random.Read(data)
		l[i] = string(data)
	}
	return l
}

func TestWord(t *testing.T) { // P11.1
	for n := range 1 << 16 {
		s := variable.Word(n)
		if s != word(n) {
			t.Fatalf("%d: %q", n, s)
		}
		if k, ok := variable.ReadWord(s); k != n || !ok {
			t.Fatalf("%d: read as %d, %v", n, k, ok)
		}
	}
	if s := variable.Word(300); s != "\x01\x2c\x00\x00" {
		t.Errorf("300: %q", s)
	}
	for _, n := range []int{math.MinInt, -65536, -300, -1, 65536, 65836, 1 << 32, math.MaxInt} {
		if s := variable.Word(n); s != "" {
			t.Errorf("%d: %q", n, s)
		}
	}
	for _, s := range []string{"", "\x01", "\x01\x2c", "\x01\x2c\x00", "\x01\x2c\x00\x00\x00", "\x01\x2c\x00\x01", "\x01\x2c\x01\x00", "\x01\x2c\x00\xff", "\x00\x00\x01\x2c", strings.Repeat("\x00", 8)} {
		if n, ok := variable.ReadWord(s); n != 0 || ok {
			t.Errorf("%q: read as %d, %v", s, n, ok)
		}
	}
}

func TestValid(t *testing.T) { // P11.1
	numbers := []int{math.MinInt, -1024, -8, -1, 0, 1, 2, 7, 8, 9, 10, 80, 88, 500, 508, 999, 1000, 1001, 1007, 1008, 1009, 1016, 1023, 1024, 1025, math.MaxInt - 7, math.MaxInt}
	for _, length := range numbers {
		for _, block := range numbers {
			if got := variable.Valid(length, block); got != fit(length, block) {
				t.Errorf("%d, %d: %v", length, block, got)
			}
		}
	}
	for _, x := range []struct {
		length, block int
		want          bool
	}{{1, 9, true}, {1, 8, false}, {0, 9, false}, {92, 100, true}, {93, 100, false}, {1000, 1008, true}, {1000, 1007, false}, {1000, 1024, true}, {1001, 1024, false}, {1, 1024, true}, {1, 1025, false}} {
		if got := variable.Valid(x.length, x.block); got != x.want {
			t.Errorf("%d, %d: %v", x.length, x.block, got)
		}
	}
}

func TestPack(t *testing.T) { // P11.2
	long, short := strings.Repeat("x", 1000), strings.Repeat("y", 12)
	for _, x := range []struct {
		length, block int
		records, want []string
	}{
		{3, 14, nil, nil},
		{3, 14, []string{}, nil},
		{3, 14, []string{""}, []string{"\x00\x08\x00\x00\x00\x04\x00\x00"}},
		{3, 14, []string{"ab", ""}, []string{"\x00\x0e\x00\x00\x00\x06\x00\x00ab\x00\x04\x00\x00"}},
		{3, 13, []string{"ab", ""}, []string{"\x00\x0a\x00\x00\x00\x06\x00\x00ab", "\x00\x08\x00\x00\x00\x04\x00\x00"}},
		{3, 14, []string{"abc"}, []string{"\x00\x0b\x00\x00\x00\x07\x00\x00abc"}},
		{3, 11, []string{"", "abc", ""}, []string{form(""), form("abc"), form("")}},
		{3, 15, []string{"", "abc", ""}, []string{form("", "abc"), form("")}},
		{3, 19, []string{"", "abc", ""}, []string{form("", "abc", "")}},
		// A record goes to the last block only, although an earlier one would have room.
		{4, 14, []string{"a", "wxyz", "b"}, []string{form("a"), form("wxyz"), form("b")}},
		{1, 1024, slices.Repeat([]string{""}, 256), []string{form(slices.Repeat([]string{""}, 255)...), form("")}},
		{1000, 1024, []string{long, short, "", "z"}, []string{form(long, short), form("", "z")}},
		{1000, 1024, []string{long, short + "y", "z"}, []string{form(long), form(short+"y", "z")}},
		{1000, 1008, []string{long, long, ""}, []string{form(long), form(long), form("")}},
		{3, 20, []string{"\x00\xff", "\n\x80"}, []string{form("\x00\xff", "\n\x80")}},
	} {
		if got, e := variable.Pack(x.length, x.block, x.records...); !slices.Equal(got, x.want) || e != api.OK {
			t.Errorf("%d, %d, %q: %q, error %d", x.length, x.block, x.records, got, e)
		}
	}
}

func TestPackErrors(t *testing.T) { // Errors of Pack
	for _, x := range []struct {
		length, block int
		records       []string
		want          api.Errno
	}{
		{0, 10, nil, api.ErrArg},
		{0, 10, []string{""}, api.ErrArg},
		{-1, 10, []string{"a"}, api.ErrArg},
		{3, 10, nil, api.ErrArg},
		{3, 10, []string{"abc"}, api.ErrArg},
		{3, 10, []string{"abcd"}, api.ErrArg},
		{1001, 1024, nil, api.ErrArg},
		{3, 1025, nil, api.ErrArg},
		{math.MaxInt, math.MaxInt, nil, api.ErrArg},
		{math.MaxInt, math.MinInt, nil, api.ErrArg},
		{3, 100, []string{"abcd"}, api.ErrRange},
		{3, 100, []string{"abc", "", "abcd"}, api.ErrRange},
		{3, 11, []string{"abc", "abc", "abcd", "abc"}, api.ErrRange},
		{1000, 1024, []string{strings.Repeat("x", 1001)}, api.ErrRange},
		{1000, 1024, []string{strings.Repeat("x", 70000)}, api.ErrRange},
	} {
		if got, e := variable.Pack(x.length, x.block, x.records...); len(got) > 0 || e != x.want {
			t.Errorf("%d, %d, %q: %q, error %d, not %d", x.length, x.block, x.records, got, e, x.want)
		}
	}
}

func TestUnpack(t *testing.T) { // P11.2
	for _, x := range []struct {
		length, block int
		data          string
		want          []string
	}{
		{3, 14, "\x00\x0e\x00\x00\x00\x06\x00\x00ab\x00\x04\x00\x00", []string{"ab", ""}},
		{3, 11, "\x00\x08\x00\x00\x00\x04\x00\x00", []string{""}},
		{3, 20, form("ab", "", "abc"), nil}, // 21 bytes
		{3, 21, form("ab", "", "abc"), []string{"ab", "", "abc"}},
		{2, 20, form("abc"), nil},
		// A block may have fewer records than have room.
		{3, 1024, form("a"), []string{"a"}},
		{1, 1024, form(slices.Repeat([]string{""}, 255)...), slices.Repeat([]string{""}, 255)},
		{1000, 1024, form(strings.Repeat("x", 1000), "123456789012"), []string{strings.Repeat("x", 1000), "123456789012"}},
		{8, 40, form("\x00\x04\x00\x00", "\xff\xff\xff\xff"), []string{"\x00\x04\x00\x00", "\xff\xff\xff\xff"}},
	} {
		want := api.OK
		if x.want == nil {
			want = api.ErrCorrupt
		}
		if got, e := variable.Unpack(x.length, x.block, x.data); !slices.Equal(got, x.want) || e != want {
			t.Errorf("%d, %d, %q: %q, error %d", x.length, x.block, x.data, got, e)
		}
	}
}

func TestUnpackErrors(t *testing.T) { // Errors of Unpack
	good := form("ab", "")
	for _, x := range []struct {
		length, block int
		data          string
		want          api.Errno
	}{
		{0, 14, good, api.ErrArg},
		{-1, 14, good, api.ErrArg},
		{3, 10, good, api.ErrArg},
		{3, 10, "", api.ErrArg},
		{3, 1025, good, api.ErrArg},
		{1001, 1024, good, api.ErrArg},
		{math.MaxInt, math.MaxInt, good, api.ErrArg},
		{3, 14, "", api.ErrCorrupt},
		{3, 14, "\x00", api.ErrCorrupt},
		{3, 14, "\x00\x04\x00", api.ErrCorrupt},
		{3, 14, "\x00\x04\x00\x00", api.ErrCorrupt}, // no record
		{3, 14, "\x00\x03\x00\x00", api.ErrCorrupt},
		{3, 14, "\x00\x00\x00\x00", api.ErrCorrupt},
		{3, 14, good[:13], api.ErrCorrupt},
		{3, 14, good + "\x00", api.ErrCorrupt},
		{3, 20, good + form("a"), api.ErrCorrupt},
		{3, 13, good, api.ErrCorrupt},
		{1, 14, good, api.ErrCorrupt},
		{3, 14, "\x00\x0f\x00\x00" + good[4:], api.ErrCorrupt},
		{3, 14, "\x00\x0d\x00\x00" + good[4:], api.ErrCorrupt},
		{3, 14, "\x0e\x00\x00\x00" + good[4:], api.ErrCorrupt},
		{3, 14, "\x00\x0e\x01\x00" + good[4:], api.ErrCorrupt},
		{3, 14, "\x00\x0e\x00\x01" + good[4:], api.ErrCorrupt},
		{3, 14, "\x00\x08\x00\x00\x00\x03\x00\x00", api.ErrCorrupt},
		{3, 14, "\x00\x08\x00\x00\x00\x00\x00\x00", api.ErrCorrupt},
		{3, 14, "\x00\x08\x00\x00\x00\x05\x00\x00", api.ErrCorrupt},
		{3, 14, "\x00\x08\x00\x00\x00\x04\x01\x00", api.ErrCorrupt},
		{3, 14, "\x00\x08\x00\x00\x00\x04\x00\x01", api.ErrCorrupt},
		{3, 14, "\x00\x08\x00\x00\x04\x00\x00\x00", api.ErrCorrupt},
		{3, 14, "\x00\x07\x00\x00\x00\x04\x00", api.ErrCorrupt},
		{3, 14, "\x00\x0b\x00\x00\x00\x04\x00\x00\x00\x04\x00", api.ErrCorrupt},
		{3, 20, "\x00\x09\x00\x00\x00\x04\x00\x00\x00", api.ErrCorrupt},
		{3, 14, "\x00\x0c\x00\x00\x00\x08\x00\x00abcd", api.ErrCorrupt}, // too long
		{3, 14, strings.Repeat("\x00", 70000), api.ErrCorrupt},
		{3, 14, strings.Repeat("\x00", 65536+14), api.ErrCorrupt},
		{3, 14, good + strings.Repeat("\x00", 65536), api.ErrCorrupt},
	} {
		if got, e := variable.Unpack(x.length, x.block, x.data); len(got) > 0 || e != x.want {
			t.Errorf("%d, %d, %q: %q, error %d, not %d", x.length, x.block, x.data, got, e, x.want)
		}
	}
}

func TestRoom(t *testing.T) { // P11.3
	one := form("ab", "") // 14 bytes
	for _, x := range []struct {
		length, block int
		data          string
		want          int
	}{
		{9, 20, "", 9},
		{9, 17, "", 9},
		{9, 100, "", 9},
		{1000, 1024, "", 1000},
		{9, 17, one, -1},
		{9, 18, one, 0},
		{9, 19, one, 1},
		{9, 26, one, 8},
		{9, 27, one, 9},
		{9, 28, one, 9},
		{9, 1024, one, 9},
		{2, 14, one, -1},
		{2, 15, one, -1},
		{2, 18, one, 0},
		{1000, 1024, form(strings.Repeat("x", 1000)), 12},
		{1000, 1024, form(strings.Repeat("x", 1000), "123456"), 2},
		{1000, 1024, form(strings.Repeat("x", 1000), "12345678"), 0},
		{1000, 1024, form(strings.Repeat("x", 1000), "123456789"), -1},
		{1000, 1024, form(strings.Repeat("x", 1000), "123456789012"), -1},
		{1, 20, form(""), 1},
		// neither empty nor a block
		{9, 20, "x", -1},
		{9, 20, "\x00\x04\x00\x00", -1},
		{9, 20, one[:13], -1},
		{9, 20, one + "\x00", -1},
		{1, 20, one, -1},
		{5, 13, one, -1},
		{9, 1024, strings.Repeat("x", 70000), -1},
		// no fitting length and block size
		{9, 16, "", -1},
		{9, 16, one, -1},
		{0, 20, "", -1},
		{0, 20, one, -1},
		{-2, 20, "", -1},
		{1001, 1024, "", -1},
		{9, 1025, "", -1},
		{math.MaxInt, math.MaxInt, "", -1},
		{math.MinInt, math.MinInt, one, -1},
	} {
		room := variable.Room(x.length, x.block, x.data)
		if room != x.want {
			t.Errorf("%d, %d, %q: room for %d, not %d", x.length, x.block, x.data, room, x.want)
		}
		for n := range 1010 {
			got, ok := variable.Add(x.length, x.block, x.data, strings.Repeat("z", n))
			want := ""
			if n <= x.want {
				want = form(append(records(x.length, x.block, x.data), strings.Repeat("z", n))...)
			}
			if got != want || ok != (want != "") {
				t.Errorf("%d, %d, %q and %d bytes: %q, %v", x.length, x.block, x.data, n, got, ok)
			}
		}
	}
}

func TestAdd(t *testing.T) { // P11.3
	for _, x := range []struct {
		length, block      int
		data, record, want string
		ok                 bool
	}{
		{3, 14, "", "", "\x00\x08\x00\x00\x00\x04\x00\x00", true},
		{3, 14, "", "ab", "\x00\x0a\x00\x00\x00\x06\x00\x00ab", true},
		{3, 14, "\x00\x0a\x00\x00\x00\x06\x00\x00ab", "", "\x00\x0e\x00\x00\x00\x06\x00\x00ab\x00\x04\x00\x00", true},
		{3, 14, form("ab"), "c", "", false},
		{3, 15, form("ab"), "c", form("ab", "c"), true},
		{3, 14, "", "abcd", "", false},
		{3, 100, form("ab"), "abcd", "", false},
		{3, 100, form("ab", "", "x"), "\x00\xff\x80", form("ab", "", "x", "\x00\xff\x80"), true},
		{3, 100, form("abcd"), "a", "", false},
		{3, 100, "\x00\x04\x00\x00", "a", "", false},
		{3, 100, "ab", "", "", false},
		{3, 10, "", "", "", false},
		{0, 14, "", "", "", false},
		{3, 1025, form("ab"), "c", "", false},
	} {
		if got, ok := variable.Add(x.length, x.block, x.data, x.record); got != x.want || ok != x.ok {
			t.Errorf("%d, %d, %q, %q: %q, %v", x.length, x.block, x.data, x.record, got, ok)
		}
	}
}

// added returns the blocks that adding records one by one leads to.
func added(t *testing.T, length, block int, records []string) []string {
	t.Helper()
	var blocks []string
	last := ""
	for _, record := range records {
		longer, ok := variable.Add(length, block, last, record)
		if !ok {
			blocks = append(blocks, last)
			if longer, ok = variable.Add(length, block, "", record); !ok {
				t.Fatalf("%d, %d: no block with %q", length, block, record)
			}
		}
		last = longer
	}
	if last != "" {
		blocks = append(blocks, last)
	}
	return blocks
}

func TestBlocks(t *testing.T) { // P11.2, P11.4: packing, unpacking and adding agree
	random := rand.New(rand.NewSource(5))
	for range 2000 {
		length := 1 + random.Intn(1000>>random.Intn(10))
		block := length + 8 + random.Intn(1025-length-8)
		given := several(random, length, 60)
		l := slices.Clone(given)
		blocks, e := variable.Pack(length, block, l...)
		if e != api.OK || !slices.Equal(blocks, packed(block, l)) || !slices.Equal(blocks, added(t, length, block, l)) {
			t.Fatalf("%d, %d, %d records: %d blocks, error %d", length, block, len(l), len(blocks), e)
		}
		var back []string
		for _, data := range blocks {
			part, e := variable.Unpack(length, block, data)
			if e != api.OK {
				t.Fatalf("%d, %d, %q: error %d", length, block, data, e)
			}
			back = append(back, part...)
			clear(part)
		}
		if !slices.Equal(back, given) || !slices.Equal(l, given) {
			t.Fatalf("%d, %d: other records", length, block)
		}
		clear(blocks)
		if !slices.Equal(l, given) {
			t.Fatalf("%d, %d: the records share memory with results", length, block)
		}
	}
}

func TestDamage(t *testing.T) { // P11.4: each byte of a block, each length, cut and continued
	for _, l := range [][]string{{""}, {"a"}, {"ab", ""}, {"", "", ""}, {"abc", "d", "ef"}, {"\x00\x04\x00\x00", "\x00\x05\x00\x00"}} {
		good := form(l...)
		for _, block := range []int{len(good) - 1, len(good), len(good) + 3} {
			try := func(data string) {
				length := min(block-8, 8)
				if !fit(length, block) {
					return
				}
				want := records(length, block, data)
				got, e := variable.Unpack(length, block, data)
				if !slices.Equal(got, want) || (e == api.OK) != (want != nil) || e != api.OK && e != api.ErrCorrupt {
					t.Errorf("%d, %d, %q: %q, error %d, not %q", length, block, data, got, e, want)
				}
				if e == api.OK && form(got...) != data {
					t.Errorf("%q: another block has its records %q", data, got)
				}
			}
			for at := range len(good) {
				try(good[:at])
				try(good[at:])
				try(good + good[:at+1])
				for b := range 256 {
					try(good[:at] + string([]byte{byte(b)}) + good[at+1:])
				}
			}
		}
	}
}

func FuzzUnpack(f *testing.F) { // P1, P11.4, P11: what is unpacked is the only block of its records
	f.Add(3, 14, form("ab", ""), "c")
	f.Add(3, 20, form("ab", ""), "")
	f.Add(0, 0, "", "")
	f.Add(1000, 1024, form(strings.Repeat("x", 1000)), "12345678")
	f.Fuzz(func(t *testing.T, length, block int, data, record string) {
		l, e := variable.Unpack(length, block, data)
		var want []string
		code, room := api.ErrArg, -1
		if fit(length, block) {
			want, code = records(length, block, data), api.ErrCorrupt
			if want != nil {
				code, room = api.OK, max(min(length, block-len(data)-4), -1)
			} else if data == "" {
				room = length
			}
		}
		if !slices.Equal(l, want) || e != code {
			t.Errorf("%d, %d, %q: %q, error %d, not %q", length, block, data, l, e, want)
		}
		if got := variable.Room(length, block, data); got != room {
			t.Errorf("%d, %d, %q: room for %d, not %d", length, block, data, got, room)
		}
		longer, ok := variable.Add(length, block, data, record)
		if ok != (len(record) <= room) || ok && longer != form(append(want, record)...) || !ok && longer != "" {
			t.Errorf("%d, %d, %q and %q: %q, %v", length, block, data, record, longer, ok)
		}
	})
}
