package fixed_test

import (
	"math"
	"math/rand"
	"slices"
	"strings"
	"testing"

	"dasd/api"
	"dasd/fixed"
)

// most returns the greatest number of records of a block, as the definition says it, by counting.
func most(length, block int) int {
	if length < 1 || length > 1000 || block < length || block > 1024 {
		return 0
	}
	n := 0
	for (n+1)*length <= block {
		n++
	}
	return n
}

// numbers are lengths and block sizes at and beyond all bounds.
func numbers() []int {
	return []int{math.MinInt, -1024, -1, 0, 1, 2, 3, 7, 80, 499, 500, 512, 513, 999, 1000, 1001, 1023, 1024, 1025, math.MaxInt}
}

func TestValid(t *testing.T) { // P10.1
	fits := 0
	for _, length := range numbers() {
		for _, block := range numbers() {
			want := most(length, block)
			if got := fixed.Most(length, block); got != want || fixed.Valid(length, block) != (want > 0) {
				t.Errorf("%d, %d: at most %d, not %d, valid %v", length, block, got, want, fixed.Valid(length, block))
			}
			if want > 0 {
				fits++
			}
		}
	}
	if fits < 50 {
		t.Errorf("only %d pairs fit", fits)
	}
	for _, x := range []struct{ length, block, want int }{{1, 1, 1}, {3, 10, 3}, {3, 9, 3}, {3, 8, 2}, {3, 2, 0}, {1000, 1000, 1}, {1000, 1024, 1}, {512, 1024, 2}, {513, 1024, 1}, {1, 1024, 1024}, {1001, 1024, 0}, {1000, 1025, 0}} {
		if got := fixed.Most(x.length, x.block); got != x.want {
			t.Errorf("%d, %d: at most %d, not %d", x.length, x.block, got, x.want)
		}
	}
}

func TestPack(t *testing.T) { // P10.2
	for _, x := range []struct {
		length, block int
		records, want []string
	}{
		{3, 10, nil, nil},
		{3, 10, []string{}, nil},
		{3, 10, []string{"aaa"}, []string{"aaa"}},
		{3, 10, []string{"aaa", "bbb", "ccc"}, []string{"aaabbbccc"}},
		{3, 10, []string{"aaa", "bbb", "ccc", "ddd"}, []string{"aaabbbccc", "ddd"}},
		{3, 3, []string{"aaa", "bbb"}, []string{"aaa", "bbb"}},
		{1, 2, []string{"a", "b", "c", "d", "e"}, []string{"ab", "cd", "e"}},
		{2, 4, []string{"\x00\xff", "  ", "\n\x80"}, []string{"\x00\xff  ", "\n\x80"}},
		{1000, 1024, []string{strings.Repeat("x", 1000), strings.Repeat("y", 1000)}, []string{strings.Repeat("x", 1000), strings.Repeat("y", 1000)}},
		{1, 1024, slices.Repeat([]string{"z"}, 1025), []string{strings.Repeat("z", 1024), "z"}},
	} {
		if got, e := fixed.Pack(x.length, x.block, x.records...); !slices.Equal(got, x.want) || e != api.OK {
			t.Errorf("%d, %d, %q: %q, error %d", x.length, x.block, x.records, got, e)
		}
	}
}

func TestPackErrors(t *testing.T) { // Errors of Pack
	for _, x := range []struct {
		length, block int
		records       []string
		want          api.Errno
	}{
		{0, 10, nil, api.ErrArg},
		{0, 10, []string{""}, api.ErrArg},
		{-1, 10, nil, api.ErrArg},
		{3, 2, []string{"aaa"}, api.ErrArg},
		{3, 2, []string{"a"}, api.ErrArg},
		{1001, 1024, nil, api.ErrArg},
		{3, 1025, nil, api.ErrArg},
		{math.MaxInt, math.MaxInt, nil, api.ErrArg},
		{3, 10, []string{""}, api.ErrRange},
		{3, 10, []string{"aa"}, api.ErrRange},
		{3, 10, []string{"aaaa"}, api.ErrRange},
		{3, 10, []string{"aaabbb"}, api.ErrRange},
		{3, 10, []string{"aaa", "bbb", "ccc", "ddd", "ee"}, api.ErrRange},
		{3, 10, []string{"aa", "bbbb"}, api.ErrRange},
	} {
		if got, e := fixed.Pack(x.length, x.block, x.records...); len(got) > 0 || e != x.want {
			t.Errorf("%d, %d, %q: %q, error %d, not %d", x.length, x.block, x.records, got, e, x.want)
		}
	}
}

func TestUnpack(t *testing.T) { // P10.2
	for _, x := range []struct {
		length, block int
		data          string
		want          []string
	}{
		{3, 10, "aaa", []string{"aaa"}},
		{3, 10, "aaabbb", []string{"aaa", "bbb"}},
		{3, 10, "aaabbbccc", []string{"aaa", "bbb", "ccc"}},
		{3, 9, "aaabbbccc", []string{"aaa", "bbb", "ccc"}},
		{1, 3, "\x00\xff ", []string{"\x00", "\xff", " "}},
		{1000, 1024, strings.Repeat("x", 1000), []string{strings.Repeat("x", 1000)}},
		{512, 1024, strings.Repeat("xy", 512), slices.Repeat([]string{strings.Repeat("xy", 256)}, 2)},
	} {
		if got, e := fixed.Unpack(x.length, x.block, x.data); !slices.Equal(got, x.want) || e != api.OK {
			t.Errorf("%d, %d, %q: %q, error %d", x.length, x.block, x.data, got, e)
		}
	}
}

func TestUnpackErrors(t *testing.T) { // Errors of Unpack
	for _, x := range []struct {
		length, block int
		data          string
		want          api.Errno
	}{
		{0, 10, "", api.ErrArg},
		{-3, 10, "aaa", api.ErrArg},
		{3, 2, "aaa", api.ErrArg},
		{3, 2, "", api.ErrArg},
		{1001, 1024, strings.Repeat("x", 1001), api.ErrArg},
		{3, 1025, "aaa", api.ErrArg},
		{3, 10, "", api.ErrCorrupt},
		{3, 10, "a", api.ErrCorrupt},
		{3, 10, "aa", api.ErrCorrupt},
		{3, 10, "aaab", api.ErrCorrupt},
		{3, 10, "aaabbbcccd", api.ErrCorrupt},
		{3, 10, "aaabbbcccddd", api.ErrCorrupt},
		{3, 9, "aaabbbcccddd", api.ErrCorrupt},
		{3, 3, "aaabbb", api.ErrCorrupt},
		{1000, 1024, strings.Repeat("x", 1024), api.ErrCorrupt},
		{1000, 1024, strings.Repeat("x", 2000), api.ErrCorrupt},
	} {
		if got, e := fixed.Unpack(x.length, x.block, x.data); len(got) > 0 || e != x.want {
			t.Errorf("%d, %d, %q: %q, error %d, not %d", x.length, x.block, x.data, got, e, x.want)
		}
	}
}

func TestAdd(t *testing.T) { // P10.3
	for _, x := range []struct {
		length, block      int
		data, record, want string
		ok                 bool
	}{
		{3, 10, "", "aaa", "aaa", true},
		{3, 10, "aaa", "bbb", "aaabbb", true},
		{3, 10, "aaabbb", "ccc", "aaabbbccc", true},
		{3, 10, "aaabbbccc", "ddd", "", false},
		{3, 9, "aaabbb", "ccc", "aaabbbccc", true},
		{3, 8, "aaabbb", "ccc", "", false},
		{3, 10, "aaabbbcccddd", "eee", "", false},
		{3, 10, "aaa", "", "", false},
		{3, 10, "aaa", "bb", "", false},
		{3, 10, "aaa", "bbbb", "", false},
		{3, 10, "aaa", "bbbccc", "", false},
		{3, 10, "aa", "bbb", "", false},
		{3, 10, "a", "bb", "", false},
		{3, 10, "aaab", "bbb", "", false},
		{3, 2, "", "aaa", "", false},
		{0, 10, "", "", "", false},
		{0, 0, "", "", "", false},
		{-3, 10, "", "aaa", "", false},
		{3, 1025, "", "aaa", "", false},
		{1000, 1024, "", strings.Repeat("x", 1000), strings.Repeat("x", 1000), true},
		{1000, 1024, strings.Repeat("x", 1000), strings.Repeat("y", 1000), "", false},
		{1001, 1024, "", strings.Repeat("x", 1001), "", false},
		{1, 1024, strings.Repeat("x", 1023), "y", strings.Repeat("x", 1023) + "y", true},
		{1, 1024, strings.Repeat("x", 1024), "y", "", false},
	} {
		if got, ok := fixed.Add(x.length, x.block, x.data, x.record); got != x.want || ok != x.ok {
			t.Errorf("%d, %d, %q, %q: %q, %v", x.length, x.block, x.data, x.record, got, ok)
		}
	}
}

func TestPad(t *testing.T) { // P10.4
	for _, x := range []struct {
		length       int
		record, want string
	}{
		{5, "abc", "abc  "},
		{4, "abc", "abc "},
		{3, "abc", "abc"},
		{2, "abc", "ab"},
		{1, "abc", "a"},
		{0, "abc", ""},
		{0, "", ""},
		{2, "", "  "},
		{2, " x", " x"},
		{3, "\x00\xff", "\x00\xff "},
		{-1, "abc", ""},
		{math.MinInt, "abc", ""},
		{1000, "a", "a" + strings.Repeat(" ", 999)},
		{1001, "a", "a" + strings.Repeat(" ", 999)},
		{math.MaxInt, "", strings.Repeat(" ", 1000)},
		{1001, strings.Repeat("x", 1001), strings.Repeat("x", 1000)},
		{1000, strings.Repeat("x", 1001), strings.Repeat("x", 1000)},
		{999, strings.Repeat("x", 1001), strings.Repeat("x", 999)},
		{math.MaxInt, strings.Repeat("x", 5000), strings.Repeat("x", 1000)},
	} {
		if got := fixed.Pad(x.length, x.record); got != x.want {
			t.Errorf("%d, %q: %q", x.length, x.record, got)
		}
	}
}

// added returns the blocks that adding records one by one leads to.
func added(t *testing.T, length, block int, records []string) []string {
	t.Helper()
	var blocks []string
	last := ""
	for _, record := range records {
		longer, ok := fixed.Add(length, block, last, record)
		if !ok {
			blocks = append(blocks, last)
			if longer, ok = fixed.Add(length, block, "", record); !ok {
				t.Fatalf("%d, %d: no block with %q", length, block, record)
			}
		}
		last = longer
	}
	if last != "" {
		blocks = append(blocks, last)
	}
	return blocks
}

func TestBlocks(t *testing.T) { // P10.5: packing, unpacking and adding agree
	random := rand.New(rand.NewSource(3))
	for range 2000 {
		length := 1 + random.Intn(1000>>random.Intn(10))
		block := length + random.Intn(1025-length)
		records := make([]string, random.Intn(30))
		for i := range records {
			data := make([]byte, length)
			random.Read(data)
			records[i] = string(data)
		}
		given := slices.Clone(records)
		blocks, e := fixed.Pack(length, block, records...)
		if e != api.OK || !slices.Equal(blocks, added(t, length, block, records)) {
			t.Fatalf("%d, %d, %d records: other blocks than by adding, error %d", length, block, len(records), e)
		}
		var back []string
		for i, data := range blocks {
			part, e := fixed.Unpack(length, block, data)
			if e != api.OK || len(part) > most(length, block) || i < len(blocks)-1 && len(part) != most(length, block) {
				t.Fatalf("%d, %d: the block %d of %d has %d records, error %d", length, block, i, len(blocks), len(part), e)
			}
			back = append(back, part...)
		}
		if !slices.Equal(back, records) || !slices.Equal(records, given) {
			t.Fatalf("%d, %d: other records", length, block)
		}
		clear(blocks)
		clear(back)
		if !slices.Equal(records, given) {
			t.Fatalf("%d, %d: the records share memory with results", length, block)
		}
	}
}

func FuzzUnpack(f *testing.F) { // P1, P10.5, P11: what is unpacked is the only block of its records
	f.Add(3, 10, "aaabbbccc")
	f.Add(3, 10, "aaabbbc")
	f.Add(0, 0, "")
	f.Add(1000, 1024, strings.Repeat("x", 1000))
	f.Fuzz(func(t *testing.T, length, block int, data string) {
		records, e := fixed.Unpack(length, block, data)
		switch {
		case most(length, block) == 0:
			if len(records) > 0 || e != api.ErrArg {
				t.Errorf("%d, %d: %q, error %d", length, block, records, e)
			}
		case e == api.OK:
			if blocks, e := fixed.Pack(length, block, records...); e != api.OK || !slices.Equal(blocks, []string{data}) {
				t.Errorf("%d, %d, %q: packed %q, error %d", length, block, data, blocks, e)
			}
		default:
			n := len(data) / length
			if e != api.ErrCorrupt || len(records) > 0 || n*length == len(data) && n >= 1 && n <= most(length, block) {
				t.Errorf("%d, %d, %q: %q, error %d", length, block, data, records, e)
			}
		}
		padded := fixed.Pad(length, data)
		if n := min(max(length, 0), 1000); padded != (data + strings.Repeat(" ", 1000))[:n] {
			t.Errorf("%d, %q: padded %q", length, data, padded)
		}
		if longer, ok := fixed.Add(length, block, data, padded); ok != (most(length, block) > 0 && len(data)%length == 0 && len(data)/length < most(length, block)) || ok && longer != data+padded || !ok && longer != "" {
			t.Errorf("%d, %d, %q and %q: %q, %v", length, block, data, padded, longer, ok)
		}
	})
}
