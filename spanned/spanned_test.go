package spanned_test

import (
	"math"
	"slices"
	"strings"
	"testing"

	"dasd/api"
	"dasd/spanned"
)

func TestValid(t *testing.T) { // P12.1
	numbers := []int{math.MinInt, -1024, -1, 0, 1, 2, 7, 8, 9, 10, 80, 512, 999, 1000, 1001, 1023, 1024, 1025, math.MaxInt}
	for _, length := range numbers {
		for _, block := range numbers {
			if got := spanned.Valid(length, block); got != fit(length, block) {
				t.Errorf("%d, %d: %v", length, block, got)
			}
		}
	}
	for _, x := range []struct {
		length, block int
		want          bool
	}{{1, 9, true}, {1, 8, false}, {0, 9, false}, {1000, 9, true}, {1001, 9, false}, {1000, 1024, true}, {1000, 1025, false}, {-1, -1, false}} {
		if got := spanned.Valid(x.length, x.block); got != x.want {
			t.Errorf("%d, %d: %v", x.length, x.block, got)
		}
	}
}

func TestPack(t *testing.T) { // P12.1
	long := strings.Repeat("x", 1000)
	for _, x := range []struct {
		length, block int
		records, want []string
	}{
		{6, 12, nil, nil},
		{6, 12, []string{}, nil},
		{6, 12, []string{""}, []string{"\x00\x08\x00\x00\x00\x04\x00\x00"}},
		{6, 12, []string{"abcd"}, []string{"\x00\x0c\x00\x00\x00\x08\x00\x00abcd"}},
		{6, 12, []string{"abcdef"}, []string{"\x00\x0c\x00\x00\x00\x08\x01\x00abcd", "\x00\x0a\x00\x00\x00\x06\x02\x00ef"}},
		{12, 12, []string{"abcdefghij"}, []string{sealed(form(1, "abcd")), sealed(form(3, "efgh")), sealed(form(2, "ij"))}},
		{12, 12, []string{"abcdefghijkl"}, []string{sealed(form(1, "abcd")), sealed(form(3, "efgh")), sealed(form(2, "ijkl"))}},
		{6, 9, []string{"abc"}, []string{sealed(form(1, "a")), sealed(form(3, "b")), sealed(form(2, "c"))}},
		// Room for the whole record, to the last byte.
		{6, 16, []string{"ab", "cd"}, []string{sealed(form(0, "ab"), form(0, "cd"))}},
		{6, 15, []string{"ab", "cd"}, []string{sealed(form(0, "ab"), form(1, "c")), sealed(form(2, "d"))}},
		// Room for the word of a segment, but for none of its bytes: an empty record goes there, no other one.
		{6, 14, []string{"ab", ""}, []string{sealed(form(0, "ab"), form(0, ""))}},
		{6, 14, []string{"ab", "c"}, []string{sealed(form(0, "ab")), sealed(form(0, "c"))}},
		{9, 14, []string{"ab", "abcdefg"}, []string{sealed(form(0, "ab")), sealed(form(1, "abcdef")), sealed(form(2, "g"))}},
		{6, 13, []string{"ab", ""}, []string{sealed(form(0, "ab")), sealed(form(0, ""))}},
		{6, 10, []string{"ab", ""}, []string{sealed(form(0, "ab")), sealed(form(0, ""))}},
		// A part in the last block, then new blocks.
		{8, 14, []string{"a", "bcdefgh"}, []string{sealed(form(0, "a"), form(1, "b")), sealed(form(2, "cdefgh"))}},
		{8, 14, []string{"a", "bcdefghi"}, []string{sealed(form(0, "a"), form(1, "b")), sealed(form(3, "cdefgh")), sealed(form(2, "i"))}},
		// Behind the last part of a record there is room for others.
		{8, 14, []string{"abcdefg", "hi"}, []string{sealed(form(1, "abcdef")), sealed(form(2, "g"), form(1, "h")), sealed(form(2, "i"))}},
		{8, 14, []string{"abcdefg", "", "j"}, []string{sealed(form(1, "abcdef")), sealed(form(2, "g"), form(0, "")), sealed(form(0, "j"))}},
		{8, 18, []string{"", "", "", "x"}, []string{sealed(form(0, ""), form(0, ""), form(0, "")), sealed(form(0, "x"))}},
		{1000, 1024, []string{long, long}, []string{sealed(form(0, long), form(1, long[:12])), sealed(form(2, long[12:]))}},
		{1000, 1008, []string{long, long}, []string{sealed(form(0, long)), sealed(form(0, long))}},
		{1000, 508, []string{long}, []string{sealed(form(1, long[:500])), sealed(form(2, long[500:]))}},
		{2, 1024, slices.Repeat([]string{""}, 256), []string{sealed(slices.Repeat([]string{form(0, "")}, 255)...), sealed(form(0, ""))}},
		{6, 30, []string{"\x00\xff", "\n\x80"}, []string{sealed(form(0, "\x00\xff"), form(0, "\n\x80"))}},
	} {
		if got, e := spanned.Pack(x.length, x.block, x.records...); !slices.Equal(got, x.want) || e != api.OK {
			t.Errorf("%d, %d, %q: %q, error %d", x.length, x.block, x.records, got, e)
		}
		if got, e := spanned.Unpack(x.length, x.block, x.want...); !slices.Equal(got, x.records) || e != api.OK { // P12.2
			t.Errorf("%d, %d, %q: unpacked %q, error %d", x.length, x.block, x.want, got, e)
		}
	}
}

func TestPackErrors(t *testing.T) { // Errors of Pack
	for _, x := range []struct {
		length, block int
		records       []string
		want          api.Errno
	}{
		{0, 12, nil, api.ErrArg},
		{0, 12, []string{"a"}, api.ErrArg},
		{-1, 12, []string{""}, api.ErrArg},
		{6, 8, nil, api.ErrArg},
		{6, 8, []string{"abcdefg"}, api.ErrArg},
		{1001, 12, nil, api.ErrArg},
		{6, 1025, nil, api.ErrArg},
		{math.MaxInt, math.MaxInt, nil, api.ErrArg},
		{math.MinInt, math.MinInt, []string{"a"}, api.ErrArg},
		{6, 12, []string{"abcdefg"}, api.ErrRange},
		{6, 1024, []string{"abcdef", "", "abcdefg", ""}, api.ErrRange},
		{1000, 9, []string{strings.Repeat("x", 1001)}, api.ErrRange},
		{1000, 1024, []string{strings.Repeat("x", 70000)}, api.ErrRange},
	} {
		if got, e := spanned.Pack(x.length, x.block, x.records...); len(got) > 0 || e != x.want {
			t.Errorf("%d, %d, %q: %q, error %d, not %d", x.length, x.block, x.records, got, e, x.want)
		}
	}
}

func TestSegments(t *testing.T) { // P12.2
	first, middle, last := spanned.Segment{After: true, Data: "abcdef"}, spanned.Segment{Before: true, After: true, Data: "abcdef"}, spanned.Segment{Before: true, Data: "g"}
	for _, x := range []struct {
		length, block int
		data          string
		want          []spanned.Segment
	}{
		{12, 14, "\x00\x08\x00\x00\x00\x04\x00\x00", []spanned.Segment{{}}},
		{12, 14, "\x00\x0a\x00\x00\x00\x06\x00\x00ab", []spanned.Segment{{Data: "ab"}}},
		{12, 14, "\x00\x0e\x00\x00\x00\x0a\x01\x00abcdef", []spanned.Segment{first}},
		{12, 14, "\x00\x09\x00\x00\x00\x05\x02\x00g", []spanned.Segment{last}},
		{12, 14, "\x00\x0e\x00\x00\x00\x0a\x03\x00abcdef", []spanned.Segment{middle}},
		{12, 14, sealed(form(2, "g"), form(1, "h")), []spanned.Segment{last, {After: true, Data: "h"}}},
		{12, 14, sealed(form(0, ""), form(1, "hi")), []spanned.Segment{{}, {After: true, Data: "hi"}}},
		{12, 24, sealed(form(2, "g"), form(0, ""), form(0, "ab"), form(1, "h")), []spanned.Segment{last, {}, {Data: "ab"}, {After: true, Data: "h"}}},
		{12, 100, sealed(form(2, "g"), form(0, ""), form(0, "ab")), []spanned.Segment{last, {}, {Data: "ab"}}},
		// A part may have as many bytes as a record.
		{6, 14, sealed(form(1, "abcdef")), []spanned.Segment{first}},
		{6, 14, sealed(form(3, "abcdef")), []spanned.Segment{middle}},
		{1, 9, sealed(form(2, "g")), []spanned.Segment{last}},
		{1000, 1024, sealed(form(0, strings.Repeat("x", 1000)), form(1, "123456789012")), []spanned.Segment{{Data: strings.Repeat("x", 1000)}, {After: true, Data: "123456789012"}}},
		{1, 1024, sealed(slices.Repeat([]string{form(0, "")}, 255)...), make([]spanned.Segment, 255)},
	} {
		if got, e := spanned.Segments(x.length, x.block, x.data); !slices.Equal(got, x.want) || e != api.OK {
			t.Errorf("%d, %d, %q: %v, error %d", x.length, x.block, x.data, got, e)
		}
	}
}

func TestSegmentsErrors(t *testing.T) { // Errors of Segments
	good := sealed(form(0, ""), form(1, "ab")) // 14 bytes
	for _, x := range []struct {
		length, block int
		data          string
		want          api.Errno
	}{
		{0, 14, good, api.ErrArg},
		{-1, 14, "", api.ErrArg},
		{12, 8, good, api.ErrArg},
		{1001, 14, good, api.ErrArg},
		{12, 1025, good, api.ErrArg},
		{math.MaxInt, math.MinInt, good, api.ErrArg},
		{12, 14, "", api.ErrCorrupt},
		{12, 14, "\x00", api.ErrCorrupt},
		{12, 14, "\x00\x04\x00", api.ErrCorrupt},
		{12, 14, "\x00\x04\x00\x00", api.ErrCorrupt}, // no segment
		{12, 14, "\x00\x00\x00\x00", api.ErrCorrupt},
		{12, 14, good[:13], api.ErrCorrupt},
		{12, 14, good + "\x00", api.ErrCorrupt},
		{12, 13, good, api.ErrCorrupt},
		{12, 15, good, api.ErrCorrupt}, // After, but the block is not full
		{1, 14, good, api.ErrCorrupt},
		{12, 14, "\x00\x0d\x00\x00" + good[4:], api.ErrCorrupt},
		{12, 14, "\x00\x0f\x00\x00" + good[4:], api.ErrCorrupt},
		{12, 14, "\x00\x0e\x01\x00" + good[4:], api.ErrCorrupt},
		{12, 14, "\x00\x0e\x00\x01" + good[4:], api.ErrCorrupt},
		{12, 14, sealed(form(4, "ab")), api.ErrCorrupt},
		{12, 14, sealed(form(0xff, "abcdef")), api.ErrCorrupt},
		{12, 14, sealed("\x00\x04\x00\x01"), api.ErrCorrupt},
		{12, 14, sealed("\x00\x03\x00\x00"), api.ErrCorrupt},
		{12, 14, sealed("\x00\x00\x00\x00"), api.ErrCorrupt},
		{12, 14, sealed("\x00\x05\x00\x00"), api.ErrCorrupt},
		{12, 14, sealed("\x00\x04\x00"), api.ErrCorrupt},
		{12, 14, sealed(form(0, "ab"), "\x00"), api.ErrCorrupt},
		{12, 14, sealed(form(0, "a"), "\x00\x04\x00"), api.ErrCorrupt},
		// parts without bytes
		{12, 14, sealed(form(2, "")), api.ErrCorrupt},
		{12, 14, sealed(form(2, ""), form(0, "ab")), api.ErrCorrupt},
		{12, 14, sealed(form(0, "ab"), form(1, "")), api.ErrCorrupt},
		{12, 14, sealed(form(0, "ab"), form(3, "")), api.ErrCorrupt},
		// parts where they cannot be
		{12, 14, sealed(form(0, ""), form(2, "ab")), api.ErrCorrupt},
		{12, 14, sealed(form(0, ""), form(2, "a")), api.ErrCorrupt},
		{12, 14, sealed(form(0, ""), form(3, "ab")), api.ErrCorrupt},
		{12, 14, sealed(form(1, "a"), form(0, "b")), api.ErrCorrupt},
		{12, 14, sealed(form(1, "a"), form(2, "b")), api.ErrCorrupt},
		{12, 14, sealed(form(3, "a"), form(2, "b")), api.ErrCorrupt},
		{12, 14, sealed(form(1, "abcde")), api.ErrCorrupt},
		{12, 14, sealed(form(3, "abcde")), api.ErrCorrupt},
		// too long
		{5, 14, sealed(form(0, "abcdef")), api.ErrCorrupt},
		{5, 14, sealed(form(1, "abcdef")), api.ErrCorrupt},
		{5, 14, sealed(form(2, "abcdef")), api.ErrCorrupt},
		{12, 14, sealed(form(0, "abcdefg")), api.ErrCorrupt},
		{12, 14, good + strings.Repeat("\x00", 65536), api.ErrCorrupt},
		{12, 14, strings.Repeat("\x00", 65536+14), api.ErrCorrupt},
	} {
		if got, e := spanned.Segments(x.length, x.block, x.data); len(got) > 0 || e != x.want {
			t.Errorf("%d, %d, %q: %v, error %d, not %d", x.length, x.block, x.data, got, e, x.want)
		}
	}
}

func TestJoin(t *testing.T) { // P12.2, Errors of Join
	first, middle, last := spanned.Segment{After: true, Data: "a"}, spanned.Segment{Before: true, After: true, Data: "b"}, spanned.Segment{Before: true, Data: "c"}
	whole, empty := spanned.Segment{Data: "w"}, spanned.Segment{}
	for _, x := range []struct {
		length int
		l      []spanned.Segment
		want   []string
		e      api.Errno
	}{
		{3, nil, nil, api.OK},
		{0, nil, nil, api.OK},
		{-1, nil, nil, api.OK},
		{3, []spanned.Segment{whole}, []string{"w"}, api.OK},
		{0, []spanned.Segment{empty, empty}, []string{"", ""}, api.OK},
		{3, []spanned.Segment{first, last}, []string{"ac"}, api.OK},
		{3, []spanned.Segment{first, middle, last, first, last, empty, whole}, []string{"abc", "ac", "", "w"}, api.OK},
		{4, []spanned.Segment{first, middle, middle, last}, []string{"abbc"}, api.OK},
		{math.MaxInt, []spanned.Segment{first, {Before: true, Data: strings.Repeat("x", 5000)}}, []string{"a" + strings.Repeat("x", 5000)}, api.OK},
		{3, []spanned.Segment{first}, nil, api.ErrCorrupt},
		{3, []spanned.Segment{whole, first}, nil, api.ErrCorrupt},
		{3, []spanned.Segment{first, middle}, nil, api.ErrCorrupt},
		{3, []spanned.Segment{middle}, nil, api.ErrCorrupt},
		{3, []spanned.Segment{last}, nil, api.ErrCorrupt},
		{3, []spanned.Segment{whole, last}, nil, api.ErrCorrupt},
		{3, []spanned.Segment{first, last, last}, nil, api.ErrCorrupt},
		{3, []spanned.Segment{first, last, middle, last}, nil, api.ErrCorrupt},
		{3, []spanned.Segment{first, whole}, nil, api.ErrCorrupt},
		{3, []spanned.Segment{first, empty, last}, nil, api.ErrCorrupt},
		{3, []spanned.Segment{first, first, last}, nil, api.ErrCorrupt},
		{3, []spanned.Segment{first, middle, middle, last}, nil, api.ErrCorrupt},
		{2, []spanned.Segment{whole, first, middle, last}, nil, api.ErrCorrupt},
		{0, []spanned.Segment{whole}, nil, api.ErrCorrupt},
		{-1, []spanned.Segment{empty}, nil, api.ErrCorrupt},
		{math.MinInt, []spanned.Segment{whole}, nil, api.ErrCorrupt},
		{999, []spanned.Segment{{Data: strings.Repeat("x", 1000)}}, nil, api.ErrCorrupt},
	} {
		if got, e := spanned.Join(x.length, x.l...); !slices.Equal(got, x.want) || e != x.e {
			t.Errorf("%d, %v: %q, error %d, not %d", x.length, x.l, got, e, x.e)
		}
	}
}

func TestUnpackErrors(t *testing.T) { // Errors of Unpack
	for _, x := range []struct {
		length, block int
		blocks        []string
		want          api.Errno
	}{
		{0, 14, nil, api.ErrArg},
		{-1, 14, []string{""}, api.ErrArg},
		{12, 8, []string{sealed(form(0, ""))}, api.ErrArg},
		{1001, 14, nil, api.ErrArg},
		{12, 1025, []string{"x"}, api.ErrArg},
		{12, 14, nil, api.OK},
		{12, 14, []string{""}, api.ErrCorrupt},
		{12, 14, []string{"x"}, api.ErrCorrupt},
		{12, 14, []string{"\x00\x04\x00\x00"}, api.ErrCorrupt},
		{12, 14, []string{sealed(form(0, "ab")), ""}, api.ErrCorrupt},
		{12, 14, []string{"", sealed(form(0, "ab"))}, api.ErrCorrupt},
		// segments that are no records
		{12, 14, []string{sealed(form(1, "abcdef"))}, api.ErrCorrupt},
		{12, 14, []string{sealed(form(2, "g"))}, api.ErrCorrupt},
		{12, 14, []string{sealed(form(1, "abcdef")), sealed(form(0, "g"))}, api.ErrCorrupt},
		{6, 14, []string{sealed(form(1, "abcdef")), sealed(form(2, "g"))}, api.ErrCorrupt},
		// blocks that had room for what follows
		{12, 14, []string{sealed(form(0, "a")), sealed(form(0, "b"))}, api.ErrCorrupt},
		{12, 14, []string{sealed(form(0, "ab")), sealed(form(0, ""))}, api.ErrCorrupt},
		{12, 17, []string{sealed(form(0, "ab"), form(1, "cde")), sealed(form(2, "f"), form(0, "")), sealed(form(0, ""), form(0, ""))}, api.ErrCorrupt},
		{12, 16, []string{sealed(form(0, "ab"), form(1, "cd")), sealed(form(2, "e"), form(0, "")), sealed(form(0, ""), form(0, ""))}, api.OK},
		{12, 15, []string{sealed(form(0, "ab")), sealed(form(1, "cdefghi")), sealed(form(2, "j"))}, api.ErrCorrupt},
		// the right blocks, and the same in another order
		{12, 14, []string{sealed(form(0, "ab")), sealed(form(0, "c"))}, api.OK},
		{12, 14, []string{sealed(form(1, "abcdef")), sealed(form(2, "g"))}, api.OK},
		{12, 14, []string{sealed(form(2, "g")), sealed(form(1, "abcdef"))}, api.ErrCorrupt},
		// A record that fits into a new block begins in the last one all the same.
		{12, 14, []string{sealed(form(0, "a"), form(1, "b")), sealed(form(2, "c"))}, api.OK},
		{12, 14, []string{sealed(form(0, "a")), sealed(form(0, "bc"))}, api.ErrCorrupt},
	} {
		got, e := spanned.Unpack(x.length, x.block, x.blocks...)
		if e != x.want || e != api.OK && len(got) > 0 {
			t.Errorf("%d, %d, %q: %q, error %d, not %d", x.length, x.block, x.blocks, got, e, x.want)
		}
	}
}

func TestAppend(t *testing.T) { // P12.3
	whole, last := sealed(form(0, "ab")), sealed(form(2, "g"))
	for _, x := range []struct {
		length, block int
		blocks        []string
		record        string
		kept          int
		want          []string
	}{
		{12, 14, nil, "", 0, []string{sealed(form(0, ""))}},
		{12, 14, []string{}, "ab", 0, []string{whole}},
		{12, 14, nil, "abcdefg", 0, []string{sealed(form(1, "abcdef")), last}},
		{12, 14, []string{whole}, "", 0, []string{sealed(form(0, "ab"), form(0, ""))}},
		{12, 14, []string{whole}, "c", 1, []string{sealed(form(0, "c"))}},
		{12, 15, []string{whole}, "c", 0, []string{sealed(form(0, "ab"), form(0, "c"))}},
		{12, 15, []string{whole}, "cd", 0, []string{sealed(form(0, "ab"), form(1, "c")), sealed(form(2, "d"))}},
		{12, 14, []string{whole}, "abcdefg", 1, []string{sealed(form(1, "abcdef")), last}},
		{12, 14, []string{last}, "hijklmn", 0, []string{sealed(form(2, "g"), form(1, "h")), sealed(form(2, "ijklmn"))}},
		{12, 14, []string{last}, "hijklmno", 0, []string{sealed(form(2, "g"), form(1, "h")), sealed(form(3, "ijklmn")), sealed(form(2, "o"))}},
		{12, 14, []string{sealed(form(0, "abcdef"))}, "", 1, []string{sealed(form(0, ""))}},
		{12, 14, []string{sealed(form(2, "abcdef"))}, "g", 1, []string{sealed(form(0, "g"))}},
		// Of the blocks, only the last one matters.
		{12, 14, []string{"", "x", sealed(form(1, "abcdef")), sealed(form(0, "a"))}, "b", 3, []string{sealed(form(0, "a"), form(0, "b"))}},
		{12, 14, []string{"", "x", strings.Repeat("y", 70000), whole}, "b", 4, []string{sealed(form(0, "b"))}},
		{12, 14, []string{sealed(form(0, "a")), sealed(form(0, "a")), sealed(form(0, "a"))}, "b", 2, []string{sealed(form(0, "a"), form(0, "b"))}},
	} {
		room := append(slices.Clone(x.blocks), "behind", "behind")
		kept, got, e := spanned.Append(x.length, x.block, room[:len(x.blocks)], x.record)
		if kept != x.kept || !slices.Equal(got, x.want) || e != api.OK {
			t.Errorf("%d, %d, %q, %q: %d blocks stay, then %q, error %d", x.length, x.block, x.blocks, x.record, kept, got, e)
		}
		clear(got)
		if !slices.Equal(room, append(slices.Clone(x.blocks), "behind", "behind")) {
			t.Errorf("%d, %d, %q, %q: the blocks have become %q", x.length, x.block, x.blocks, x.record, room)
		}
	}
}

func TestAppendErrors(t *testing.T) { // Errors of Append
	whole := sealed(form(0, "ab"))
	for _, x := range []struct {
		length, block int
		blocks        []string
		record        string
		want          api.Errno
	}{
		{0, 14, nil, "", api.ErrArg},
		{0, 14, []string{"x"}, "ab", api.ErrArg},
		{-1, 14, []string{whole}, "", api.ErrArg},
		{12, 8, []string{whole}, "ab", api.ErrArg},
		{1001, 14, nil, "", api.ErrArg},
		{12, 1025, []string{"x"}, "abcdefghijklm", api.ErrArg},
		{12, 14, nil, "abcdefghijklm", api.ErrRange},
		{12, 14, []string{whole}, "abcdefghijklm", api.ErrRange},
		{12, 14, []string{"x"}, "abcdefghijklm", api.ErrRange},
		{12, 14, []string{""}, "", api.ErrCorrupt},
		{12, 14, []string{whole, "x"}, "", api.ErrCorrupt},
		{12, 14, []string{whole, "\x00\x04\x00\x00"}, "a", api.ErrCorrupt},
		{12, 14, []string{whole, whole + "\x00"}, "a", api.ErrCorrupt},
		{1, 14, []string{whole}, "a", api.ErrCorrupt},
		{12, 9, []string{whole}, "a", api.ErrCorrupt},
		{12, 14, []string{sealed(form(1, "abcdef"))}, "", api.ErrCorrupt},
		{12, 14, []string{sealed(form(3, "abcdef"))}, "g", api.ErrCorrupt},
		{12, 14, []string{whole, sealed(form(2, "g"), form(1, "h"))}, "i", api.ErrCorrupt},
	} {
		if kept, got, e := spanned.Append(x.length, x.block, x.blocks, x.record); kept != 0 || len(got) > 0 || e != x.want {
			t.Errorf("%d, %d, %q, %q: %d blocks stay, then %q, error %d, not %d", x.length, x.block, x.blocks, x.record, kept, got, e, x.want)
		}
	}
}
