package spanned_test

import (
	"math/rand"
	"slices"
	"strings"
	"testing"

	"dasd/api"
	"dasd/spanned"
)

// several returns random records of at most length bytes.
func several(random *rand.Rand, length, most int) []string {
	l := make([]string, random.Intn(most+1))
	for i := range l {
		data := make([]byte, random.Intn(length>>random.Intn(8)+1))
		random.Read(data)
		l[i] = string(data)
	}
	return l
}

// appended returns the blocks that appending records one by one leads to.
func appended(t *testing.T, length, block int, records []string) []string {
	t.Helper()
	var blocks []string
	for _, record := range records {
		kept, further, e := spanned.Append(length, block, blocks, record)
		if e != api.OK || kept < len(blocks)-1 || kept > len(blocks) || len(further) == 0 {
			t.Fatalf("%d, %d, %q, %q: %d blocks stay, then %d, error %d", length, block, blocks, record, kept, len(further), e)
		}
		blocks = append(slices.Clone(blocks[:kept]), further...)
	}
	return blocks
}

func TestBlocks(t *testing.T) { // P12.1 to P12.4: packing, appending, joining and unpacking agree
	random := rand.New(rand.NewSource(7))
	for range 3000 {
		length := 1 + random.Intn(1000>>random.Intn(10))
		block := 9 + random.Intn(1+1015>>random.Intn(10))
		given := several(random, length, 40)
		l := slices.Clone(given)
		blocks, e := spanned.Pack(length, block, l...)
		if e != api.OK || !slices.Equal(blocks, packed(block, l)) || !slices.Equal(blocks, appended(t, length, block, l)) {
			t.Fatalf("%d, %d, %d records: %d blocks, error %d", length, block, len(l), len(blocks), e)
		}
		var all []spanned.Segment
		for _, data := range blocks {
			part, e := spanned.Segments(length, block, data)
			if e != api.OK || !slices.Equal(part, segments(length, block, data)) {
				t.Fatalf("%d, %d, %q: %v, error %d", length, block, data, part, e)
			}
			all = append(all, part...)
		}
		if back, e := spanned.Join(length, all...); !slices.Equal(back, given) || e != api.OK {
			t.Fatalf("%d, %d: joined %q, error %d, not %q", length, block, back, e, given)
		}
		copied := slices.Clone(blocks)
		back, e := spanned.Unpack(length, block, blocks...)
		if !slices.Equal(back, given) || e != api.OK || !slices.Equal(blocks, copied) || !slices.Equal(l, given) {
			t.Fatalf("%d, %d: unpacked %q, error %d, not %q", length, block, back, e, given)
		}
		clear(back)
		clear(blocks)
		if !slices.Equal(l, given) {
			t.Fatalf("%d, %d: the records share memory with results", length, block)
		}
	}
}

// small are the greatest length and the block size of the tests that try everything.
const (
	smallLength = 9
	smallBlock  = 14
)

// smallBlocks returns all blocks of small size whose segments have only bytes a.
func smallBlocks() []string {
	var blocks []string
	var grow func(forms string)
	grow = func(forms string) {
		if data := sealed(forms); segments(smallLength, smallBlock, data) != nil {
			blocks = append(blocks, data)
		}
		for code := range byte(4) {
			for n := 0; 4+len(forms)+4+n <= smallBlock; n++ {
				grow(forms + form(code, strings.Repeat("a", n)))
			}
		}
	}
	grow("")
	return blocks
}

// smallRecords returns, by their blocks, all lists of records of bytes a that have at most most blocks of small size.
func smallRecords(most int) map[string][]string {
	found := map[string][]string{}
	var grow func(blocks, records []string)
	grow = func(blocks, records []string) {
		if len(blocks) > most {
			return
		}
		found[strings.Join(blocks, "|")] = records
		for n := range smallLength + 1 {
			record := strings.Repeat("a", n)
			grow(put(smallBlock, blocks, record), append(slices.Clone(records), record))
		}
	}
	grow(nil, nil)
	return found
}

func TestAllBlocks(t *testing.T) { // P12.4: what Unpack accepts is what Pack returns
	const most = 3
	blocks, found := smallBlocks(), smallRecords(most)
	if len(blocks) < 25 || len(found) < 100 {
		t.Fatalf("only %d blocks and %d lists of records", len(blocks), len(found))
	}
	accepted := 0
	var try func(l []string)
	try = func(l []string) {
		want, ok := found[strings.Join(l, "|")]
		got, e := spanned.Unpack(smallLength, smallBlock, l...)
		if !slices.Equal(got, want) || ok != (e == api.OK) || !ok && e != api.ErrCorrupt {
			t.Errorf("%q: %q, error %d, not %q, %v", l, got, e, want, ok)
		}
		if ok {
			accepted++
		}
		for _, data := range blocks {
			if len(l) < most {
				try(append(slices.Clone(l), data))
			}
		}
	}
	try(nil)
	if accepted != len(found) {
		t.Errorf("%d lists of blocks are accepted, not %d", accepted, len(found))
	}
}

func TestAllAppends(t *testing.T) { // P12.3: behind any last block
	for _, data := range smallBlocks() {
		l := segments(smallLength, smallBlock, data)
		for n := range smallLength + 1 {
			record := strings.Repeat("b", n)
			blocks := []string{"any", data}
			kept, further, e := spanned.Append(smallLength, smallBlock, blocks, record)
			if l[len(l)-1].After {
				if kept != 0 || len(further) > 0 || e != api.ErrCorrupt {
					t.Errorf("%q, %q: %d blocks stay, then %q, error %d", data, record, kept, further, e)
				}
				continue
			}
			want := put(smallBlock, blocks, record)
			stay := 2
			if want[1] != data {
				stay = 1
			}
			if kept != stay || !slices.Equal(further, want[stay:]) || e != api.OK {
				t.Errorf("%q, %q: %d blocks stay, then %q, error %d", data, record, kept, further, e)
			}
		}
	}
}

func TestAllJoins(t *testing.T) { // P12.2: all short lists of segments
	var parts []spanned.Segment
	for _, data := range []string{"", "a", "bc"} {
		for i := range 4 {
			parts = append(parts, spanned.Segment{Before: i&1 != 0, After: i&2 != 0, Data: data})
		}
	}
	var try func(l []spanned.Segment)
	try = func(l []spanned.Segment) {
		for _, length := range []int{-1, 0, 1, 3, 8} {
			given := slices.Clone(l)
			want, ok := joined(length, l)
			got, e := spanned.Join(length, l...)
			if !slices.Equal(got, want) || ok != (e == api.OK) || !ok && e != api.ErrCorrupt || !slices.Equal(l, given) {
				t.Errorf("%d, %v: %q, error %d, not %q, %v", length, l, got, e, want, ok)
			}
		}
		for _, s := range parts {
			if len(l) < 4 {
				try(append(slices.Clone(l), s))
			}
		}
	}
	try(nil)
}

func TestDamage(t *testing.T) { // P12.2: each byte of a block, each length, cut and continued
	for _, good := range smallBlocks() {
		for _, block := range []int{len(good) - 1, len(good), smallBlock, smallBlock + 1} {
			try := func(data string) {
				for _, length := range []int{2, smallLength} {
					if !fit(length, block) {
						return
					}
					want := segments(length, block, data)
					got, e := spanned.Segments(length, block, data)
					if !slices.Equal(got, want) || (e == api.OK) != (want != nil) || e != api.OK && e != api.ErrCorrupt {
						t.Errorf("%d, %d, %q: %v, error %d, not %v", length, block, data, got, e, want)
					}
				}
			}
			for at := range len(good) {
				try(good[:at])
				try(good[at:])
				try(good + good[:at+1])
				for b := range 256 {
					try(good[:at] + string([]byte{byte(b)}) + good[at+1:])
				}
			}
		}
	}
}

func FuzzUnpack(f *testing.F) { // P1, P12.4, P11: what is unpacked are the only blocks of its records
	f.Add(12, 14, sealed(form(0, ""), form(1, "ab")), sealed(form(2, "g")), "c")
	f.Add(12, 14, sealed(form(1, "abcdef")), sealed(form(2, "g")), "abcdefgh")
	f.Add(12, 14, sealed(form(0, "ab")), sealed(form(0, "c")), "")
	f.Add(0, 0, "", "", "")
	f.Add(1000, 1024, sealed(form(0, strings.Repeat("x", 1000))), "", "")
	f.Fuzz(func(t *testing.T, length, block int, a, b, record string) {
		blocks := []string{a, b}
		got, e := spanned.Unpack(length, block, blocks...)
		kept, further, e2 := spanned.Append(length, block, blocks, record)
		if !fit(length, block) {
			if e != api.ErrArg || e2 != api.ErrArg || len(got) > 0 || kept != 0 || len(further) > 0 {
				t.Errorf("%d, %d: %q, errors %d and %d", length, block, got, e, e2)
			}
			return
		}
		first, last := segments(length, block, a), segments(length, block, b)
		records, ok := joined(length, slices.Concat(first, last))
		if ok = ok && first != nil && last != nil && slices.Equal(packed(block, records), blocks); !ok {
			records = nil
		}
		if ok != (e == api.OK) || !ok && e != api.ErrCorrupt || !slices.Equal(got, records) {
			t.Errorf("%d, %d, %q: %q, error %d, not %q, %v", length, block, blocks, got, e, records, ok)
		}
		switch {
		case len(record) > length:
			if e2 != api.ErrRange {
				t.Errorf("%d, %d, %q: error %d", length, block, record, e2)
			}
		case last == nil || last[len(last)-1].After:
			if e2 != api.ErrCorrupt {
				t.Errorf("%d, %d, %q: error %d", length, block, b, e2)
			}
		case e2 != api.OK || kept < 1 || !slices.Equal(put(block, blocks, record), append(blocks[:kept:kept], further...)):
			t.Errorf("%d, %d, %q and %q: %d blocks stay, then %q, error %d", length, block, b, record, kept, further, e2)
		}
	})
}
