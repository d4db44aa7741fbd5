package sequential_test

import (
	"math"
	"slices"
	"strings"
	"testing"

	"dasd/api"
	"dasd/sequential"
)

func TestValid(t *testing.T) { // P13.1
	numbers := []int{math.MinInt, -1024, -1, 0, 1, 2, 3, 8, 9, 10, 24, 31, 32, 33, 40, 41, 992, 999, 1000, 1001, 1008, 1016, 1017, 1023, 1024, 1025, math.MaxInt}
	for _, format := range []int{math.MinInt, -1, 0, 1, 2, 3, 4, math.MaxInt} {
		for _, length := range numbers {
			for _, block := range numbers {
				x := set(format, length, block)
				if got := sequential.Valid(x); got != fit(x) {
					t.Errorf("%v: %v", x, got)
				}
			}
		}
	}
	for _, x := range []struct {
		set  api.DataSet
		want bool
	}{
		{set(api.Fixed, 1, 1), true},
		{set(api.Fixed, 2, 1), false},
		{set(api.Fixed, 1000, 1024), true},
		{set(api.Fixed, 1000, 1025), false},
		{set(api.Variable, 1, 9), true},
		{set(api.Variable, 1, 8), false},
		{set(api.Variable, 1000, 1008), true},
		{set(api.Variable, 1000, 1007), false},
		{set(api.Spanned, 1, 32), true},
		{set(api.Spanned, 1, 31), false},
		{set(api.Spanned, 1000, 32), true},
		{set(api.Spanned, 1001, 32), false},
		{api.DataSet{}, false},
	} {
		if got := sequential.Valid(x.set); got != x.want {
			t.Errorf("%v: %v", x.set, got)
		}
	}
	for _, org := range []int{math.MinInt, -1, api.EntrySequenced, api.Relative, api.Keyed, api.Raw, 5, math.MaxInt} {
		x := set(api.Fixed, 3, 6)
		x.Org = org
		if sequential.Valid(x) {
			t.Errorf("the organisation %d", org)
		}
	}
}

// others is a description with nonsense in the fields that do not matter.
func others(x api.DataSet) api.DataSet {
	n := math.MinInt
	return api.DataSet{Id: n, Org: x.Org, Format: x.Format, Length: x.Length, Block: x.Block, KeyAt: n, KeyLength: -1, Interval: 7, Area: n, FreeInterval: n, FreeArea: n, Base: n, AltAt: n, AltLength: n, Unique: true, Class: 99, Volume: strings.Repeat("v", 99), Owner: "\x00", Created: n, Expires: math.MaxInt, Archived: true}
}

func TestOtherFields(t *testing.T) { // P13.1: they do not matter
	x := set(api.Fixed, 3, 6)
	y := others(x)
	l, e := sequential.Build(y, 9, "abc", "def")
	want := built(x, 9, []string{"abc", "def"})
	if !sequential.Valid(y) || e != api.OK || !slices.Equal(l, changed(nil, want)) {
		t.Errorf("%v, error %d", l, e)
	}
	if l, e := sequential.Records(y, want); e != api.OK || !slices.Equal(l, []string{"abc", "def"}) {
		t.Errorf("%q, error %d", l, e)
	}
}

func TestFormat(t *testing.T) { // P13.1
	for _, x := range []struct {
		number int
		head   string
	}{{0, "\x00"}, {1, "\x01"}, {127, "\x7f"}, {300, "\xac\x02"}, {api.MaxNumber, "\x80\x80\x80\x80\x80\x20"}} {
		for _, d := range []api.DataSet{set(api.Fixed, 3, 6), set(api.Variable, 3, 11), set(api.Spanned, 3, 32)} {
			want := []api.SectorWrite{{Sector: 0, Data: filled(x.head)}}
			if l, e := sequential.Format(d, x.number); e != api.OK || !slices.Equal(l, want) {
				t.Errorf("%v, %d: %v, error %d", d, x.number, l, e)
			}
			if l, e := sequential.Build(d, x.number); e != api.OK || !slices.Equal(l, want) {
				t.Errorf("%v, %d: built %v, error %d", d, x.number, l, e)
			}
			p := sectors{filled(x.head)}
			if l, e := sequential.Records(d, p); e != api.OK || len(l) > 0 {
				t.Errorf("%v, %d: %q, error %d", d, x.number, l, e)
			}
			if number, count, size, e := sequential.Head(p); number != x.number || count != 0 || size != 0 || e != api.OK {
				t.Errorf("%v, %d: %d, %d, %d, error %d", d, x.number, number, count, size, e)
			}
		}
	}
}

// samples are data sets with streams of up to some sectors.
func samples() []struct {
	set     api.DataSet
	records []string
	blocks  []string
} {
	long := strings.Repeat("0123456789", 100)
	return []struct {
		set     api.DataSet
		records []string
		blocks  []string
	}{
		{set(api.Fixed, 3, 6), []string{"abc", "def"}, []string{"abcdef"}},
		{set(api.Fixed, 3, 6), []string{"abc", "def", "ghi"}, []string{"abcdef", "ghi"}},
		{set(api.Fixed, 3, 8), []string{"abc", "def", "ghi"}, []string{"abcdef", "ghi"}},
		{set(api.Fixed, 1, 1), []string{"a", "\x00", "\xff"}, []string{"a", "\x00", "\xff"}},
		{set(api.Fixed, 3, 6), []string{"\x00\x00\x00"}, []string{"\x00\x00\x00"}},
		// Streams that end at the end of a sector, and one byte before and behind it.
		{set(api.Fixed, 125, 125), []string{long[:125]}, []string{long[:125]}},
		{set(api.Fixed, 126, 126), []string{long[:126]}, []string{long[:126]}},
		{set(api.Fixed, 127, 127), []string{long[:127]}, []string{long[:127]}},
		{set(api.Fixed, 126, 200), []string{long[:126], long[1:127], long[2:128]}, []string{long[:126], long[1:127], long[2:128]}},
		{set(api.Fixed, 1000, 1024), []string{long, strings.Repeat("\x00", 1000)}, []string{long, strings.Repeat("\x00", 1000)}},
		{set(api.Variable, 4, 14), []string{"ab", "", "cdef"}, []string{sealed(part(0, "ab") + part(0, "")), sealed(part(0, "cdef"))}},
		{set(api.Variable, 1000, 1024), []string{long, long[:12], long[:8], ""}, []string{sealed(part(0, long) + part(0, long[:12])), sealed(part(0, long[:8]) + part(0, ""))}},
		{set(api.Variable, 3, 11), []string{""}, []string{sealed(part(0, ""))}},
		{set(api.Spanned, 40, 32), []string{long[:25]}, []string{sealed(part(1, long[:24])), sealed(part(2, "4"))}},
		{set(api.Spanned, 40, 32), []string{long[:40], "", "x"}, []string{sealed(part(1, long[:24])), sealed(part(2, long[24:40]) + part(0, "")), sealed(part(0, "x"))}},
		{set(api.Spanned, 1000, 1024), []string{long, long}, []string{sealed(part(0, long) + part(1, long[:12])), sealed(part(2, long[12:]))}},
	}
}

func TestBuild(t *testing.T) { // P13.1, P13.2
	for _, x := range samples() {
		want := sectorsOf(300, len(x.records), streamOf(x.blocks...))
		l, e := sequential.Build(x.set, 300, x.records...)
		if e != api.OK || !slices.Equal(l, changed(nil, want)) {
			t.Errorf("%v, %q: %v, error %d", x.set, x.records, l, e)
		}
		if l, e := sequential.Blocks(x.set, want); e != api.OK || !slices.Equal(l, x.blocks) {
			t.Errorf("%v, %q: blocks %q, error %d", x.set, x.records, l, e)
		}
		if l, e := sequential.Records(x.set, want); e != api.OK || !slices.Equal(l, x.records) {
			t.Errorf("%v, %q: records %q, error %d", x.set, x.records, l, e)
		}
		if number, count, size, e := sequential.Head(want); number != 300 || count != len(x.records) || size != len(streamOf(x.blocks...)) || e != api.OK {
			t.Errorf("%v, %q: %d, %d, %d, error %d", x.set, x.records, number, count, size, e)
		}
		if n, e := sequential.Need(x.set, want); n != len(want) || e != api.OK {
			t.Errorf("%v, %q: %d sectors, error %d", x.set, x.records, n, e)
		}
	}
}

func TestExample(t *testing.T) { // P13.1: the example of the chapter
	want := []api.SectorWrite{{Sector: 0, Data: filled("\x09\x02\x08")}, {Sector: 1, Data: filled("\x06\x00abcdef")}}
	if l, e := sequential.Build(set(api.Fixed, 3, 6), 9, "abc", "def"); e != api.OK || !slices.Equal(l, want) {
		t.Errorf("%v, error %d", l, e)
	}
}

func TestHead(t *testing.T) { // P13.2 and the errors of Head
	const most = api.MaxNumber
	for _, numbers := range [][]uint64{{0, 0, 0}, {1, 2, 3}, {most, most, most}, {0, most, 0}, {127, 128, 16384}} {
		// The numbers need not fit each other, and Head does not read the stream.
		p := sectors{headOf(numbers...)}
		if number, count, size, e := sequential.Head(p); uint64(number) != numbers[0] || uint64(count) != numbers[1] || uint64(size) != numbers[2] || e != api.OK {
			t.Errorf("%d: %d, %d, %d, error %d", numbers, number, count, size, e)
		}
	}
	for _, s := range []string{
		"", "\x01\x02\x03", filled("\x01\x02\x03")[:127], filled("\x01\x02\x03") + "\x00", filled("\x01\x02\x03") + filled(""),
		headOf(most+1, 2, 3), headOf(1, most+1, 3), headOf(1, 2, most+1), headOf(math.MaxUint64, 2, 3), headOf(1, math.MaxUint64, 3), headOf(1, 2, math.MaxUint64), headOf(1<<63, 1<<63, 1<<63),
		headOf(1, 2, 3, 4), filled("\x01\x02\x03\x00\x01"), filled("\x01\x02\x03")[:127] + "\x01",
		filled("\x81\x00\x02\x03"), filled("\x01\x82\x00\x03"), filled("\x01\x02\x83\x00"), filled("\x80\x00\x02\x03"), filled("\x01\x02\x80\x00"),
		filled(strings.Repeat("\xff", 9) + "\x02\x01\x02"), strings.Repeat("\xff", 128), strings.Repeat("\x80", 128),
	} {
		if number, count, size, e := sequential.Head(sectors{s}); number != 0 || count != 0 || size != 0 || e != api.ErrCorrupt {
			t.Errorf("%q: %d, %d, %d, error %d", s, number, count, size, e)
		}
		if l, e := sequential.Records(set(api.Fixed, 3, 6), sectors{s, filled("\x03\x00abc")}); len(l) > 0 || e != api.ErrCorrupt {
			t.Errorf("%q: records %q, error %d", s, l, e)
		}
	}
}

func TestPageErrors(t *testing.T) { // Reading: the error of a page is returned as it is
	for _, x := range samples() {
		p := built(x.set, 5, x.records)
		for at := range p {
			for code := api.ErrArg; code <= api.ErrDuplicate; code++ {
				checkErrors(t, x.set, broken{p, at, code}, code)
			}
			// A page that is too short or too long.
			for _, s := range []string{"", p[at][:127], p[at] + "\x00"} {
				q := slices.Clone(p)
				q[at] = s
				checkErrors(t, x.set, q, api.ErrCorrupt)
				// In order: what is behind it is not reached, what is before it is.
				if at+1 < len(p) {
					checkErrors(t, x.set, broken{q, at + 1, api.ErrStale}, api.ErrCorrupt)
				}
				if at > 0 {
					checkErrors(t, x.set, broken{q, at - 1, api.ErrStale}, api.ErrStale)
				}
			}
		}
		// What is behind the stream does not matter.
		for _, q := range []api.Pages{append(slices.Clone(p), "x"), broken{p, len(p), api.ErrStale}, broken{p, -1, api.ErrStale}} {
			if l, e := sequential.Records(x.set, q); !slices.Equal(l, x.records) || e != api.OK {
				t.Errorf("%v, %q: %q, error %d", x.set, x.records, l, e)
			}
		}
	}
}

// checkErrors checks that all functions that read a data set return an error.
func checkErrors(t *testing.T, x api.DataSet, p api.Pages, want api.Errno) {
	t.Helper()
	l, e := sequential.Blocks(x, p)
	if len(l) > 0 || e != want {
		t.Errorf("%v: blocks %q, error %d, not %d", x, l, e, want)
	}
	if l, e := sequential.Records(x, p); len(l) > 0 || e != want {
		t.Errorf("%v: records %q, error %d, not %d", x, l, e, want)
	}
	if s, e := sequential.Get(x, p, "no place"); s != "" || e != want {
		t.Errorf("%v: record %q, error %d, not %d", x, s, e, want)
	}
	if k, s, e := sequential.Next(x, p, "no place"); k != "" || s != "" || e != want {
		t.Errorf("%v: next %q, %q, error %d, not %d", x, k, s, e, want)
	}
	if w, e := sequential.Append(x, p, 5); len(w) > 0 || e != want {
		t.Errorf("%v: appended %v, error %d, not %d", x, w, e, want)
	}
	if n, e := sequential.Need(x, p); n != 0 || e != want {
		t.Errorf("%v: %d sectors, error %d, not %d", x, n, e, want)
	}
}

func TestCorrupt(t *testing.T) { // Reading: what is not the stream of as many records
	x, y, z := set(api.Fixed, 3, 6), set(api.Variable, 4, 14), set(api.Spanned, 40, 32)
	long := strings.Repeat("x", 128)
	for _, c := range []struct {
		set    api.DataSet
		count  int
		size   int
		stream string
	}{
		{x, 0, 1, ""},
		{x, 0, 2, ""},
		{x, 0, 5, "\x03\x00abc"},
		{x, 1, 0, ""},
		{x, 1, 0, "\x03\x00abc"},
		{x, 1, 4, "\x03\x00abc"},
		{x, 1, 6, "\x03\x00abc"},
		{x, 1, 7, "\x03\x00abc"}, // a block without bytes
		{x, 1, 128, "\x03\x00abc"},
		{x, 2, 5, "\x03\x00abc"},
		{x, api.MaxNumber, 5, "\x03\x00abc"},
		{x, 1, 5, "\x03\x00abc\x01"}, // no zeros behind it
		{x, 1, 5, filled("\x03\x00abc")[:127] + "\x01"},
		{x, 1, 5, "\x00\x03abc"},
		{x, 1, 5, "\x04\x00abcd"},
		{x, 1, 5, "\x02\x00ab"},
		{x, 1, 6, "\x04\x00abcd"},
		{x, 1, 4, "\x02\x00ab"},
		{x, 1, 1, "\x03"},
		{x, 1, 2, "\x03\x00"},
		{x, 2, 10, "\x03\x00abc\x03\x00def"}, // not as few blocks as possible
		{x, 3, 13, "\x03\x00abc\x06\x00defghi"},
		{x, 3, 11, "\x09\x00abcdefghi"},
		{x, 1, 130, "\x80\x00" + long},
		{x, 1, 128, "\x7f\x00" + long[:126]}, // a block that goes on behind the stream
		{y, 1, 10, "\x08\x00\x00\x08\x00\x00\x00\x04\x00\x01"},
		{y, 1, 6, "\x04\x00\x00\x04\x00\x00"},
		{y, 1, 15, streamOf(sealed(part(0, "abcde")))},
		{y, 2, 20, streamOf(sealed(part(0, "")), sealed(part(0, "")))},
		{y, 3, 22, streamOf(sealed(part(0, "ab") + part(0, "") + part(0, "")))},
		{z, 1, 10, streamOf(sealed(part(2, "")))},
		{z, 1, 34, streamOf(sealed(part(1, long[:24])))},
		{z, 0, 34, streamOf(sealed(part(1, long[:24])))},
		{z, 1, 12, streamOf(sealed(part(2, "ab")))},
		{z, 2, 24, streamOf(sealed(part(0, "ab")), sealed(part(0, "ab")))},
		{z, 2, 68, streamOf(sealed(part(1, long[:24])), sealed(part(3, long[:24])))},
		{z, 1, 78, streamOf(sealed(part(1, long[:24])), sealed(part(3, long[:24])), sealed(part(2, "")))},
	} {
		p := sectors{headOf(7, uint64(c.count), uint64(c.size))}
		for at := 0; at < c.size; at += 128 {
			p = append(p, filled((c.stream + filled(""))[min(at, len(c.stream)):]))
		}
		checkErrors(t, c.set, p, api.ErrCorrupt)
	}
	// The same sectors with a description that they do not have.
	p := built(x, 7, []string{"abc", "def"})
	for _, d := range []api.DataSet{set(api.Fixed, 3, 3), set(api.Fixed, 2, 6), set(api.Fixed, 6, 6), set(api.Variable, 3, 14), set(api.Spanned, 3, 32)} {
		checkErrors(t, d, p, api.ErrCorrupt)
	}
	// A size that no sectors have: the first one that is not there is an error.
	checkErrors(t, x, sectors{headOf(7, 1, api.MaxNumber), filled("\x03\x00abc")}, api.ErrRange)
	checkErrors(t, x, sectors{headOf(7, 1, 129), filled("\xff\xffabc")}, api.ErrRange)
}

func TestGet(t *testing.T) { // P13.3
	x := set(api.Variable, 4, 14)
	records := []string{"ab", "", "cdef"}
	p := built(x, 5, records)
	for n, want := range records {
		if s, e := sequential.Get(x, p, placeOf(n+1)); s != want || e != api.OK {
			t.Errorf("%d: %q, error %d", n+1, s, e)
		}
	}
	for _, key := range []string{"", placeOf(0), placeOf(4), placeOf(-1), placeOf(math.MinInt), placeOf(1 << 32), placeOf(1<<32 + 1), placeOf(1<<56 + 1), "\x01", "\x00", placeOf(1)[:7], placeOf(1)[1:], placeOf(1) + "\x00", "\x00" + placeOf(1), placeOf(2) + placeOf(2), strings.Repeat("x", 1000), "abcdefgh"} {
		if s, e := sequential.Get(x, p, key); s != "" || e != api.ErrNotFound {
			t.Errorf("%q: %q, error %d", key, s, e)
		}
	}
	if s, e := sequential.Get(x, built(x, 5, nil), placeOf(1)); s != "" || e != api.ErrNotFound {
		t.Errorf("no records: %q, error %d", s, e)
	}
}

func TestNext(t *testing.T) { // P13.3
	x := set(api.Variable, 4, 14)
	records := []string{"ab", "", "cdef"}
	p := built(x, 5, records)
	for _, c := range []struct {
		key  string
		want int
	}{
		{"", 1}, {"\x00", 1}, {placeOf(0)[:7], 1}, {placeOf(0), 1}, {placeOf(0) + "\xff", 1},
		{placeOf(1), 2}, {placeOf(1) + "\x00", 2}, {placeOf(2), 3}, {placeOf(2) + strings.Repeat("\xff", 100), 3},
		{placeOf(3), 0}, {placeOf(3) + "\x00", 0}, {placeOf(4), 0}, {placeOf(1)[1:], 0}, {placeOf(0)[1:], 1}, {placeOf(0)[:6] + "\x01", 0}, {"\x01", 0}, {placeOf(-1), 0}, {placeOf(math.MinInt), 0}, {placeOf(256), 0}, {placeOf(1 << 32), 0}, {"x", 0}, {strings.Repeat("\x00", 1000), 1},
	} {
		k, s, e := sequential.Next(x, p, c.key)
		if c.want == 0 {
			if k != "" || s != "" || e != api.ErrNotFound {
				t.Errorf("%q: %q, %q, error %d", c.key, k, s, e)
			}
			continue
		}
		if k != placeOf(c.want) || s != records[c.want-1] || e != api.OK {
			t.Errorf("%q: %q, %q, error %d", c.key, k, s, e)
		}
	}
	if k, s, e := sequential.Next(x, built(x, 5, nil), ""); k != "" || s != "" || e != api.ErrNotFound {
		t.Errorf("no records: %q, %q, error %d", k, s, e)
	}
}

func TestManyPlaces(t *testing.T) { // P13.3: places of more than a byte
	x := set(api.Fixed, 2, 1024)
	var records []string
	for n := range 70000 {
		records = append(records, placeOf(n + 1)[6:])
	}
	p := built(x, 5, records)
	for _, n := range []int{1, 255, 256, 257, 511, 65535, 65536, 65537, 70000} {
		want := placeOf(n)[6:]
		if s, e := sequential.Get(x, p, placeOf(n)); s != want || e != api.OK {
			t.Errorf("%d: %q, error %d", n, s, e)
		}
		if k, s, e := sequential.Next(x, p, placeOf(n-1)); k != placeOf(n) || s != want || e != api.OK {
			t.Errorf("%d: next %q, %q, error %d", n, k, s, e)
		}
	}
	if s, e := sequential.Get(x, p, placeOf(70001)); s != "" || e != api.ErrNotFound {
		t.Errorf("%q, error %d", s, e)
	}
}

func TestAppend(t *testing.T) { // P13.4
	long := strings.Repeat("0123456789", 100)
	for _, c := range []struct {
		set           api.DataSet
		before, added []string
		writes        []int // the sectors that change
	}{
		{set(api.Fixed, 3, 6), nil, nil, []int{0}},
		{set(api.Fixed, 3, 6), nil, []string{"abc"}, []int{0, 1}},
		{set(api.Fixed, 3, 6), []string{"abc"}, nil, []int{0}},
		{set(api.Fixed, 3, 6), []string{"abc"}, []string{"def"}, []int{0, 1}},
		{set(api.Fixed, 126, 126), []string{long[:126]}, []string{long[:126]}, []int{0, 2}},    // full sectors
		{set(api.Fixed, 126, 252), []string{long[:126]}, []string{long[:126]}, []int{0, 1, 2}}, // the size of a block changes
		{set(api.Fixed, 126, 126), []string{long[:126], long[:126]}, nil, []int{0}},
		{set(api.Fixed, 252, 252), []string{long[:252]}, []string{long[:252]}, []int{0, 2, 3, 4}},
		{set(api.Fixed, 254, 254), []string{long[:254]}, []string{long[:254]}, []int{0, 3, 4}},
		{set(api.Fixed, 64, 64), []string{long[:64]}, []string{strings.Repeat("\x00", 64)}, []int{0, 1, 2}},
		{set(api.Fixed, 300, 1000), []string{long[:300]}, []string{long[:300]}, []int{0, 1, 3, 4, 5}}, // sector 2 stays as it is
		{set(api.Variable, 116, 126), []string{long[:116]}, []string{""}, []int{0, 1, 2}},
		{set(api.Variable, 4, 14), []string{"ab"}, []string{"", "cdef"}, []int{0, 1}},
		{set(api.Spanned, 1000, 1024), []string{long}, []string{long}, []int{0, 1, 8, 9, 10, 11, 12, 13, 14, 15, 16}},
		// A new sector counts as changed, even if it is zero.
		{set(api.Fixed, 126, 126), []string{long[:126]}, []string{strings.Repeat("\x00", 126)}, []int{0, 2}},
		{set(api.Fixed, 400, 400), nil, []string{strings.Repeat("\x00", 400)}, []int{0, 1, 2, 3, 4}},
	} {
		p := built(c.set, 5, c.before)
		want := built(c.set, 6, slices.Concat(c.before, c.added))
		l, e := sequential.Append(c.set, append(slices.Clone(p), filled(""), filled("")), 6, c.added...)
		var at []int
		for _, w := range l {
			at = append(at, w.Sector)
		}
		if e != api.OK || !slices.Equal(at, c.writes) || !slices.Equal(l, changed(p, want)) {
			t.Errorf("%v, %d and %d records: %v, error %d", c.set, len(c.before), len(c.added), at, e)
		}
		if after, ok := p.with(l); !ok || !slices.Equal(after, want) {
			t.Errorf("%v, %d and %d records: %q, not %q", c.set, len(c.before), len(c.added), after, want)
		}
		if n, e := sequential.Need(c.set, p, c.added...); n != len(want) || e != api.OK {
			t.Errorf("%v, %d and %d records: %d sectors, error %d", c.set, len(c.before), len(c.added), n, e)
		}
	}
}

func TestAppliedNumber(t *testing.T) { // P13.4: it may be any number, also a smaller one
	x := set(api.Fixed, 3, 6)
	p := built(x, 5, []string{"abc"})
	for _, number := range []int{0, 1, 5, 127, 128, api.MaxNumber} {
		want := []api.SectorWrite{{Sector: 0, Data: headOf(uint64(number), 1, 5)}}
		if l, e := sequential.Append(x, p, number); e != api.OK || !slices.Equal(l, want) {
			t.Errorf("%d: %v, error %d", number, l, e)
		}
	}
}

func TestOrderOfErrors(t *testing.T) { // Errors: the order of the table
	good, bad := set(api.Fixed, 3, 6), set(api.Fixed, 3, 2)
	fine, lost := built(good, 5, []string{"abc"}), broken{nil, 0, api.ErrLost}
	for _, c := range []struct {
		set     api.DataSet
		number  int
		records []string
		pages   api.Pages
		build   api.Errno // of Format (without records), Build
		change  api.Errno // of Append
		need    api.Errno
	}{
		{bad, 5, nil, fine, api.ErrArg, api.ErrArg, api.ErrArg},
		{bad, -1, []string{"a"}, lost, api.ErrArg, api.ErrArg, api.ErrArg},
		{good, -1, []string{"a"}, lost, api.ErrArg, api.ErrArg, api.ErrRange},
		{good, math.MinInt, []string{"abc"}, lost, api.ErrArg, api.ErrArg, api.ErrLost},
		{good, api.MaxNumber + 1, nil, fine, api.ErrArg, api.ErrArg, api.OK},
		{good, math.MaxInt, []string{"a"}, fine, api.ErrArg, api.ErrArg, api.ErrRange},
		{good, 0, []string{"abc", "de"}, lost, api.ErrRange, api.ErrRange, api.ErrRange},
		{good, api.MaxNumber, []string{"abcd"}, fine, api.ErrRange, api.ErrRange, api.ErrRange},
		{good, 5, []string{""}, sectors{"x"}, api.ErrRange, api.ErrRange, api.ErrRange},
		{good, 5, []string{"abc"}, lost, api.OK, api.ErrLost, api.ErrLost},
		{good, 5, []string{"abc"}, sectors{"x"}, api.OK, api.ErrCorrupt, api.ErrCorrupt},
		{good, 5, []string{"abc"}, fine, api.OK, api.OK, api.OK},
		{set(api.Variable, 3, 11), 5, []string{"abcd"}, lost, api.ErrRange, api.ErrRange, api.ErrRange},
		{set(api.Variable, 3, 10), 5, []string{"abcd"}, lost, api.ErrArg, api.ErrArg, api.ErrArg},
		{set(api.Spanned, 3, 32), 5, []string{"abcd"}, lost, api.ErrRange, api.ErrRange, api.ErrRange},
		{set(api.Spanned, 3, 31), 5, []string{"abcd"}, lost, api.ErrArg, api.ErrArg, api.ErrArg},
		{set(3, 3, 32), 5, []string{"abcd"}, lost, api.ErrArg, api.ErrArg, api.ErrArg},
		{set(-1, 3, 32), 5, nil, fine, api.ErrArg, api.ErrArg, api.ErrArg},
	} {
		if l, e := sequential.Build(c.set, c.number, c.records...); e != c.build || e != api.OK && len(l) > 0 {
			t.Errorf("%v, %d, %q: built %v, error %d", c.set, c.number, c.records, l, e)
		}
		if l, e := sequential.Append(c.set, c.pages, c.number, c.records...); e != c.change || e != api.OK && len(l) > 0 {
			t.Errorf("%v, %d, %q: appended %v, error %d", c.set, c.number, c.records, l, e)
		}
		if n, e := sequential.Need(c.set, c.pages, c.records...); e != c.need || e != api.OK && n != 0 {
			t.Errorf("%v, %q: %d sectors, error %d", c.set, c.records, n, e)
		}
		if l, e := sequential.Format(c.set, c.number); (e == api.ErrArg) != (c.build == api.ErrArg) || e != api.OK && (e != api.ErrArg || len(l) > 0) {
			t.Errorf("%v, %d: %v, error %d", c.set, c.number, l, e)
		}
	}
	// An invalid description is an error before those of reading.
	for _, x := range []api.DataSet{bad, {}, set(api.Spanned, 3, 31), set(3, 3, 6), {Org: api.Keyed, Length: 3, Block: 6}} {
		for _, p := range []api.Pages{lost, fine, sectors{"x"}} {
			checkErrors(t, x, p, api.ErrArg)
		}
	}
}
