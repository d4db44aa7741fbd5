package archive_test

import (
	"math"
	"slices"
	"strings"
	"testing"

	"dasd/api"
	"dasd/archive"
)

// sample returns an archive with a value of its own in each field.
func sample() api.Archive {
	set := api.DataSet{Id: 1, Org: 2, Format: 3, Length: 4, Block: 5, KeyAt: 6, KeyLength: 7, Interval: 8, Area: 9, FreeInterval: 10, FreeArea: 11, Base: 12, AltAt: 13, AltLength: 14, Unique: true, Class: 15, Volume: "VOL", Owner: "OWN", Created: 16, Expires: 300, Archived: false}
	return api.Archive{Set: set, Number: 18, Pairs: []api.Pair{{Key: "k", Record: "r"}, {Key: "", Record: strings.Repeat("x", 60)}, {Key: "l", Record: ""}}}
}

func TestFrame(t *testing.T) { // P14.1
	long := strings.Repeat("0123456789", 7)
	for _, x := range []struct {
		number      int
		first, last bool
		data        string
		front       string // the bytes before the zeros
	}{
		{300, true, true, "ab", "\x2c\x01\x03\x02ab"}, // the example of the chapter
		{0, false, false, "a", "\x00\x00\x00\x01a"},
		{0, true, false, "a", "\x00\x00\x01\x01a"},
		{0, false, true, "a", "\x00\x00\x02\x01a"},
		{1, true, true, "\x00", "\x01\x00\x03\x01\x00"},
		{1, true, true, "\x00\x00", "\x01\x00\x03\x02\x00\x00"},
		{255, true, true, long[:55], "\xff\x00\x03\x37" + long[:55]},
		{256, true, true, long[:56], "\x00\x01\x03\x38" + long[:56]},
		{65535, false, false, "\xff", "\xff\xff\x00\x01\xff"},
	} {
		want := summed(x.front + strings.Repeat("\x00", 60-len(x.front)))
		if got := archive.Frame(x.number, x.first, x.last, x.data); got != want {
			t.Errorf("%d, %v, %v, %q: %q", x.number, x.first, x.last, x.data, got)
		}
		n, first, last, data, e := archive.ReadFrame(want)
		if n != x.number || first != x.first || last != x.last || data != x.data || e != api.OK {
			t.Errorf("%q: %d, %v, %v, %q, error %d", want, n, first, last, data, e)
		}
	}
}

func TestNoFrame(t *testing.T) { // P14.1: "" for anything else
	for _, x := range []struct {
		number int
		data   string
	}{{-1, "a"}, {65536, "a"}, {math.MinInt, "a"}, {math.MaxInt, "a"}, {1 << 32, "a"}, {0, ""}, {65535, ""}, {0, strings.Repeat("a", 57)}, {1, strings.Repeat("a", 60)}, {1, strings.Repeat("a", 256)}, {1, strings.Repeat("a", 257)}, {-1, ""}} {
		for _, first := range []bool{false, true} {
			for _, last := range []bool{false, true} {
				if s := archive.Frame(x.number, first, last, x.data); s != "" {
					t.Errorf("%d, %v, %v, %q: %q", x.number, first, last, x.data, s)
				}
			}
		}
	}
}

func TestReadFrameErrors(t *testing.T) { // Errors of ReadFrame
	zeros := strings.Repeat("\x00", 64)
	good := frameOf(1, 3, "ab")
	for _, s := range []string{
		"", "\x00", zeros, zeros[:60], strings.Repeat("\xff", 64),
		good[:63], good[1:], good + "\x00", "\x00" + good, good + good, good[:60],
		summed("\x01\x00\x03\x02ab"),                // too short
		summed(("\x01\x00\x03\x02ab" + zeros)[:61]), // too long
		summed(("\x01\x00\x03\x00" + zeros)[:60]),   // no data
		summed(("\x01\x00\x03\x01ab" + zeros)[:60]), // bytes behind the data
		summed(("\x01\x00\x03\x02ab" + zeros)[:59] + "\x01"),
		summed(("\x01\x00\x04\x02ab" + zeros)[:60]), // marks that do not exist
		summed(("\x01\x00\x07\x02ab" + zeros)[:60]),
		summed(("\x01\x00\x80\x02ab" + zeros)[:60]),
		summed(("\x01\x00\x03\x39" + strings.Repeat("x", 56))), // too many bytes
		summed(("\x01\x00\x03\xff" + strings.Repeat("x", 56))),
		summed(("\x01\x00\x03\x39" + zeros)[:60]),
	} {
		if n, first, last, data, e := archive.ReadFrame(s); n != 0 || first || last || data != "" || e != api.ErrCorrupt {
			t.Errorf("%q: %d, %v, %v, %q, error %d", s, n, first, last, data, e)
		}
	}
}

func TestReadFrameDamage(t *testing.T) { // P14.1, P11: what ReadFrame accepts is what Frame returns
	for _, data := range []string{"a", "\x00", "ab\x00\x00", strings.Repeat("x", 56)} {
		for marks := range byte(4) {
			good := frameOf(513, marks, data)
			for at := range good {
				for b := range 256 {
					s := good[:at] + string([]byte{byte(b)}) + good[at+1:]
					if _, _, _, _, e := archive.ReadFrame(s); (e == api.OK) != (s == good) || e != api.OK && e != api.ErrCorrupt {
						t.Errorf("%q: error %d", s, e)
					}
					// With a sum that is right.
					s = summed(s[:60])
					want, ok := parse(s)
					n, first, last, data, e := archive.ReadFrame(s)
					if ok != (e == api.OK) {
						t.Errorf("%q: error %d", s, e)
					}
					if ok && (n != want.number || first != (want.marks&1 == 1) || last != (want.marks&2 == 2) || data != want.data || archive.Frame(n, first, last, data) != s) {
						t.Errorf("%q: %d, %v, %v, %q", s, n, first, last, data)
					}
				}
			}
		}
	}
}

// bends make an archive invalid; each one is the only thing that is wrong.
func bends() []func(a *api.Archive) {
	var l []func(a *api.Archive)
	for i := range numbersOf(&api.Archive{}) {
		for _, n := range []int{-1, math.MinInt, api.MaxNumber + 1, math.MaxInt} {
			l = append(l, func(a *api.Archive) { *numbersOf(a)[i] = n })
		}
	}
	return append(l,
		func(a *api.Archive) { a.Set.Volume = strings.Repeat("x", 32) },
		func(a *api.Archive) { a.Set.Owner = strings.Repeat("x", 32) },
		func(a *api.Archive) { a.Set.Owner = strings.Repeat("x", 1<<16) },
		func(a *api.Archive) { a.Pairs[0].Key = strings.Repeat("x", 33) },
		func(a *api.Archive) { a.Pairs[2].Key = strings.Repeat("x", 33) },
		func(a *api.Archive) { a.Pairs[0].Record = strings.Repeat("x", 1001) },
		func(a *api.Archive) { a.Pairs[2].Record = strings.Repeat("x", 1<<16) },
		func(a *api.Archive) { a.Pairs = make([]api.Pair, 1025) },
		func(a *api.Archive) { a.Pairs = make([]api.Pair, 1<<16) },
	)
}

func TestInvalid(t *testing.T) { // P14.1, P14.2: what is not valid
	if !archive.Valid(sample()) {
		t.Fatal("the sample")
	}
	for i, bend := range bends() {
		a := sample()
		bend(&a)
		if archive.Valid(a) {
			t.Errorf("%d: valid", i)
		}
		if s, e := archive.Encode(a); s != "" || e != api.ErrArg {
			t.Errorf("%d: %d bytes, error %d", i, len(s), e)
		}
		if n := archive.Size(a); n != 0 {
			t.Errorf("%d: %d bytes", i, n)
		}
	}
}

func TestBounds(t *testing.T) { // P14.1 to P14.3: the greatest and the least values
	check := func(name string, a api.Archive) {
		t.Helper()
		want := strings.Join(encoded(a), "")
		s, e := archive.Encode(a)
		if !archive.Valid(a) || s != want || e != api.OK || archive.Size(a) != len(want) {
			t.Errorf("%s: %d bytes, error %d, not %d", name, len(s), e, len(want))
		}
		if b, e := archive.Decode(want); e != api.OK || !same(a, b) {
			t.Errorf("%s: error %d", name, e)
		}
		if b, missing, e := archive.Salvage(want); e != api.OK || missing != 0 || !same(a, b) {
			t.Errorf("%s: %d missing, error %d", name, missing, e)
		}
	}
	check("nothing", api.Archive{})
	check("no pairs", api.Archive{Pairs: []api.Pair{}})
	check("sample", sample())
	for i := range numbersOf(&api.Archive{}) {
		for _, n := range []int{0, 127, 128, api.MaxNumber} {
			a := sample()
			*numbersOf(&a)[i] = n
			check("number", a)
		}
	}
	a := sample()
	for _, n := range numbersOf(&a) {
		*n = api.MaxNumber
	}
	a.Set.Volume, a.Set.Owner, a.Set.Archived = strings.Repeat("\xff", 31), strings.Repeat("\x00", 31), true
	check("all great", a)
	a.Pairs = make([]api.Pair, 1024)
	check("empty pairs", a)
	for i := range a.Pairs {
		a.Pairs[i] = api.Pair{Key: strings.Repeat("k", 32), Record: strings.Repeat("r", 1000)}
	}
	check("long pairs", a)
	if n := archive.Size(a); n/64 >= 1<<16 || n%64 != 0 {
		t.Errorf("%d bytes", n)
	}
	// Items that end at the end of a frame, one byte before and behind it.
	for n := range 120 {
		check("long records", api.Archive{Pairs: []api.Pair{{Record: strings.Repeat("r", n)}, {Key: "k"}}})
	}
}

func TestEncode(t *testing.T) { // P14.2
	long := strings.Repeat("0123456789", 10)
	for _, x := range []struct {
		a    api.Archive
		want []string
	}{
		// The example of the chapter: one frame.
		{api.Archive{}, []string{frameOf(0, 3, strings.Repeat("\x00", 23))}},
		{api.Archive{Set: api.DataSet{Id: 5, Volume: "V"}, Number: 300}, []string{frameOf(0, 3, "\x05"+strings.Repeat("\x00", 15)+"\x01V"+strings.Repeat("\x00", 4)+"\xac\x02\x00")}},
		{sample(), []string{
			frameOf(0, 3, "\x01\x02\x03\x04\x05\x06\x07\x08\x09\x0a\x0b\x0c\x0d\x0e\x01\x0f\x03VOL\x03OWN\x10\xac\x02\x00\x12\x03"),
			frameOf(1, 3, "\x01k\x01r"),
			frameOf(2, 1, "\x00\x3c"+strings.Repeat("x", 54)), frameOf(3, 2, "xxxxxx"),
			frameOf(4, 3, "\x01l\x00"),
		}},
		{api.Archive{Set: api.DataSet{Archived: true}, Pairs: []api.Pair{{Record: long}, {Key: long[:20], Record: long[:34]}, {Record: long[:55]}, {}}}, []string{
			frameOf(0, 3, strings.Repeat("\x00", 20)+"\x01\x00\x04"),
			frameOf(1, 1, "\x00\x64"+long[:54]), frameOf(2, 2, long[54:]),
			frameOf(3, 3, "\x14"+long[:20]+"\x22"+long[:34]),
			frameOf(4, 1, "\x00\x37"+long[:54]), frameOf(5, 2, long[54:55]),
			frameOf(6, 3, "\x00\x00"),
		}},
	} {
		want := strings.Join(x.want, "")
		if s, e := archive.Encode(x.a); s != want || e != api.OK {
			t.Errorf("%v: %q, error %d", x.a, s, e)
		}
		if n := archive.Size(x.a); n != len(want) {
			t.Errorf("%v: %d bytes", x.a, n)
		}
		if a, e := archive.Decode(want); !same(a, x.a) || e != api.OK {
			t.Errorf("%v: %v, error %d", x.a, a, e)
		}
	}
}

func TestSame(t *testing.T) { // P14.1
	if !archive.Same(sample(), sample()) || !archive.Same(api.Archive{}, api.Archive{Pairs: []api.Pair{}}) {
		t.Error("equal archives are not the same")
	}
	changes := []func(a *api.Archive){
		func(a *api.Archive) { a.Set.Unique = !a.Set.Unique },
		func(a *api.Archive) { a.Set.Archived = !a.Set.Archived },
		func(a *api.Archive) { a.Set.Volume = "VOM" },
		func(a *api.Archive) { a.Set.Owner = "" },
		func(a *api.Archive) { a.Pairs = nil },
		func(a *api.Archive) { a.Pairs = a.Pairs[:2] },
		func(a *api.Archive) { a.Pairs = append(a.Pairs, api.Pair{}) },
		func(a *api.Archive) { a.Pairs[0].Key = "j" },
		func(a *api.Archive) { a.Pairs[2].Record = "j" },
		func(a *api.Archive) { a.Pairs[0], a.Pairs[1] = a.Pairs[1], a.Pairs[0] },
	}
	for i := range numbersOf(&api.Archive{}) {
		changes = append(changes, func(a *api.Archive) { *numbersOf(a)[i]++ })
	}
	for i, change := range append(changes, bends()...) {
		a, b := sample(), sample()
		change(&b)
		// Also archives that are not valid are equal or not.
		if archive.Same(a, b) || archive.Same(b, a) || !archive.Same(b, b) {
			t.Errorf("%d: %v", i, b)
		}
	}
}

func TestDecodeErrors(t *testing.T) { // Errors of Decode
	a := sample()
	f := encoded(a)
	first, pairs := firstItem(a, 3), []string{pairItem(a.Pairs[0]), pairItem(a.Pairs[1]), pairItem(a.Pairs[2])}
	join := func(l ...string) string { return strings.Join(l, "") }
	good := join(f...)
	for _, x := range []struct {
		name, s string
	}{
		{"nothing", ""},
		{"a rest", good + "x"},
		{"a zero", good + "\x00"},
		{"a byte before", "\x00" + good},
		{"a byte less", good[:len(good)-1]},
		{"the first byte less", good[1:]},
		{"no first frame", good[64:]},
		{"no last frame", good[:len(good)-64]},
		{"no frame in between", join(f[0], f[1], f[3], f[4])},
		{"another order", join(f[0], f[1], f[3], f[2], f[4])},
		{"a frame twice", join(f[0], f[1], f[1], f[2], f[3], f[4])},
		{"twice", good + good},
		{"a piece that is no frame", join(f[0], f[1], strings.Repeat("\x00", 64), f[2], f[3], f[4])},
		{"a further item", join(append(slices.Clone(f), frameOf(5, 3, pairs[0]))...)},
		{"a further frame without the first one", join(append(slices.Clone(f), frameOf(5, 2, "x"))...)},
		{"wrong numbers", join(frameOf(0, 3, first), frameOf(2, 3, pairs[0]))},
		{"numbers from 1 on", join(frameOf(1, 3, firstItem(a, 0)))},
		{"more pairs than the first item says", join(framesOf(firstItem(a, 2), pairs[0], pairs[1], pairs[2])...)},
		{"less pairs", join(framesOf(firstItem(a, 4), pairs[0], pairs[1], pairs[2])...)},
		{"too many pairs", join(framesOf(append([]string{firstItem(a, 1025)}, slices.Repeat([]string{"\x00\x00"}, 1025)...)...)...)},
		{"a short piece in the first item", join(frameOf(0, 1, first[:5]), frameOf(1, 2, first[5:]), frameOf(2, 3, pairs[0]), frameOf(3, 1, pairs[1][:56]), frameOf(4, 2, pairs[1][56:]), frameOf(5, 3, pairs[2]))},
		{"a short piece in a pair", join(f[0], f[1], frameOf(2, 1, pairs[1][:55]), frameOf(3, 2, pairs[1][55:]), f[4])},
		{"a pair in two frames", join(f[0], frameOf(1, 1, pairs[0][:2]), frameOf(2, 2, pairs[0][2:]))},
		{"no mark of the first frame", join(f[0], f[1], frameOf(2, 0, pairs[1][:56]), f[3], f[4])},
		{"no mark of the last frame", join(f[0], f[1], f[2], frameOf(3, 0, pairs[1][56:]), f[4])},
		{"two first frames", join(f[0], f[1], f[2], frameOf(3, 3, pairs[1][56:]), f[4])},
		{"a byte behind a pair", join(framesOf(first, pairs[0]+"\x00", pairs[1], pairs[2])...)},
		{"half a pair", join(framesOf(first, pairs[0][:2], pairs[1], pairs[2])...)},
		{"a long key", join(framesOf(firstItem(a, 1), pairItem(api.Pair{Key: strings.Repeat("k", 33)}))...)},
		{"a long record", join(framesOf(firstItem(a, 1), pairItem(api.Pair{Record: strings.Repeat("r", 1001)}))...)},
		{"a long length", join(framesOf(firstItem(a, 1), "\x81\x00k\x01r")...)},
	} {
		if b, e := archive.Decode(x.s); e != api.ErrCorrupt || !same(b, api.Archive{}) {
			t.Errorf("%s: %v, error %d", x.name, b, e)
		}
	}
}

func TestFirstItem(t *testing.T) { // Errors of Decode and Salvage: what is no first item of an archive
	var items []string
	for i := range numbersOf(&api.Archive{}) {
		for _, n := range []int{-1, api.MaxNumber + 1, math.MaxInt} {
			a := sample()
			*numbersOf(&a)[i] = n
			items = append(items, firstItem(a, 0))
		}
	}
	a := sample()
	good := firstItem(a, 0)
	for n := range good {
		items = append(items, good[:n], good[n:][1:])
	}
	b, c := sample(), sample()
	b.Set.Volume, c.Set.Owner = strings.Repeat("v", 32), strings.Repeat("o", 32)
	items = append(items, good+"\x00", firstItem(b, 0), firstItem(c, 0), firstItem(a, 1025), firstItem(a, api.MaxNumber), firstItem(a, -1))
	// Truth values and numbers in another form.
	items = append(items, good[:14]+"\x02"+good[15:], "\x81\x00"+good[1:], good[:len(good)-1]+"\x80\x00")
	for _, item := range items {
		s := strings.Join(framesOf(item), "")
		if b, e := archive.Decode(s); e != api.ErrCorrupt || !same(b, api.Archive{}) {
			t.Errorf("%q: %v, error %d", item, b, e)
		}
		if b, missing, e := archive.Salvage(s); e != api.ErrCorrupt || missing != 0 || !same(b, api.Archive{}) {
			t.Errorf("%q: salvaged %v, %d, error %d", item, b, missing, e)
		}
	}
	for _, count := range []int{0, 1, 1024} {
		s := strings.Join(framesOf(firstItem(a, count)), "")
		want := sample()
		want.Pairs = nil
		if b, missing, e := archive.Salvage(s); e != api.OK || missing != count || !same(b, want) {
			t.Errorf("%d pairs: %v, %d, error %d", count, b, missing, e)
		}
	}
}

func TestDecodeDamage(t *testing.T) { // P14.5, P11: each byte of an archive
	a := sample()
	good := strings.Join(encoded(a), "")
	for at := range good {
		for _, mask := range []byte{1, 2, 4, 8, 16, 32, 64, 128, 255, 0x55} {
			s := good[:at] + string([]byte{good[at] ^ mask}) + good[at+1:]
			if b, e := archive.Decode(s); e != api.ErrCorrupt || !same(b, api.Archive{}) {
				t.Errorf("%d: %v, error %d", at, b, e)
			}
			// With a sum that is right, what is decoded is what is encoded.
			from := at / 64 * 64
			s = good[:from] + summed(s[from:from+60]) + good[from+64:]
			if b, e := archive.Decode(s); e == api.OK && strings.Join(encoded(b), "") != s || e != api.OK && (e != api.ErrCorrupt || !same(b, api.Archive{})) {
				t.Errorf("%d: with a sum, %v, error %d", at, b, e)
			}
		}
	}
}
