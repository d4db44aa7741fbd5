package archive_test

import (
	"math/rand"
	"slices"
	"strings"
	"testing"

	"dasd/api"
	"dasd/archive"
)

func TestSalvage(t *testing.T) { // P14.4
	a := sample()
	f := encoded(a)
	none := strings.Repeat("\x00", 64)
	first, pair := firstItem(a, 3), a.Pairs[1]
	item := pairItem(pair)
	for _, x := range []struct {
		name    string
		s       []string
		pairs   []api.Pair
		missing int
	}{
		{"everything", f, a.Pairs, 0},
		{"the first item", f[:1], nil, 3},
		{"the first item with a rest", []string{f[0], "x"}, nil, 3},
		{"no pair 0", []string{f[0], f[2], f[3], f[4]}, a.Pairs[1:], 1},
		{"no first frame of pair 1", []string{f[0], f[1], f[3], f[4]}, []api.Pair{a.Pairs[0], a.Pairs[2]}, 1},
		{"no last frame of pair 1", []string{f[0], f[1], f[2], f[4]}, []api.Pair{a.Pairs[0], a.Pairs[2]}, 1},
		{"another order", []string{f[4], f[3], f[1], f[0], f[2]}, a.Pairs, 0},
		{"zeros in between", []string{none, f[0], none, f[1], f[2], none, none, f[3], f[4], none}, a.Pairs, 0},
		{"pieces at other places", []string{f[0], "x", f[1], f[2], f[3], f[4]}, nil, 3},
		{"half a frame", []string{f[0], f[1], f[2], f[3][:32]}, a.Pairs[:1], 2},
		{"twice", slices.Concat(f, f), a.Pairs, 0},
		{"the first of two frames counts", append(slices.Clone(f), frameOf(1, 3, "\x01k\x01s")), a.Pairs, 0},
		{"the first of two frames counts, though it is no pair", append([]string{frameOf(1, 3, "\x01k\x01")}, f...), a.Pairs[1:], 1},
		{"the first of two frames counts, though it is no item", append([]string{frameOf(1, 2, "\x01k\x01r")}, f...), a.Pairs[1:], 1},
		{"a damaged frame does not count", append([]string{"x" + f[1][1:]}, f...), a.Pairs, 0},
		{"bytes behind a pair", []string{f[0], frameOf(1, 3, "\x01k\x01r\x00"), f[2], f[3], f[4]}, a.Pairs[1:], 1},
		{"half a pair", []string{f[0], frameOf(1, 3, "\x01k\x02r"), f[2], f[3], f[4]}, a.Pairs[1:], 1},
		{"a length in another form", []string{f[0], frameOf(1, 3, "\x81\x00k\x01r"), f[4]}, a.Pairs[2:], 2},
		{"pieces of other sizes", []string{frameOf(0, 1, first[:5]), frameOf(1, 0, first[5:6]), frameOf(2, 2, first[6:]), frameOf(3, 1, item[:1]), frameOf(4, 2, item[1:50]), frameOf(5, 3, "\x00\x00")}, []api.Pair{{}}, 2},
		{"short pieces", []string{frameOf(7, 1, item[:1]), frameOf(8, 0, item[1:50]), frameOf(9, 2, item[50:]), f[0]}, []api.Pair{pair}, 2},
		{"a gap in the numbers", []string{f[0], frameOf(6, 1, item[:56]), frameOf(8, 2, item[56:])}, nil, 3},
		{"a second first frame", []string{f[0], frameOf(6, 1, item[:56]), frameOf(7, 3, item[56:])}, nil, 3},
		{"a second first frame that begins a pair", []string{f[0], frameOf(6, 1, "\x02"), frameOf(7, 1, item[:56]), frameOf(8, 2, item[56:])}, []api.Pair{pair}, 2},
		{"frames behind the last one", []string{f[0], f[1], frameOf(2, 0, "\x01"), frameOf(3, 2, "\x01")}, a.Pairs[:1], 2},
		{"more pairs than the first item says", append(slices.Clone(f), frameOf(5, 3, "\x00\x00"), frameOf(65535, 3, "\x01z\x00")), append(slices.Clone(a.Pairs), api.Pair{}, api.Pair{Key: "z"}), 0},
		{"an item that does not end", append(slices.Clone(f), frameOf(65535, 1, "\x00\x00")), a.Pairs, 0},
		{"the numbers do not begin again", []string{frameOf(65535, 1, "\x00"), f[0], f[1], f[2], f[3], f[4]}, a.Pairs, 0},
		{"pairs that look like first items", []string{f[0], frameOf(1, 3, first), f[4]}, a.Pairs[2:], 2},
		{"long keys and records", append([]string{f[0]}, framesOf(strings.Repeat("x", 56), pairItem(api.Pair{Key: strings.Repeat("k", 33)}), pairItem(api.Pair{Record: strings.Repeat("r", 1001)}), pairItem(api.Pair{Key: strings.Repeat("k", 32), Record: strings.Repeat("r", 1000)}))[1:]...), []api.Pair{{Key: strings.Repeat("k", 32), Record: strings.Repeat("r", 1000)}}, 2},
	} {
		want := sample()
		want.Pairs = x.pairs
		b, missing, e := archive.Salvage(strings.Join(x.s, ""))
		if e != api.OK || missing != x.missing || !same(b, want) {
			t.Errorf("%s: %v, %d, error %d", x.name, b, missing, e)
		}
	}
}

func TestSalvageErrors(t *testing.T) { // Errors of Salvage: the item of the frame 0 is not there
	a := sample()
	f := encoded(a)
	first := firstItem(a, 3)
	for _, x := range []struct {
		name string
		s    []string
	}{
		{"nothing", nil},
		{"a rest", []string{f[0][:63]}},
		{"no frame 0", f[1:]},
		{"a damaged frame 0", append([]string{"x" + f[0][1:]}, f[1:]...)},
		{"the first of two frames 0", append([]string{frameOf(0, 3, "\x01k\x01r")}, f...)},
		{"no mark of the first frame", append([]string{frameOf(0, 2, first)}, f[1:]...)},
		{"no mark of the last frame", append([]string{frameOf(0, 1, first)}, f[1:]...)},
		{"no end", []string{frameOf(0, 1, first)}},
		{"a gap", []string{frameOf(0, 1, first[:9]), frameOf(2, 2, first[9:])}},
		{"another number", append([]string{frameOf(5, 3, first)}, f[1:]...)},
		{"a pair", []string{frameOf(0, 3, "\x01k\x01r")}},
		{"a byte more", append([]string{frameOf(0, 3, first+"\x00")}, f[1:]...)},
		{"a byte less", append([]string{frameOf(0, 3, first[:len(first)-1])}, f[1:]...)},
		{"a byte before", []string{"x", strings.Join(f, "")}},
	} {
		if b, missing, e := archive.Salvage(strings.Join(x.s, "")); e != api.ErrCorrupt || missing != 0 || !same(b, api.Archive{}) {
			t.Errorf("%s: %v, %d, error %d", x.name, b, missing, e)
		}
	}
}

// checkSalvage checks what is salvaged of bytes against the definition.
func checkSalvage(t *testing.T, s string) {
	t.Helper()
	a, missing, e := archive.Salvage(s)
	items, zero := saved(s)
	first, count, ok := api.Archive{}, 0, false
	if zero {
		first, count, ok = firstOf(items[0])
	}
	if !ok {
		if e != api.ErrCorrupt || missing != 0 || !same(a, api.Archive{}) {
			t.Errorf("%q: %v, %d, error %d", s, a, missing, e)
		}
		return
	}
	first.Pairs = a.Pairs
	if e != api.OK || !same(a, first) || missing != max(count-len(a.Pairs), 0) {
		t.Errorf("%q: %v, %d, error %d, not %v and %d pairs", s, a, missing, e, first, count)
		return
	}
	at := 0
	for _, item := range items[1:] {
		if at < len(a.Pairs) && item == pairItem(a.Pairs[at]) {
			at++
		} else if p, ok := pairOf(item); ok {
			t.Errorf("%q: the pair %v is not returned", s, p)
		}
	}
	if at != len(a.Pairs) {
		t.Errorf("%q: there are only %d pairs of %v", s, at, a.Pairs)
	}
}

// pairOf returns the pair that an item is, by trying all lengths of keys.
func pairOf(item string) (api.Pair, bool) {
	for n := range min(33, len(item)) {
		rest := item[n+1:]
		for head := 1; head <= min(2, len(rest)); head++ {
			p := api.Pair{Key: item[1 : n+1], Record: rest[head:]}
			if pairItem(p) == item && len(p.Record) <= 1000 {
				return p, true
			}
		}
	}
	return api.Pair{}, false
}

func TestRandomFrames(t *testing.T) { // P14.4: any frames in any order
	random := rand.New(rand.NewSource(14))
	pieces := []string{"\x00\x00", "\x01k\x00", "\x01k\x01", "\x00", "r", "\x00\x01", "\x01k\x01rr"}
	for range 4000 {
		first := firstItem(someArchive(random, 0), random.Intn(8))
		l := framesOf(first)
		numbers := len(l) + 6
		for range random.Intn(14) {
			l = append(l, frameOf(random.Intn(numbers), byte(random.Intn(4)), pieces[random.Intn(len(pieces))]))
		}
		if random.Intn(3) == 0 {
			random.Shuffle(len(l), func(i, j int) { l[i], l[j] = l[j], l[i] })
		}
		checkSalvage(t, strings.Join(l, ""))
	}
}

func TestRandomArchives(t *testing.T) { // P14.2, P14.3, P14.5
	random := rand.New(rand.NewSource(15))
	for range 500 {
		a := someArchive(random, 40)
		given := a
		given.Pairs = slices.Clone(a.Pairs)
		want := strings.Join(encoded(a), "")
		if s, e := archive.Encode(a); s != want || e != api.OK || archive.Size(a) != len(want) || !archive.Valid(a) {
			t.Fatalf("%v: %q, error %d", a, s, e)
		}
		b, e := archive.Decode(want)
		if e != api.OK || !same(a, b) || !archive.Same(a, b) {
			t.Fatalf("%v: %v, error %d", a, b, e)
		}
		clear(b.Pairs)
		c, missing, e := archive.Salvage(want)
		if e != api.OK || missing != 0 || !archive.Same(a, c) {
			t.Fatalf("%v: %v, %d, error %d", a, c, missing, e)
		}
		clear(c.Pairs)
		if !same(a, given) {
			t.Fatalf("%v has become %v", given, a)
		}
	}
}

// harmed returns frames that are partly damaged, lost, doubled and in another order, and which of them are intact.
func harmed(random *rand.Rand, f []string) (string, []bool) {
	intact := make([]bool, len(f))
	var l []string
	for i, s := range f {
		switch random.Intn(12) {
		case 0:
			continue
		case 1:
			data := []byte(s)
			at := random.Intn(61)
			for data[at] == s[at] {
				random.Read(data[at : at+4])
			}
			s = string(data)
		case 2:
			l = append(l, s)
			fallthrough
		default:
			intact[i] = true
		}
		l = append(l, s)
	}
	if random.Intn(2) == 0 {
		random.Shuffle(len(l), func(i, j int) { l[i], l[j] = l[j], l[i] })
	}
	return strings.Join(l, "") + strings.Repeat("x", random.Intn(64)), intact
}

func TestHarm(t *testing.T) { // P14.5: damaged, lost and in another order
	random := rand.New(rand.NewSource(16))
	for range 1500 {
		a := someArchive(random, 30)
		var want api.Archive
		s, intact := harmed(random, encoded(a))
		at := len(framesOf(firstItem(a, len(a.Pairs))))
		lost := slices.Contains(intact[:at], false)
		if !lost {
			want = api.Archive{Set: a.Set, Number: a.Number}
		}
		for _, p := range a.Pairs {
			n := len(framesOf(pairItem(p)))
			if !lost && !slices.Contains(intact[at:at+n], false) {
				want.Pairs = append(want.Pairs, p)
			}
			at += n
		}
		b, missing, e := archive.Salvage(s)
		if !same(b, want) || lost && (e != api.ErrCorrupt || missing != 0) || !lost && (e != api.OK || missing != len(a.Pairs)-len(want.Pairs)) {
			t.Fatalf("%v: %v, %d missing, error %d, not %v", a, b, missing, e, want)
		}
		// Some frames are intact that do not make an archive any more.
		if c, e := archive.Decode(s); slices.Contains(intact, false) && (e != api.ErrCorrupt || !same(c, api.Archive{})) {
			t.Fatalf("%v: decoded %v, error %d", a, c, e)
		}
	}
}

func TestManyFrames(t *testing.T) { // P1, P14.4: as many frames as there are numbers
	a := sample()
	var pairs, tail strings.Builder
	pairs.WriteString(frameOf(0, 3, firstItem(a, 3)))
	tail.WriteString(frameOf(0, 3, firstItem(a, 3)))
	for n := 1; n < 1<<16; n++ {
		pairs.WriteString(frameOf(n, 3, "\x01k\x00"))
		marks := byte(0)
		if n == 1 {
			marks = 1
		}
		tail.WriteString(frameOf(n, marks, strings.Repeat("x", 56)))
	}
	if b, missing, e := archive.Salvage(pairs.String()); len(b.Pairs) != 1<<16-1 || missing != 0 || e != api.OK {
		t.Errorf("%d pairs, %d missing, error %d", len(b.Pairs), missing, e)
	}
	if b, e := archive.Decode(pairs.String()); e != api.ErrCorrupt || !same(b, api.Archive{}) {
		t.Errorf("%d pairs, error %d", len(b.Pairs), e)
	}
	for _, last := range []byte{0, 2} {
		s := tail.String()[:64*65535] + frameOf(65535, last, "x")
		if b, missing, e := archive.Salvage(s); len(b.Pairs) != 0 || missing != 3 || e != api.OK {
			t.Errorf("%d pairs, %d missing, error %d", len(b.Pairs), missing, e)
		}
	}
}

func FuzzSalvage(f *testing.F) { // P1, P14.3 to P14.5, P11: any bytes, also with right sums
	good := strings.Join(encoded(sample()), "")
	f.Add(good, false)
	f.Add(good[64:], false)
	f.Add("", true)
	var bare strings.Builder
	for at := 0; at < len(good); at += 64 {
		bare.WriteString(good[at : at+60])
	}
	f.Add(bare.String(), true)
	f.Add(bare.String()[:60]+"\x07\x00\x03\x02\x00\x00"+strings.Repeat("\x00", 54), true)
	f.Fuzz(func(t *testing.T, s string, seal bool) {
		if seal {
			var l strings.Builder
			for at := 0; at+60 <= len(s); at += 60 {
				l.WriteString(summed(s[at : at+60]))
			}
			s = l.String()
		}
		checkSalvage(t, s)
		a, e := archive.Decode(s)
		b, missing, e2 := archive.Salvage(s)
		if e == api.OK {
			if again, e := archive.Encode(a); again != s || e != api.OK || e2 != api.OK || missing != 0 || !same(a, b) {
				t.Errorf("%q: %v, and salvaged %v, %d missing, errors %d and %d", s, a, b, missing, e, e2)
			}
		} else if e != api.ErrCorrupt || !same(a, api.Archive{}) || e2 == api.OK && archive.Valid(b) && strings.Join(encoded(b), "") == s {
			t.Errorf("%q: %v, error %d", s, a, e)
		}
	})
}
