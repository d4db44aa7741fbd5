package label_test

import (
	"math"
	"math/rand"
	"slices"
	"strings"
	"testing"

	"dasd/api"
	"dasd/label"
)

// runs returns the runs of pairs of numbers.
func runs(l ...int) []api.Run {
	var out []api.Run
	for pair := range slices.Chunk(l, 2) {
		out = append(out, api.Run{From: pair[0], Count: pair[1]})
	}
	return out
}

// singles returns n extents of one track each: from, from + 2, and so on.
func singles(from, n int) []api.Run {
	var l []api.Run
	for i := range n {
		l = append(l, api.Run{From: from + 2*i, Count: 1})
	}
	return l
}

// track returns the content of a track that begins with s.
func track(s string) string { return s + strings.Repeat("\x00", 1024-len(s)) }

// good returns a label that is valid on a volume with 128 tracks, whose table has the tracks 0 to 31.
func good() api.Label {
	return api.Label{Id: 300, Unit: 2, Name: "AB.C", Note: "note\x00\xff", Extents: runs(40, 3, 36, 2, 127, 1)}
}

// longest returns the label with the longest encoding.
func longest() api.Label {
	return api.Label{Id: api.MaxNumber, Unit: api.MaxNumber, Name: strings.Repeat("\xff", 31), Note: strings.Repeat("\x80", 400), Extents: singles(90, 16)}
}

// codes returns the encodings of runs of tracks below 128.
func codes(l []api.Run) string {
	s := ""
	for _, r := range l {
		s += string([]byte{byte(r.From), byte(r.Count)})
	}
	return s
}

// text returns a text of at most most bytes.
func text(random *rand.Rand, most int) string {
	s := make([]byte, []int{0, 1, random.Intn(most + 1), most}[random.Intn(4)])
	for i := range s {
		s[i] = byte(random.Intn(256))
	}
	return string(s)
}

// randomExtents returns extents that are valid on a volume with tracks.
func randomExtents(random *rand.Rand, tracks int) []api.Run {
	first := (tracks + 3) / 4
	var free []int
	for t := first; t < tracks; t++ {
		free = append(free, t)
	}
	random.Shuffle(len(free), func(i, j int) { free[i], free[j] = free[j], free[i] })
	var l []api.Run
	taken := map[int]bool{}
	for _, from := range free {
		if len(l) == 16 || len(l) > 0 && random.Intn(6) == 0 {
			break
		}
		if len(l) > 0 && l[len(l)-1].From+l[len(l)-1].Count == from {
			continue
		}
		r := api.Run{From: from}
		for t := from; t < tracks && !taken[t] && r.Count <= random.Intn(5); t++ {
			taken[t] = true
			r.Count++
		}
		if r.Count > 0 {
			l = append(l, r)
		}
	}
	return l
}

// randomLabel returns a label that is valid on a volume with tracks.
func randomLabel(random *rand.Rand, tracks int) api.Label {
	return api.Label{
		Id:      1 + random.Intn(api.MaxNumber)>>random.Intn(41),
		Unit:    random.Intn(api.MaxNumber+1) >> random.Intn(42),
		Name:    text(random, 31),
		Note:    text(random, 400),
		Extents: randomExtents(random, tracks),
	}
}

// tracksOf contains numbers of tracks, valid ones and others.
func tracksOf() []int {
	return []int{math.MinInt, math.MinInt + 3, -128, -4, -1, 0, 1, 3, 4, 5, 7, 8, 9, 12, 13, 16, 17, 127, 128, 129, 132, 1 << 20, math.MaxInt - 3, math.MaxInt}
}

func TestTableTracksSlots(t *testing.T) { // P7.1
	for _, n := range tracksOf() {
		want, slots := 0, 0
		if n >= 4 && n <= 128 {
			want = (n + 3) / 4
			slots = want - 1
		}
		if got := label.TableTracks(n); got != want {
			t.Errorf("%d tracks: a table of %d, not %d", n, got, want)
		}
		if got := label.Slots(n); got != slots {
			t.Errorf("%d tracks: %d slots, not %d", n, got, slots)
		}
	}
	for n, want := range map[int]int{4: 1, 5: 2, 8: 2, 9: 3, 16: 4, 125: 32, 128: 32} { // 16 is the example of the chapter
		if label.TableTracks(n) != want || label.Slots(n) != want-1 {
			t.Errorf("%d tracks: a table of %d, %d slots", n, label.TableTracks(n), label.Slots(n))
		}
	}
}

func TestRoomForSlots(t *testing.T) { // P7.4: there are at least as many tracks for data sets as slots
	for n := 4; n <= 128; n++ {
		if left := n - label.TableTracks(n); left < label.Slots(n) || left < 1 {
			t.Errorf("%d tracks: %d are left for %d slots", n, left, label.Slots(n))
		}
	}
}

func TestValidName(t *testing.T) { // P7.1
	for name, want := range map[string]bool{
		"":                        false,
		"A":                       true,
		"Z":                       true,
		"VOL":                     true,
		"V0L9":                    true,
		"VOL00001":                true,
		"ABCDEFGH":                true,
		"ABCDEFGHI":               false,
		"A12345678":               false,
		"0":                       false,
		"1A":                      false,
		"vol":                     false,
		"VoL":                     false,
		"VOl":                     false,
		"A-B":                     false,
		"A.B":                     false,
		"A ":                      false,
		" A":                      false,
		"A\x00":                   false,
		"\xc3\x84":                false,
		strings.Repeat("A", 1000): false,
	} {
		if label.ValidName(name) != want {
			t.Errorf("%q: %v", name, !want)
		}
	}
	for b := range 256 {
		upper := b >= 'A' && b <= 'Z'
		digit := b >= '0' && b <= '9'
		c := string([]byte{byte(b)})
		if label.ValidName(c) != upper {
			t.Errorf("%q: %v", c, !upper)
		}
		if label.ValidName("A"+c) != (upper || digit) || label.ValidName("ABCDEFG"+c) != (upper || digit) {
			t.Errorf("%q behind A: %v", c, !upper && !digit)
		}
	}
}

// bend is a change of a valid label, and whether it is valid then on a volume with 128 tracks.
type bend struct {
	what  string
	f     func(l *api.Label)
	valid bool
}

// extents returns the change of a label to other extents.
func extents(valid bool, l ...api.Run) bend {
	return bend{"extents", func(x *api.Label) { x.Extents = l }, valid}
}

// bends contains changes of each field to both sides of its bounds.
func bends() []bend {
	return []bend{
		{"nothing", func(l *api.Label) {}, true},
		{"Id 0", func(l *api.Label) { l.Id = 0 }, false},
		{"Id 1", func(l *api.Label) { l.Id = 1 }, true},
		{"Id -1", func(l *api.Label) { l.Id = -1 }, false},
		{"the greatest Id", func(l *api.Label) { l.Id = 1 << 40 }, true},
		{"Id too great", func(l *api.Label) { l.Id = 1<<40 + 1 }, false},
		{"Id MinInt", func(l *api.Label) { l.Id = math.MinInt }, false},
		{"Id MaxInt", func(l *api.Label) { l.Id = math.MaxInt }, false},
		{"Unit 0", func(l *api.Label) { l.Unit = 0 }, true},
		{"Unit -1", func(l *api.Label) { l.Unit = -1 }, false},
		{"the greatest Unit", func(l *api.Label) { l.Unit = 1 << 40 }, true},
		{"Unit too great", func(l *api.Label) { l.Unit = 1<<40 + 1 }, false},
		{"Unit MinInt", func(l *api.Label) { l.Unit = math.MinInt }, false},
		{"Unit MaxInt", func(l *api.Label) { l.Unit = math.MaxInt }, false},
		{"no Name", func(l *api.Label) { l.Name = "" }, true},
		{"any bytes in Name", func(l *api.Label) { l.Name = "\x00\xff a." }, true},
		{"the longest Name", func(l *api.Label) { l.Name = strings.Repeat("x", 31) }, true},
		{"Name too long", func(l *api.Label) { l.Name = strings.Repeat("x", 32) }, false},
		{"no Note", func(l *api.Label) { l.Note = "" }, true},
		{"the longest Note", func(l *api.Label) { l.Note = strings.Repeat("x", 400) }, true},
		{"Note too long", func(l *api.Label) { l.Note = strings.Repeat("x", 401) }, false},
		extents(false),
		extents(true, runs(32, 1)...),
		extents(false, runs(31, 1)...),
		extents(false, runs(31, 2)...),
		extents(false, runs(0, 1)...),
		extents(true, runs(127, 1)...),
		extents(false, runs(127, 2)...),
		extents(false, runs(128, 1)...),
		extents(true, runs(32, 96)...),
		extents(false, runs(32, 97)...),
		extents(false, runs(31, 97)...),
		extents(false, runs(40, 0)...),
		extents(false, runs(40, -1)...),
		extents(false, runs(-1, 2)...),
		extents(false, runs(40, math.MaxInt)...),
		extents(false, runs(40, math.MinInt)...),
		extents(false, runs(math.MinInt, math.MaxInt)...),
		extents(false, runs(math.MaxInt, math.MaxInt)...),
		extents(false, runs(40, 1, 128, 1)...),
		extents(false, runs(40, 1, 31, 1)...),
		extents(false, runs(40, 1, 50, 0)...),
		extents(false, runs(40, 2, 42, 1)...), // continues the one before
		extents(true, runs(40, 2, 43, 1)...),
		extents(true, runs(40, 2, 39, 1)...),
		extents(true, runs(42, 1, 40, 2)...),
		extents(false, runs(40, 2, 41, 1)...), // not disjoint
		extents(false, runs(40, 2, 40, 2)...),
		extents(false, runs(40, 3, 50, 1, 42, 1)...),
		extents(true, runs(40, 1, 50, 1, 41, 1)...),
		extents(true, singles(40, 16)...),
		extents(false, singles(40, 17)...),
		extents(false, slices.Repeat(runs(40, 1), 1000)...),
	}
}

func TestValid(t *testing.T) { // P7.1
	for _, x := range bends() {
		l := good()
		x.f(&l)
		if label.Valid(l, 128) != x.valid {
			t.Errorf("%s: %v is valid: %v", x.what, l, !x.valid)
		}
	}
	if label.Valid(api.Label{}, 128) {
		t.Error("the zero label is valid")
	}
}

func TestValidTracks(t *testing.T) { // P7.1: a label is valid on volumes whose table ends before its tracks, and which end behind them
	l := good()
	l.Extents = runs(9, 3, 4, 2)
	for n := -3; n <= 140; n++ {
		want := n >= 12 && n <= 16
		if label.Valid(l, n) != want {
			t.Errorf("%d tracks: %v", n, !want)
		}
	}
	for _, n := range tracksOf() {
		want := n == 12 || n == 13 || n == 16
		if label.Valid(l, n) != want {
			t.Errorf("%d tracks: %v", n, !want)
		}
	}
	random := rand.New(rand.NewSource(16))
	for n := 4; n <= 128; n++ {
		if l := randomLabel(random, n); !label.Valid(l, n) {
			t.Errorf("%d tracks: %v is not valid", n, l)
		}
	}
}

func TestEqual(t *testing.T) { // P7.1
	all := []api.Label{good(), {}, {Id: 1}, {Id: -1}, {Unit: 1}, {Unit: math.MinInt}, {Name: "A"}, {Note: "A"}, {Extents: runs(0, 0)}, {Extents: runs(1, 2)}, {Extents: runs(1, 2, 3, 4)}, {Extents: runs(3, 4, 1, 2)}}
	for _, f := range []func(l *api.Label){
		func(l *api.Label) { l.Id++ }, func(l *api.Label) { l.Unit++ }, func(l *api.Label) { l.Name += "\x00" }, func(l *api.Label) { l.Name = "" }, func(l *api.Label) { l.Note += " " }, func(l *api.Label) { l.Extents[0].From++ }, func(l *api.Label) { l.Extents[2].Count++ }, func(l *api.Label) { l.Extents = l.Extents[:2] },
	} {
		l := good()
		f(&l)
		all = append(all, l)
	}
	for i, a := range all {
		for k, b := range all {
			b.Extents = slices.Clone(b.Extents)
			if label.Equal(a, b) != (i == k) {
				t.Errorf("%v and %v: %v", a, b, i != k)
			}
		}
	}
	if !label.Equal(api.Label{Extents: []api.Run{}}, api.Label{}) || !label.Equal(api.Label{Id: 3}, api.Label{Id: 3, Extents: make([]api.Run, 0, 5)}) {
		t.Error("empty lists of extents differ")
	}
}

func TestEncode(t *testing.T) { // P7.2
	for _, x := range []struct {
		l      api.Label
		tracks int
		want   string
	}{
		{api.Label{Id: 5, Unit: 2, Name: "A", Extents: runs(4, 2)}, 16, track("\x05\x02\x01A\x00\x01\x04\x02")}, // the example of the chapter
		{api.Label{Id: 1, Extents: runs(3, 1)}, 4, track("\x01\x00\x00\x00\x01\x03\x01")},
		{good(), 128, track("\xac\x02\x02\x04AB.C\x06note\x00\xff\x03\x28\x03\x24\x02\x7f\x01")},
		{api.Label{}, 16, track("")},
		{api.Label{Extents: []api.Run{}}, 4, track("")},
		{api.Label{}, 128, track("")},
		{api.Label{}, 3, ""},
		{api.Label{}, 129, ""},
		{api.Label{}, 0, ""},
		{api.Label{}, math.MinInt, ""},
		{api.Label{}, math.MaxInt, ""},
		{good(), 127, ""},
		{good(), 129, ""},
		{api.Label{Unit: 1}, 16, ""},
		{api.Label{Name: "A"}, 16, ""},
		{api.Label{Note: "A"}, 16, ""},
		{api.Label{Extents: runs(4, 2)}, 16, ""},
		{api.Label{Extents: runs(0, 0)}, 16, ""},
		{api.Label{Id: 1}, 16, ""},
	} {
		if s := label.Encode(x.l, x.tracks); s != x.want {
			t.Errorf("%v of %d tracks: %q", x.l, x.tracks, s)
		}
	}
	for _, x := range bends() {
		l := good()
		x.f(&l)
		if s := label.Encode(l, 128); (s == "") == x.valid || len(s) != 0 && len(s) != 1024 {
			t.Errorf("%s: %q", x.what, s)
		}
	}
}

func TestLongest(t *testing.T) { // P7.2, P7.4: every valid label fits its slot
	l := longest()
	greatest := "\x80\x80\x80\x80\x80\x20"
	s := greatest + greatest + "\x1f" + l.Name + "\x90\x03" + l.Note + "\x10" + codes(l.Extents)
	if got := label.Encode(l, 128); got != track(s) {
		t.Errorf("%q", got)
	}
	if got, e := label.Decode(track(s), 128); e != api.OK || !label.Equal(got, l) {
		t.Errorf("%v, error %d", got, e)
	}
}

func TestHead(t *testing.T) { // P7.2, P7.3
	for _, name := range []string{"VOL", "A", "ABCDEFGH", "Z9999999"} {
		for _, n := range tracksOf() {
			s := label.EncodeHead(name, n)
			if n < 4 || n > 128 {
				if s != "" {
					t.Errorf("%s of %d tracks: %q", name, n, s)
				}
				continue
			}
			code := string([]byte{byte(n)})
			if n == 128 {
				code = "\x80\x01"
			}
			if s != track(string([]byte{byte(len(name))})+name+code) {
				t.Errorf("%s of %d tracks: %q", name, n, s)
			}
			if got, k, e := label.DecodeHead(s); got != name || k != n || e != api.OK {
				t.Errorf("%s of %d tracks: %q, %d, error %d", name, n, got, k, e)
			}
		}
	}
	for _, name := range []string{"", "vol", "1A", "A-B", "ABCDEFGHI"} {
		if s := label.EncodeHead(name, 16); s != "" {
			t.Errorf("%q: %q", name, s)
		}
	}
}

func TestNoHead(t *testing.T) { // Errors of DecodeHead
	head := label.EncodeHead("VOL", 16)
	for _, s := range []string{
		"",
		"\x00",
		head[:6],
		head[:1023],
		head[1:],
		head + "\x00",
		head[:1023] + "\x01",
		head[:5] + "\x01" + head[6:],
		track(""),
		track("\x00\x10"),
		track("\x03vol\x10"),
		track("\x031OL\x10"),
		track("\x09ABCDEFGHI\x10"),
		track("\x03VOL\x03"),
		track("\x03VOL\x00"),
		track("\x03VOL\x81\x01"),
		track("\x03VOL\x90\x00"),
		track("\x83\x00VOL\x10"),
		track("\x03VOL\xff\xff\xff\xff\xff\xff\xff\xff\xff\x01"),
		track("\xff\xff\xff\xff\xff\xff\xff\xff\xff\x01VOL\x10"),
		"\x03VOL" + strings.Repeat("\x80", 1020),
		strings.Repeat("\xff", 1024),
	} {
		if name, n, e := label.DecodeHead(s); name != "" || n != 0 || e != api.ErrCorrupt {
			t.Errorf("%.20q: %q, %d, error %d", s, name, n, e)
		}
	}
	for i := range 1024 {
		for _, d := range []byte{1, 0x10, 0x80, 0xff} {
			s := []byte(head)
			s[i] ^= d
			name, n, e := label.DecodeHead(string(s))
			if i > 4 && e == api.OK || e == api.OK && label.EncodeHead(name, n) != string(s) {
				t.Errorf("byte %d: %q, %d, error %d", i, name, n, e)
			}
		}
	}
}

// decodes checks that the content of a slot is not accepted, or that it is what Encode returns for the label.
func decodes(t *testing.T, s string, tracks int) bool {
	t.Helper()
	l, e := label.Decode(s, tracks)
	if e == api.OK {
		if label.Encode(l, tracks) != s || !label.Valid(l, tracks) && !label.Equal(l, api.Label{}) {
			t.Errorf("%.80q of %d tracks: %v", s, tracks, l)
		}
		return true
	}
	if e != api.ErrCorrupt || !label.Equal(l, api.Label{}) {
		t.Errorf("%.80q of %d tracks: %v, error %d", s, tracks, l, e)
	}
	return false
}

func TestDecode(t *testing.T) { // P7.3, P7.4
	for n := 4; n <= 128; n++ {
		if l, e := label.Decode(track(""), n); e != api.OK || !label.Equal(l, api.Label{}) {
			t.Errorf("%d tracks: %v, error %d", n, l, e)
		}
	}
	random := rand.New(rand.NewSource(17))
	for range 3000 {
		n := 4 + random.Intn(125)
		l := randomLabel(random, n)
		s := label.Encode(l, n)
		if got, e := label.Decode(s, n); e != api.OK || !label.Equal(got, l) || len(s) != 1024 {
			t.Errorf("%v of %d tracks: %v, error %d", l, n, got, e)
		}
		for _, other := range tracksOf() {
			if decodes(t, s, other) != label.Valid(l, other) {
				t.Errorf("%v of %d tracks is read on %d", l, n, other)
			}
		}
	}
}

func TestNoSlot(t *testing.T) { // Errors of Decode
	slot := label.Encode(good(), 128)
	for _, s := range []string{
		"",
		"\x00",
		slot[:1023],
		slot[1:],
		slot + "\x00",
		slot[:1023] + "\x01",
		track("")[1:],
		track("") + "\x00",
		track("")[1:] + "\x01",
		strings.Repeat("\x80", 1024),
		strings.Repeat("\xff", 1024),
		track("\x05\x02\x01A\x00\x00"),         // no extents
		track("\x00\x02\x01A\x00\x01\x28\x02"), // the Id 0
		track("\x00\x00\x00\x00\x01\x28\x02"),  // no label, but extents
		track("\x00\x00\x01A"),                 // no label, but a name
		track("\x85\x00\x02\x01A\x00\x01\x28\x02"), // an encoding that is not the shortest one
		track("\x05\x02\x01A\x00\x01\xa8\x00\x02"), // the same in an extent
		track("\x05\x02\x01A\x00\x01\x28\x82\x00"),
		track("\x81\x80\x80\x80\x80\x20\x02\x01A\x00\x01\x28\x02"), // the Id MaxNumber + 1
		track("\x05\x81\x80\x80\x80\x80\x20\x01A\x00\x01\x28\x02"),
		track("\xff\xff\xff\xff\xff\xff\xff\xff\xff\x01\x02\x01A\x00\x01\x28\x02"),
		track("\x05\x02\x20" + strings.Repeat("x", 32) + "\x00\x01\x28\x02"),       // a name of 32 bytes
		track("\x05\x02\x01A\x91\x03" + strings.Repeat("x", 401) + "\x01\x28\x02"), // a note of 401 bytes
		track("\x05\x02\x01A\x00\x11" + codes(singles(40, 17))),                    // 17 extents
		track("\x05\x02\x01A\x00\x01\x28\x00"),                                     // an extent without tracks
		track("\x05\x02\x01A\x00\x01\x1f\x02"),                                     // a track of the table
		track("\x05\x02\x01A\x00\x01\x7f\x02"),                                     // a track that does not exist
		track("\x05\x02\x01A\x00\x01\x80\x01\x01"),
		track("\x05\x02\x01A\x00\x02\x28\x02\x2a\x01"), // not joined
		track("\x05\x02\x01A\x00\x02\x28\x02\x29\x01"), // not disjoint
		track("\x05\x02\x01A\x00\x01\x28\x02\x01"),     // not zeros behind it
	} {
		if decodes(t, s, 128) {
			t.Errorf("%.40q is read", s)
		}
	}
	for _, n := range []int{math.MinInt, -1, 0, 3, 129, math.MaxInt} {
		for _, s := range []string{"", slot, track("")} {
			if decodes(t, s, n) {
				t.Errorf("%.40q of %d tracks is read", s, n)
			}
		}
	}
}

func TestDamagedSlots(t *testing.T) { // P7.4: what Decode accepts is exactly what Encode returns
	for _, slot := range []string{label.Encode(good(), 128), label.Encode(longest(), 128), track("")} {
		end := len(strings.TrimRight(slot, "\x00"))
		for i := range slot {
			for _, d := range []byte{1, 2, 0x40, 0x80, 0xff} {
				s := []byte(slot)
				s[i] ^= d
				if decodes(t, string(s), 128) && i >= end {
					t.Errorf("byte %d behind the end is accepted", i)
				}
			}
		}
	}
	random := rand.New(rand.NewSource(18))
	for range 3000 {
		s := []byte(label.Encode(randomLabel(random, 40), 40))
		for range 1 + random.Intn(3) {
			s[random.Intn(len(s))>>random.Intn(8)] = byte(random.Intn(256)) >> random.Intn(8)
		}
		decodes(t, string(s), 40)
	}
}

func TestMemory(t *testing.T) { // Guarantees: arguments are not modified, and results are newly allocated
	l := good()
	s := label.Encode(l, 128)
	label.Valid(l, 128)
	label.Equal(l, l)
	if !slices.Equal(l.Extents, good().Extents) {
		t.Errorf("the argument has become %v", l)
	}
	a, _ := label.Decode(s, 128)
	b, _ := label.Decode(s, 128)
	for i := range a.Extents {
		a.Extents[i] = api.Run{}
	}
	if !label.Equal(b, good()) || label.Encode(l, 128) != s {
		t.Errorf("the other result has become %v", b)
	}
}

func FuzzDecode(f *testing.F) { // P1, P11, P7.1 to P7.4
	f.Add("", 4)
	f.Add("\x05\x02\x01A\x00\x01\x04\x02", 16)
	f.Add(label.Encode(longest(), 128), 128)
	f.Add("\x03VOL\x10", math.MinInt)
	f.Fuzz(func(t *testing.T, s string, tracks int) {
		decodes(t, s, tracks)
		if len(s) <= 1024 {
			decodes(t, track(s), tracks)
			decodes(t, track(s), 4+tracks&0x7c)
		}
		name, n, e := label.DecodeHead(s)
		if e == api.OK && label.EncodeHead(name, n) != s || e != api.OK && (name != "" || n != 0) {
			t.Errorf("%q: %q, %d, error %d", s, name, n, e)
		}
		if label.ValidName(s) != (label.EncodeHead(s, 4) != "") {
			t.Errorf("%q is a name: %v", s, label.ValidName(s))
		}
	})
}
