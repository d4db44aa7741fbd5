package contents_test

import (
	"math"
	"slices"
	"strings"
	"testing"

	"dasd/api"
	"dasd/contents"
)

// filled returns the content of a sector or of a track that begins with s.
func filled(s string, size int) string { return s + strings.Repeat("\x00", size-len(s)) }

// load returns the table that sectors contain, which is checked to agree with them.
func load(t *testing.T, sectors ...string) (api.Table, api.Errno) {
	t.Helper()
	x, e := contents.Load(sectors...)
	switch {
	case e == api.OK && !slices.Equal(contents.Sectors(x), sectors):
		t.Errorf("%v has other sectors", x)
	case e != api.OK && (e != api.ErrCorrupt || !equal(x, api.Table{})):
		t.Errorf("%v, error %d", x, e)
	}
	return x, e
}

// pieces cuts a text into pieces of a size.
func pieces(s string, size int) []string {
	var out []string
	for part := range slices.Chunk([]byte(s), size) {
		out = append(out, string(part))
	}
	return out
}

// exampleTracks returns the contents of the tracks of the table of the example.
func exampleTracks() []string {
	return []string{
		filled("\x03VOL\x14", 1024),
		filled("\x07\x00\x05SEVEN\x03old\x02\x0a\x02\x05\x01", 1024),
		filled("", 1024),
		filled("\x07\x04\x05SEVEN\x03new\x02\x06\x02\x12\x01", 1024),
		filled("\x03\x09\x05THREE\x00\x02\x13\x01\x0c\x01", 1024),
	}
}

// sectorsOf returns the sectors of a table of 20 tracks whose slots begin with given texts, which need not be labels.
func sectorsOf(slots ...string) []string {
	tracks := []string{filled("\x03VOL\x14", 1024)}
	for i := range 4 {
		s := ""
		if i < len(slots) {
			s = slots[i]
		}
		tracks = append(tracks, filled(s, 1024))
	}
	return pieces(strings.Join(tracks, ""), 128)
}

func TestSectors(t *testing.T) { // P8.4
	want := pieces(strings.Join(exampleTracks(), ""), 128)
	if got := contents.Sectors(example()); !slices.Equal(got, want) {
		t.Errorf("%q", got)
	}
	if got := contents.Sectors(api.Table{Name: "V", Tracks: 4}); len(got) != 8 || got[0] != filled("\x01V\x04", 128) {
		t.Errorf("%q", got)
	}
	if got := contents.Sectors(comb()); len(got) != 256 || !slices.Equal(got[:9], append(pieces(filled("\x04COMB\x80\x01", 1024), 128), filled("\x01\x00\x00\x00\x01\x20\x01", 128))) {
		t.Errorf("%d: %q", len(got), got[:min(9, len(got))])
	}
	long := changed(func(t *api.Table) { t.Labels[0].Note = strings.Repeat("n", 400) })
	track := filled("\x07\x00\x05SEVEN\x90\x03"+strings.Repeat("n", 400)+"\x02\x0a\x02\x05\x01", 1024)
	if got := contents.Sectors(long); len(got) != 40 || strings.Join(got[8:16], "") != track {
		t.Errorf("%q", got)
	}
	for what, x := range invalid() {
		if got := contents.Sectors(x); len(got) > 0 {
			t.Errorf("%s: %d sectors", what, len(got))
		}
	}
}

func TestLoad(t *testing.T) { // P8.4, P8.5: loading the sectors of a table returns it
	for _, x := range []api.Table{example(), full(), comb(), {Name: "V", Tracks: 4}, {Name: "V2345678", Tracks: 128, Labels: make([]api.Label, 31)}} {
		got, e := load(t, contents.Sectors(x)...)
		same(t, "loaded", got, e, x, api.OK)
	}
	got, e := load(t, pieces(strings.Join(exampleTracks(), ""), 128)...)
	same(t, "loaded", got, e, example(), api.OK)
}

func TestLoadFails(t *testing.T) { // Errors of Load
	good := contents.Sectors(example())
	replaced := func(i int, s string) []string {
		l := slices.Clone(good)
		l[i] = s
		return l
	}
	cut := replaced(1, good[1]+"\x00")
	cut[2] = cut[2][1:]
	for what, l := range map[string][]string{
		"none":                       nil,
		"empty":                      {""},
		"one":                        good[:1],
		"the head":                   good[:8],
		"less":                       good[:39],
		"a slot less":                good[:32],
		"without the first":          good[1:],
		"more":                       append(slices.Clone(good), good[39]),
		"a slot more":                append(slices.Clone(good), good[16:24]...),
		"an empty one more":          append(slices.Clone(good), ""),
		"an empty one in front":      append([]string{""}, good...),
		"one piece":                  {strings.Join(good, "")},
		"tracks":                     exampleTracks(),
		"pieces of 64":               pieces(strings.Join(good, ""), 64),
		"cut in another place":       cut,
		"a short sector":             replaced(3, good[3][1:]),
		"a long sector":              replaced(39, good[39]+"\x00"),
		"an empty sector":            replaced(39, ""),
		"no head":                    replaced(0, good[1]),
		"another name":               replaced(0, filled("\x03vol\x14", 128)),
		"a larger volume":            replaced(0, filled("\x03VOL\x15", 128)),
		"a smaller volume":           replaced(0, filled("\x03VOL\x10", 128)),
		"a volume without the track": replaced(0, filled("\x03VOL\x13", 128)),
		"not zeros behind the head":  replaced(7, filled("\x01", 128)),
		"not zeros behind a label":   replaced(15, filled("\x01", 128)),
		"not zeros in an empty slot": replaced(23, filled("\x01", 128)),
		"only zeros":                 slices.Repeat([]string{filled("", 128)}, 40),
		"a track of the table":       sectorsOf("\x05\x00\x00\x00\x01\x04\x01"),
		"no extents":                 sectorsOf("\x05\x00\x00\x00\x00"),
		"shared tracks":              sectorsOf("\x05\x00\x00\x00\x01\x05\x01", "\x06\x00\x00\x00\x01\x05\x01"),
		"two true labels":            sectorsOf("\x05\x00\x00\x00\x01\x05\x01", "", "\x05\x00\x00\x00\x01\x06\x01"),
		"two tentative labels":       sectorsOf("\x05\x01\x00\x00\x01\x05\x01", "", "\x05\x02\x00\x00\x01\x06\x01"),
	} {
		if x, e := load(t, l...); e != api.ErrCorrupt {
			t.Errorf("%s: %v, error %d", what, x, e)
		}
	}
	// what the wrong tables above are made of is right otherwise
	for what, l := range map[string][]string{
		"another name": replaced(0, filled("\x04VOLX\x14", 128)),
		"two labels":   sectorsOf("\x05\x00\x00\x00\x01\x05\x01", "\x05\x01\x00\x00\x01\x06\x01"),
		"no labels":    sectorsOf(),
	} {
		if x, e := load(t, l...); e != api.OK {
			t.Errorf("%s: %v, error %d", what, x, e)
		}
	}
}

func TestDamagedTables(t *testing.T) { // P8.4, P11: what is loaded has the sectors as its sectors
	good := contents.Sectors(example())
	loaded := 0
	for i := range good {
		for k := range 40 {
			for _, d := range []byte{1, 2, 8, 0x80, 0xff} {
				s := []byte(good[i])
				s[k] ^= d
				l := slices.Clone(good)
				l[i] = string(s)
				if _, e := load(t, l...); e == api.OK {
					loaded++
				}
			}
		}
	}
	if loaded == 0 {
		t.Error("no change was right")
	}
}

func TestChanges(t *testing.T) { // P8.4
	empty := filled("", 128)
	for _, x := range []struct {
		what string
		f    func(t *api.Table)
		want []api.SectorWrite
	}{
		{"nothing", func(t *api.Table) {}, nil},
		{"an empty list", func(t *api.Table) { t.Labels[1].Extents = []api.Run{} }, nil},
		{"a removed label", func(t *api.Table) { t.Labels[0] = api.Label{} }, []api.SectorWrite{{Sector: 8, Data: empty}}},
		{"a new label", func(t *api.Table) { t.Labels[1] = full().Labels[1] }, []api.SectorWrite{{Sector: 16, Data: filled("\x01\x01\x00\x00\x01\x08\x01", 128)}}},
		{"another name", func(t *api.Table) { t.Name = "V" }, []api.SectorWrite{{Sector: 0, Data: filled("\x01V\x14", 128)}}},
		{"several", func(t *api.Table) { t.Name = "V"; t.Labels[3], t.Labels[1] = t.Labels[1], t.Labels[3] }, []api.SectorWrite{{Sector: 0, Data: filled("\x01V\x14", 128)}, {Sector: 16, Data: filled("\x03\x09\x05THREE\x00\x02\x13\x01\x0c\x01", 128)}, {Sector: 32, Data: empty}}},
		{"a long note", func(t *api.Table) { t.Labels[3].Note = strings.Repeat("n", 200) }, []api.SectorWrite{
			{Sector: 32, Data: "\x03\x09\x05THREE\xc8\x01" + strings.Repeat("n", 118)},
			{Sector: 33, Data: filled(strings.Repeat("n", 82)+"\x02\x13\x01\x0c\x01", 128)},
		}},
	} {
		if got := contents.Changes(example(), changed(x.f)); !slices.Equal(got, x.want) {
			t.Errorf("%s: %v", x.what, got)
		}
		back := contents.Changes(changed(x.f), example())
		if len(back) != len(x.want) {
			t.Errorf("%s, and back: %v", x.what, back)
		}
		for i, w := range back {
			if w.Sector != x.want[i].Sector || w.Data != contents.Sectors(example())[w.Sector] {
				t.Errorf("%s, and back: %v", x.what, back)
			}
		}
	}
}

func TestNoChanges(t *testing.T) { // P8.4: nothing for tables that are not valid, or of other volumes
	other := func(tracks, slots int) api.Table {
		return api.Table{Name: "OTHER", Tracks: tracks, Labels: make([]api.Label, slots)}
	}
	for _, x := range []api.Table{other(4, 0), other(16, 3), other(17, 4), other(19, 4), other(21, 5), other(128, 31)} {
		if !contents.Valid(x) || len(contents.Changes(example(), x)) > 0 || len(contents.Changes(x, example())) > 0 {
			t.Errorf("%d tracks: there are changes", x.Tracks)
		}
	}
	if len(contents.Changes(example(), other(20, 4))) == 0 {
		t.Error("20 tracks: there are no changes")
	}
	for what, x := range invalid() {
		if len(contents.Changes(example(), x)) > 0 || len(contents.Changes(x, example())) > 0 || len(contents.Changes(x, x)) > 0 {
			t.Errorf("%s: there are changes", what)
		}
		for also, y := range invalid() {
			if len(contents.Changes(x, y)) > 0 {
				t.Errorf("%s and %s: there are changes", what, also)
			}
		}
	}
}

func TestSector(t *testing.T) { // P8.4
	l := api.Label{Extents: runs(10, 2, 5, 1)}
	for sector := range 24 {
		want := 80 + sector
		if sector >= 16 {
			want = 40 + sector - 16
		}
		if n, ok := contents.Sector(l, sector); n != want || !ok {
			t.Errorf("sector %d: %d, %v, not %d", sector, n, ok, want)
		}
	}
	for _, x := range []struct {
		l      []api.Run
		sector int
		want   int
		ok     bool
	}{
		{runs(10, 2, 5, 1), 24, 0, false},
		{runs(10, 2, 5, 1), 31, 0, false},
		{runs(10, 2, 5, 1), -1, 0, false},
		{runs(10, 2, 5, 1), -7, 0, false},
		{runs(10, 2, 5, 1), -8, 0, false},
		{runs(10, 2, 5, 1), math.MinInt, 0, false},
		{runs(10, 2, 5, 1), math.MaxInt, 0, false},
		{nil, 0, 0, false},
		{nil, -1, 0, false},
		// any labels
		{runs(0, 1), 0, 0, true},
		{runs(0, 1), 7, 7, true},
		{runs(127, 9), 7, 1023, true},
		{runs(127, 9), 8, 0, false},
		{runs(128, 1), 0, 0, false},
		{runs(-2, 3), 3, 3, true},
		{runs(3, 0, 9, 1, 9, 1), 15, 79, true},
		{runs(0, math.MaxInt), 1023, 1023, true},
		{runs(0, math.MaxInt), 1024, 0, false},
	} {
		if n, ok := contents.Sector(api.Label{Extents: x.l}, x.sector); n != x.want || ok != x.ok {
			t.Errorf("sector %d of %v: %d, %v, not %d, %v", x.sector, x.l, n, ok, x.want, x.ok)
		}
	}
}
