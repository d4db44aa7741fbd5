package volume_test

import (
	"math"
	"slices"
	"strings"
	"testing"

	"dasd/api"
	"dasd/contents"
	"dasd/device"
	"dasd/pages"
	"dasd/volume"
)

// slot returns the contents of the sectors of a slot that begins with s.
func slot(s string) []string {
	l := []string{filled(s)}
	return append(l, slices.Repeat([]string{full(0)}, 7)...)
}

// recovers checks that Recover loses a number of slots, and which table the volume has then; the contents behind the table stay.
func recovers(t *testing.T, what string, d *device.Device, lost int, want api.Table) {
	t.Helper()
	behind := dataAt + 8 + 8*len(want.Labels)
	before := image(t, d)[behind:]
	if n, e := volume.Recover(d, by(2), want.Name); n != lost || e != api.OK {
		t.Errorf("%s: %d slots lost, error %d, not %d", what, n, e, lost)
	}
	has(t, what, d, mount(t, d, 1), want)
	if !slices.Equal(image(t, d)[behind:], before) {
		t.Errorf("%s: a sector behind the table has another content", what)
	}
	changes(t, what+", again", d, 0, nil, func() {
		if n, e := volume.Recover(d, by(3), want.Name); n != 0 || e != api.OK {
			t.Errorf("%s, again: %d slots lost, error %d", what, n, e)
		}
	})
}

// lacking returns the table of the example without the labels in some slots.
func lacking(slots ...int) api.Table {
	x := example()
	for _, i := range slots {
		x.Labels[i] = api.Label{}
	}
	return x
}

func TestRecover(t *testing.T) { // P9.7: a slot is lost if one of its sectors cannot be read
	d, _ := newExample(t)
	changes(t, "nothing is wrong", d, 0, nil, func() { recovers(t, "nothing is wrong", d, 0, example()) })
	for sector := range 40 {
		c := d.Clone()
		damage(t, c, sector)
		switch i := sector/8 - 1; i {
		case -1:
			recovers(t, "a damaged head", c, 0, example())
		default:
			recovers(t, "a damaged slot", c, 1, lacking(i))
		}
	}
	for i, sector := range []int{0, 8, 24, 32} {
		c := d.Clone()
		// All sectors get another content and their own one again, so that the older content is that of another list.
		put(t, c, w(sector, 'x'))
		put(t, c, api.SectorWrite{Sector: sector, Data: contents.Sectors(example())[sector]})
		age(t, c, sector)
		if i == 0 {
			recovers(t, "a stale head", c, 0, example())
		} else {
			recovers(t, "a stale slot", c, 1, lacking(sector/8-1))
		}
	}
	damage(t, d, 9)
	damage(t, d, 15)
	damage(t, d, 16)
	damage(t, d, 39)
	recovers(t, "several", d, 3, lacking(0, 1, 3))
}

func TestRecoverHead(t *testing.T) { // P9.7: the table has the given name and the number of tracks of the device
	for what, head := range map[string]string{
		"another name":       "\x05OTHER\x14",
		"no name":            "\x03vol\x14",
		"zeros":              "",
		"17 tracks":          "\x03VOL\x11",
		"128 tracks":         "\x03VOL\x80\x01",
		"something behind":   "\x03VOL\x14\x01",
		"a head of 4 tracks": "\x03VOL\x04",
	} {
		d, _ := newExample(t)
		put(t, d, api.SectorWrite{Sector: 0, Data: filled(head)})
		want := map[int]string{0: filled("\x03VOL\x14")}
		changes(t, what, d, 1, want, func() { recovers(t, what, d, 0, example()) })
	}
	d, _ := newExample(t)
	put(t, d, w(7, 'x'), w(3, 'y'))
	changes(t, "other sectors of the head", d, 1, map[int]string{3: full(0), 7: full(0)}, func() { recovers(t, "other sectors of the head", d, 0, example()) })
	renamed := example()
	renamed.Name = "NEW"
	changes(t, "a new name", d, 1, map[int]string{0: filled("\x03NEW\x14")}, func() { recovers(t, "a new name", d, 0, renamed) })
}

func TestRecoverSlots(t *testing.T) { // P9.7: a slot is lost if it is none, or if the table with it and those before it would not be valid
	a, b, c := "\x05\x00\x00\x00\x01\x05\x02", "\x06\x01\x00\x00\x01\x06\x02", "\x08\x02\x00\x00\x01\x07\x02"
	label := func(id, unit, from int) api.Label {
		return api.Label{Id: id, Unit: unit, Extents: runs(from, 2)}
	}
	la, lb, lc, none := label(5, 0, 5), label(6, 1, 6), label(8, 2, 7), api.Label{}
	for _, x := range []struct {
		what  string
		slots [4]string
		bad   int
		lost  int
		want  [4]api.Label
	}{
		{"right ones", [4]string{a, c, "", ""}, 0, 0, [4]api.Label{la, lc, none, none}},
		{"right ones at the end", [4]string{"", "", c, a}, 0, 0, [4]api.Label{none, none, lc, la}},
		{"no slots", [4]string{"x", "\x01", "\x00\x01", strings.Repeat("\xff", 128)}, 0, 4, [4]api.Label{}},
		{"not the only encoding", [4]string{"\x85\x00" + a[1:], "", "", ""}, 0, 1, [4]api.Label{}},
		{"something behind a label", [4]string{a + "\x01", "", b, ""}, 0, 1, [4]api.Label{none, none, lb, none}},
		{"not joined", [4]string{"\x05\x00\x00\x00\x02\x05\x01\x06\x01", "", "", ""}, 0, 1, [4]api.Label{}},
		{"a track of the table", [4]string{"\x05\x00\x00\x00\x01\x04\x02", a, "", ""}, 0, 1, [4]api.Label{none, la, none, none}},
		{"behind the volume", [4]string{"", a, "\x06\x01\x00\x00\x01\x13\x02", ""}, 0, 1, [4]api.Label{none, la, none, none}},
		{"a track twice", [4]string{a, b, "", ""}, 0, 1, [4]api.Label{la, none, none, none}},
		{"a track twice, the other way round", [4]string{b, "", a, ""}, 0, 1, [4]api.Label{lb, none, none, none}},
		{"what shares tracks with a lost one is not lost", [4]string{a, b, c, ""}, 0, 1, [4]api.Label{la, none, lc, none}},
		{"nor is what shares tracks with a bad one", [4]string{a, b, c, ""}, 8, 2, [4]api.Label{none, lb, none, none}},
		{"nor what shares tracks with no label", [4]string{a + "\x01", b, "", c}, 0, 2, [4]api.Label{none, lb, none, none}},
		{"two true labels", [4]string{a, "", "\x05\x00\x00\x00\x01\x09\x01", c}, 0, 1, [4]api.Label{la, none, none, lc}},
		{"two tentative labels", [4]string{b, "\x06\x02\x00\x00\x01\x09\x01", "", ""}, 0, 1, [4]api.Label{lb, none, none, none}},
		{"the same label again", [4]string{a, a, a, a}, 0, 3, [4]api.Label{la, none, none, none}},
		{"the true label of a tentative one", [4]string{b, "\x06\x00\x00\x00\x01\x08\x02", "", ""}, 0, 0, [4]api.Label{lb, label(6, 0, 8), none, none}},
		{"the tentative label of a bad one", [4]string{b, "\x06\x02\x00\x00\x01\x09\x02", "", ""}, 8, 1, [4]api.Label{none, label(6, 2, 9), none, none}},
	} {
		d, _ := newExample(t)
		var sectors []string
		for _, s := range x.slots {
			sectors = append(sectors, slot(s)...)
		}
		plant(t, d, append(slot("\x03VOL\x14"), sectors...))
		if x.bad > 0 {
			damage(t, d, x.bad)
		}
		recovers(t, x.what, d, x.lost, api.Table{Name: "VOL", Tracks: 20, Labels: x.want[:]})
	}
	// A slot with contents behind its first sector
	d, _ := newExample(t)
	put(t, d, api.SectorWrite{Sector: 15, Data: full(0)[1:] + "\x01"}, api.SectorWrite{Sector: 23, Data: full(0)[1:] + "\x01"})
	changes(t, "bytes at the end", d, 1, map[int]string{8: full(0), 15: full(0), 23: full(0)}, func() { recovers(t, "bytes at the end", d, 2, lacking(0)) })
}

func TestRecoverNothing(t *testing.T) { // P9.7: a volume without any readable sector
	d := newDevice(t, 20)
	recovers(t, "a new device", d, 4, api.Table{Name: "VOL", Tracks: 20, Labels: make([]api.Label, 4)})
	if l, e := mount(t, d, 1).Bad(); len(l) != 120 || l[0] != (api.BadSector{Sector: 40, Code: api.ErrCorrupt}) || e != api.OK {
		t.Errorf("bad sectors %v, error %d", l, e)
	}
	d = newDevice(t, 4)
	recovers(t, "the smallest one", d, 0, api.Table{Name: "VOL", Tracks: 4})
	d = newDevice(t, 128)
	recovers(t, "the largest one", d, 31, api.Table{Name: "VOL", Tracks: 128, Labels: make([]api.Label, 31)})
	// Mend has made the top 1, and there were 256 sectors to be written.
	if n := lists(t, d); n != 1+4 {
		t.Errorf("the number %d", n)
	}
}

func TestRecoverLists(t *testing.T) { // P9.7: lists of MaxCommit sectors, in order
	d, _ := newVolume(t, 128)
	x, _ := contents.New("VOL", 128)
	for i := range x.Labels {
		x.Labels[i] = api.Label{Id: i + 1, Name: "NAME", Extents: runs(32+3*i, 2)}
	}
	plant(t, d, contents.Sectors(x))
	// All 8 sectors of the first 20 slots, and one sector of each other
	for sector := 8; sector < 256; sector++ {
		if sector < 168 || sector%8 == 5 {
			damage(t, d, sector)
		}
	}
	want := x
	want.Labels = make([]api.Label, 31)
	broken := 160 + 11
	// The first sectors of the last 11 slots have other contents, too.
	writes := broken + 11
	c := d.Clone()
	before := lists(t, c)
	recovers(t, "all slots", c, 31, want)
	if n := lists(t, c); n != before+(writes+63)/64 {
		t.Errorf("%d lists for %d sectors", n-before, writes)
	}
	// The first list is the only one that happens: 64 sectors with 2 map sectors, and the top.
	entries := 64 + 3 + 1
	d.FailAfter(2*entries + 4)
	if n, e := volume.Recover(d, by(1), "VOL"); n != 0 || e != api.ErrFailed {
		t.Errorf("%d, error %d", n, e)
	}
	d.Repair()
	for sector, data := range disk(t, d)[:168] {
		if sector >= 8 && (data == full(0)) != (sector < 8+64) {
			t.Errorf("the sector %d has %q", sector, data)
		}
	}
	recovers(t, "the rest", d, 31-8, want)
}

func TestRecoverMends(t *testing.T) { // P9.7: Recover calls Mend first
	d, _ := newExample(t)
	all := disk(t, d)
	for _, index := range []int{0, 1, 3} {
		same(t, "damage", d.Damage(index, 7, 1), api.OK)
	}
	damage(t, d, 20)
	damage(t, d, 45)
	if v, e := volume.Mount(d, by(1)); v != nil || e != api.ErrCorrupt {
		t.Errorf("Mount: error %d", e)
	}
	if n, e := volume.Recover(d, by(2), "VOL"); n != 1 || e != api.OK {
		t.Errorf("%d slots lost, error %d", n, e)
	}
	v := mount(t, d, 1)
	has(t, "mended", d, v, example())
	bad(t, "mended", v, api.BadSector{Ref: trueRef(7), Sector: 21, Code: api.ErrCorrupt})
	all[45] = ""
	if got := disk(t, d); !slices.Equal(got, all) {
		t.Error("other contents")
	}
}

func TestRecoverErrors(t *testing.T) { // Errors of Recover: those of the store
	d, _ := newExample(t)
	same(t, "damage of the top", d.Damage(0, 0, 1), api.OK)
	c := d.Clone()
	// Mend would need a greater version than there is.
	same(t, "Write", c.Write(by(4), dataAt+99, pages.Pack("", math.MaxUint32, dataAt+99)), api.OK)
	same(t, "Sync", c.Sync(by(4)), api.OK)
	if n, e := volume.Recover(c, by(2), "VOL"); n != 0 || e != api.ErrTooLarge {
		t.Errorf("the greatest version: %d, error %d", n, e)
	}
	// It can mend, but nothing can be committed then.
	c = d.Clone()
	same(t, "Write", c.Write(by(4), dataAt+99, pages.Pack("", math.MaxUint32-1, dataAt+99)), api.OK)
	same(t, "Sync", c.Sync(by(4)), api.OK)
	if n, e := volume.Recover(c, by(2), "NEW"); n != 0 || e != api.ErrTooLarge {
		t.Errorf("the version before it: %d, error %d", n, e)
	}
	if n, e := volume.Recover(c, by(2), "VOL"); n != 0 || e != api.OK {
		t.Errorf("the version before it, without a list: %d, error %d", n, e)
	}
	same(t, "Write", mount(t, c, 1).Write(trueRef(7), w(0, 'x')), api.ErrTooLarge)
	damage(t, d, 8)
	damage(t, d, 20)
	n := 0
	for ; ; n++ {
		c := d.Clone()
		c.FailAfter(n)
		if lost, e := volume.Recover(c, by(2), "VOL"); e == api.OK {
			break
		} else if lost != 0 || e != api.ErrFailed {
			t.Fatalf("after %d calls: %d, error %d", n, lost, e)
		}
		if lost, e := volume.Recover(c, by(2), "VOL"); lost != 0 || e != api.ErrFailed {
			t.Errorf("a failed device: %d, error %d", lost, e)
		}
		c.Repair()
		if _, e := volume.Recover(c, by(3), "VOL"); e != api.OK {
			t.Errorf("after %d calls: error %d", n, e)
		}
		has(t, "a further Recover", c, mount(t, c, 1), lacking(0))
	}
	// The top and a sync of Mend; then a list of two sectors, with one map sector and the top
	if want := 2 + 4 + 1 + 1 + 1 + 4 + 1 + 1 + 1; n != want {
		t.Errorf("%d writes and syncs, not %d", n, want)
	}
	before := image(t, d)
	d.Fence(2, 7)
	if n, e := volume.Recover(d, by(2), "VOL"); n != 0 || e != api.ErrFenced {
		t.Errorf("fenced: %d, error %d", n, e)
	}
	if !slices.Equal(image(t, d), before) {
		t.Error("a fenced writer has changed the device")
	}
	if n, e := volume.Recover(d, by(3), "VOL"); n != 2 || e != api.OK {
		t.Errorf("another writer: %d, error %d", n, e)
	}
	if n, e := volume.Recover(d, by(2), "VOL"); n != 0 || e != api.OK {
		t.Errorf("fenced, but nothing is to be done: %d, error %d", n, e)
	}
	has(t, "another writer", d, mount(t, d, 1), lacking(0))
}
