package volume_test

import (
	"math"
	"slices"
	"strconv"
	"strings"
	"testing"

	"dasd/api"
	"dasd/contents"
	"dasd/device"
	"dasd/pages"
	"dasd/volume"
)

// The places of the parts of a device.
const (
	headAt = 33
	dataAt = 131
)

// full returns the content of a sector that consists of one byte.
func full(b byte) string { return strings.Repeat(string([]byte{b}), api.SectorSize) }

// filled returns the content of a sector that begins with s.
func filled(s string) string { return s + full(0)[len(s):] }

// w returns the write of a sector.
func w(sector int, b byte) api.SectorWrite { return api.SectorWrite{Sector: sector, Data: full(b)} }

// by returns a writer.
func by(system int) api.Writer { return api.Writer{System: system, Epoch: 7} }

// trueRef names the true label of a data set.
func trueRef(id int) api.Ref { return api.Ref{Id: id} }

// ref names a tentative label.
func ref(id, unit int) api.Ref { return api.Ref{Id: id, Unit: unit} }

// runs returns the runs of pairs of numbers.
func runs(l ...int) []api.Run {
	var out []api.Run
	for pair := range slices.Chunk(l, 2) {
		out = append(out, api.Run{From: pair[0], Count: pair[1]})
	}
	return out
}

// same checks the error of a call.
func same(t *testing.T, what string, e, want api.Errno) {
	t.Helper()
	if e != want {
		t.Errorf("%s: error %d, not %d", what, e, want)
	}
}

// newDevice returns a device for a volume that was not formatted.
func newDevice(t *testing.T, tracks int) *device.Device {
	t.Helper()
	d, e := volume.Device(tracks)
	if e != api.OK {
		t.Fatalf("Device: error %d", e)
	}
	return d
}

// newVolume returns a new volume with its device, for system 1.
func newVolume(t *testing.T, tracks int) (*device.Device, *volume.Volume) {
	t.Helper()
	d := newDevice(t, tracks)
	same(t, "Format", volume.Format(d, by(1), "VOL"), api.OK)
	return d, mount(t, d, 1)
}

// mount returns the volume of a system.
func mount(t *testing.T, d *device.Device, system int) *volume.Volume {
	t.Helper()
	v, e := volume.Mount(d, by(system))
	if e != api.OK || v == nil {
		t.Fatalf("Mount: error %d", e)
	}
	return v
}

// store returns the data sectors of a device.
func store(t *testing.T, d *device.Device) *pages.Store {
	t.Helper()
	s, e := pages.Open(d, by(4))
	if e != api.OK {
		t.Fatalf("Open: error %d", e)
	}
	return s
}

// put writes data sectors behind the back of a volume.
func put(t *testing.T, d *device.Device, writes ...api.SectorWrite) {
	t.Helper()
	s := store(t, d)
	for list := range slices.Chunk(writes, 64) {
		same(t, "put", s.Commit(list...), api.OK)
	}
}

// plant makes sectors the table of contents of a volume.
func plant(t *testing.T, d *device.Device, sectors []string) {
	t.Helper()
	var writes []api.SectorWrite
	for i, data := range sectors {
		writes = append(writes, api.SectorWrite{Sector: i, Data: data})
	}
	put(t, d, writes...)
}

// damage damages a data sector.
func damage(t *testing.T, d *device.Device, sector int) {
	t.Helper()
	same(t, "damage", d.Damage(dataAt+sector, 5, 1), api.OK)
}

// age gives a data sector its last older content back.
func age(t *testing.T, d *device.Device, sector int) {
	t.Helper()
	same(t, "age", d.Return(dataAt+sector, 1), api.OK)
}

// image returns the contents of all sectors of a device.
func image(t *testing.T, d *device.Device) []string {
	t.Helper()
	list := make([]string, d.Sectors())
	for i := range list {
		s, e := d.Read(i)
		if e != api.OK {
			t.Fatalf("sector %d: error %d", i, e)
		}
		list[i] = s
	}
	return list
}

// disk returns the contents of all data sectors of a device, with the empty text for those that cannot be read.
func disk(t *testing.T, d *device.Device) []string {
	t.Helper()
	s := store(t, d)
	numbers := make([]int, s.Sectors())
	for i := range numbers {
		numbers[i] = i
	}
	if list, e := s.ReadAll(numbers...); e == api.OK {
		return list
	}
	list := make([]string, s.Sectors())
	for i := range list {
		list[i], _ = s.Read(i)
	}
	return list
}

// lists returns the number of the last list of a device.
func lists(t *testing.T, d *device.Device) int {
	t.Helper()
	n, e := store(t, d).Number()
	if e != api.OK {
		t.Fatalf("Number: error %d", e)
	}
	return n
}

// example returns a table of 20 tracks, of which 5 to 19 are for data sets, with 4 slots: the true label 7, an empty slot, the successor of the label 7, and the tentative label 3. The tracks 8, 9 and 13 to 17 are free.
func example() api.Table {
	return api.Table{Name: "VOL", Tracks: 20, Labels: []api.Label{
		{Id: 7, Name: "SEVEN", Note: "old", Extents: runs(10, 2, 5, 1)},
		{},
		{Id: 7, Unit: 4, Name: "SEVEN", Note: "new", Extents: runs(6, 2, 18, 1)},
		{Id: 3, Unit: 9, Name: "THREE", Extents: runs(19, 1, 12, 1)},
	}}
}

// exampleRefs returns the references of the labels of the example.
func exampleRefs() []api.Ref { return []api.Ref{trueRef(7), ref(7, 4), ref(3, 9)} }

// wrongRefs returns references that name no label of the example.
func wrongRefs() []api.Ref {
	return []api.Ref{{}, trueRef(3), trueRef(-7), trueRef(1), ref(7, 9), ref(7, -4), ref(3, 4), ref(0, 9), ref(math.MaxInt, math.MinInt)}
}

// content returns the content that a data sector of the volume of the example has behind its table.
func content(sector int) string { return filled("sector " + strconv.Itoa(sector)) }

// newExample returns a volume with the table of the example, in which each data sector behind the table has a content of its own.
func newExample(t *testing.T) (*device.Device, *volume.Volume) {
	t.Helper()
	d, v := newVolume(t, 20)
	plant(t, d, contents.Sectors(example()))
	var writes []api.SectorWrite
	for sector := 40; sector < 160; sector++ {
		writes = append(writes, api.SectorWrite{Sector: sector, Data: content(sector)})
	}
	put(t, d, writes...)
	return d, v
}

// has checks the table of a volume, as it is mounted and as another system sees it.
func has(t *testing.T, what string, d *device.Device, v *volume.Volume, want api.Table) {
	t.Helper()
	for _, x := range []*volume.Volume{v, mount(t, d, 3)} {
		if got, e := x.Table(); !contents.Same(got, want) || e != api.OK {
			t.Errorf("%s: %v, error %d, not %v", what, got, e, want)
		}
	}
}

// changes checks that a call makes a number of lists, which change data sectors to the given contents and no other ones.
func changes(t *testing.T, what string, d *device.Device, count int, want map[int]string, f func()) {
	t.Helper()
	after, n := disk(t, d), lists(t, d)
	for sector, data := range want {
		after[sector] = data
	}
	f()
	for sector, data := range disk(t, d) {
		if data != after[sector] {
			t.Errorf("%s: the sector %d has %q, not %q", what, sector, strings.TrimRight(data, "\x00"), strings.TrimRight(after[sector], "\x00"))
		}
	}
	if now := lists(t, d); now != n+count {
		t.Errorf("%s: %d lists, not %d", what, now-n, count)
	}
}

// refuses checks that a call returns an error and changes nothing.
func refuses(t *testing.T, what string, d *device.Device, want api.Errno, f func() api.Errno) {
	t.Helper()
	changes(t, what, d, 0, nil, func() { same(t, what, f(), want) })
}

func TestDevice(t *testing.T) { // P9.1
	for _, tracks := range []int{4, 5, 16, 127, 128} {
		d, e := volume.Device(tracks)
		if e != api.OK || d == nil || d.Sectors() != 131+8*tracks {
			t.Errorf("%d tracks: error %d", tracks, e)
			continue
		}
		for i, s := range image(t, d) {
			if s != strings.Repeat("\x00", api.RawSize) {
				t.Errorf("%d tracks: the sector %d has %q", tracks, i, s)
			}
		}
	}
	for _, tracks := range []int{math.MinInt, -16, -1, 0, 1, 3, 129, 1 << 60, 1 << 61, math.MaxInt} {
		if d, e := volume.Device(tracks); d != nil || e != api.ErrArg {
			t.Errorf("%d tracks: error %d", tracks, e)
		}
	}
	a, b := newDevice(t, 4), newDevice(t, 4)
	same(t, "Format", volume.Format(a, by(1), "A"), api.OK)
	if v, e := volume.Mount(b, by(1)); v != nil || e != api.ErrCorrupt {
		t.Errorf("another device: error %d", e)
	}
}

func TestFormat(t *testing.T) { // P9.1: the first sector of the table, and zeros
	for _, x := range []struct {
		tracks, slots int
		name, head    string
	}{{4, 0, "V", "\x01V\x04"}, {5, 1, "VOL", "\x03VOL\x05"}, {20, 4, "A1", "\x02A1\x14"}, {128, 31, "ABCDEFG9", "\x08ABCDEFG9\x80\x01"}} {
		d := newDevice(t, x.tracks)
		same(t, "Format", volume.Format(d, by(2), x.name), api.OK)
		want := slices.Repeat([]string{full(0)}, 8*x.tracks)
		want[0] = filled(x.head)
		if got := disk(t, d); !slices.Equal(got, want) {
			t.Errorf("%s has other sectors", x.name)
		}
		// The list 1 is that of pages.Format.
		if n := lists(t, d); n != 2 || d.Pending(2) != 0 {
			t.Errorf("%s: %d lists, %d pending writes", x.name, n, d.Pending(2))
		}
		has(t, x.name, d, mount(t, d, 1), api.Table{Name: x.name, Tracks: x.tracks, Labels: make([]api.Label, x.slots)})
	}
}

func TestFormatAgain(t *testing.T) { // P9.1: whatever was on the device
	d, v := newExample(t)
	damage(t, d, 3)
	same(t, "damage of the top", d.Damage(0, 0, 1), api.OK)
	same(t, "Format", volume.Format(d, by(2), "AGAIN"), api.OK)
	has(t, "again", d, v, api.Table{Name: "AGAIN", Tracks: 20, Labels: make([]api.Label, 4)})
	if bad, e := v.Bad(); len(bad) > 0 || e != api.OK {
		t.Errorf("bad sectors %v, error %d", bad, e)
	}
	for _, s := range disk(t, d)[1:] {
		if s != full(0) {
			t.Errorf("a sector has %q", s)
		}
	}
}

func TestFormatFails(t *testing.T) { // Errors: those of the store
	d, _ := newExample(t)
	n := 0
	for ; ; n++ {
		c := d.Clone()
		c.FailAfter(n)
		if e := volume.Format(c, by(1), "NEW"); e == api.OK {
			break
		} else if e != api.ErrFailed {
			t.Fatalf("after %d calls: error %d", n, e)
		}
	}
	// 160 data sectors, the map, the top, the head and a sync, then a list of one sector with 3 entries
	if want := 160 + 32 + 3 + 3 + 3 + 3 + 3; n != want {
		t.Errorf("%d writes and syncs, not %d", n, want)
	}
	before := image(t, d)
	d.Fence(1, 7)
	same(t, "fenced", volume.Format(d, by(1), "NEW"), api.ErrFenced)
	if !slices.Equal(image(t, d), before) {
		t.Error("a fenced writer has changed the device")
	}
}

// badWriters returns writers that are not valid.
func badWriters() []api.Writer {
	return []api.Writer{{}, {System: -1}, {System: 5}, {System: math.MaxInt}, {System: 1, Epoch: -1}, {System: 4, Epoch: api.MaxNumber + 1}, {System: 1, Epoch: math.MinInt}}
}

// refused checks that Format, Mount and Recover do not accept a device and a writer.
func refused(t *testing.T, d *device.Device, writer api.Writer) {
	t.Helper()
	same(t, "Format", volume.Format(d, writer, "NEW"), api.ErrArg)
	if v, e := volume.Mount(d, writer); v != nil || e != api.ErrArg {
		t.Errorf("Mount: %v, error %d", v != nil, e)
	}
	if n, e := volume.Recover(d, writer, "NEW"); n != 0 || e != api.ErrArg {
		t.Errorf("Recover: %d, error %d", n, e)
	}
}

func TestArguments(t *testing.T) { // Errors: ErrArg of Format, Mount and Recover, before anything is done
	for _, sectors := range []int{1, 8, 32, 130, 131, 132, 131 + 8, 131 + 24, 131 + 31, 131 + 33, 131 + 39, 131 + 41, 131 + 1023} {
		d, e := device.New(sectors)
		same(t, "New", e, api.OK)
		refused(t, d, by(1))
		if sectors > 131 {
			same(t, "pages.Format", pages.Format(d, by(1)), api.OK)
			refused(t, d, by(1))
		}
	}
	d, _ := newExample(t)
	damage(t, d, 3)
	same(t, "damage of the map", d.Damage(2, 0, 1), api.OK)
	before := image(t, d)
	for _, writer := range badWriters() {
		refused(t, d, writer)
	}
	for _, name := range []string{"", "vol", "1VOL", "V-L", "ABCDEFGHI", "V\x00", "\xff", strings.Repeat("V", 1000)} {
		same(t, name, volume.Format(d, by(1), name), api.ErrArg)
		if n, e := volume.Recover(d, by(1), name); n != 0 || e != api.ErrArg {
			t.Errorf("Recover as %q: %d, error %d", name, n, e)
		}
	}
	if !slices.Equal(image(t, d), before) {
		t.Error("the device has changed")
	}
	d.FailAfter(0)
	d.Sync(by(1))
	refused(t, d, api.Writer{})
	same(t, "a failed device", volume.Format(d, by(1), "NEW"), api.ErrFailed)
	d.Repair()
	for _, writer := range []api.Writer{{System: 4, Epoch: api.MaxNumber}, {System: 1}} {
		same(t, "Format", volume.Format(d, writer, "NEW"), api.OK)
	}
}

func TestMountErrors(t *testing.T) { // Errors of Mount: those of pages.Open, and of reading the table
	mounts := func(what string, d *device.Device, want api.Errno) {
		t.Helper()
		if v, e := volume.Mount(d, by(2)); v != nil || e != want {
			t.Errorf("%s: %v, error %d, not %d", what, v != nil, e, want)
		}
	}
	fresh := newDevice(t, 20)
	mounts("a new device", fresh, api.ErrCorrupt)
	same(t, "pages.Format", pages.Format(fresh, by(1)), api.OK)
	mounts("a store without a table", fresh, api.ErrCorrupt)
	d, _ := newExample(t)
	d.Fence(2, 7)
	if v, e := volume.Mount(d, by(2)); v == nil || e != api.OK {
		t.Errorf("a fenced writer: error %d", e)
	}
	for sector := range 40 {
		c := d.Clone()
		damage(t, c, sector)
		mounts("a damaged sector", c, api.ErrCorrupt)
	}
	c := d.Clone()
	damage(t, c, 40)
	if v, e := volume.Mount(c, by(2)); v == nil || e != api.OK {
		t.Errorf("a damaged sector behind the table: error %d", e)
	}
	c = d.Clone()
	age(t, c, 8)
	mounts("a stale sector", c, api.ErrStale)
	// The first error counts, in the order of the sectors.
	damage(t, c, 9)
	mounts("a stale sector before a damaged one", c, api.ErrStale)
	damage(t, c, 7)
	mounts("a damaged sector before a stale one", c, api.ErrCorrupt)
	c.FailAfter(0)
	c.Sync(by(1))
	mounts("a failed device", c, api.ErrFailed)
	c = d.Clone()
	same(t, "damage of the top", c.Damage(0, 0, 1), api.OK)
	mounts("a damaged top", c, api.ErrCorrupt)
}

func TestWrongTables(t *testing.T) { // Definitions: ErrCorrupt, if Load has an error or Tracks is another number
	good := contents.Sectors(example())
	replaced := func(sector int, s string) []string {
		l := slices.Clone(good)
		l[sector] = filled(s)
		return l
	}
	for what, sectors := range map[string][]string{
		"no table":             slices.Repeat([]string{full(0)}, 40),
		"another name":         replaced(0, "\x03vol\x14"),
		"17 tracks":            replaced(0, "\x03VOL\x11"),
		"18 tracks":            replaced(0, "\x03VOL\x12"),
		"19 tracks":            replaced(0, "\x03VOL\x13"),
		"21 tracks":            replaced(0, "\x03VOL\x15"),
		"16 tracks":            replaced(0, "\x03VOL\x10"),
		"no label":             replaced(16, "x"),
		"two of the same Id":   replaced(16, "\x07\x00\x00\x00\x01\x08\x01"),
		"a track twice":        replaced(16, "\x05\x01\x00\x00\x01\x05\x01"),
		"a track of the table": replaced(16, "\x05\x01\x00\x00\x01\x04\x01"),
	} {
		d, v := newExample(t)
		plant(t, d, sectors)
		if x, e := v.Table(); !contents.Same(x, api.Table{}) || e != api.ErrCorrupt {
			t.Errorf("%s: %v, error %d", what, x, e)
		}
		if v, e := volume.Mount(d, by(2)); v != nil || e != api.ErrCorrupt {
			t.Errorf("%s: Mount: error %d", what, e)
		}
	}
	// A table of 17 to 19 tracks is as long as that of 20, and would be valid without labels behind its tracks.
	for _, tracks := range []int{17, 18, 19} {
		d, v := newVolume(t, 20)
		x, _ := contents.New("VOL", tracks)
		plant(t, d, contents.Sectors(x))
		if x, e := v.Table(); !contents.Same(x, api.Table{}) || e != api.ErrCorrupt {
			t.Errorf("%d tracks: %v, error %d", tracks, x, e)
		}
	}
}

func TestTable(t *testing.T) { // P9.2
	d, v := newExample(t)
	has(t, "the example", d, v, example())
	x, _ := v.Table()
	x.Labels[0].Extents[0].From = 99
	x.Labels[1].Id = 99
	has(t, "after a change of a result", d, v, example())
	for _, r := range exampleRefs() {
		want, _ := contents.Find(example(), r)
		l, e := v.Label(r)
		if e != api.OK || l.Id != r.Id || l.Unit != r.Unit || l.Name != want.Name || l.Note != want.Note || !slices.Equal(l.Extents, want.Extents) {
			t.Errorf("%v: %v, error %d", r, l, e)
		}
		l.Extents[0].From = 99
		n := 8 * 3
		if r.Id == 3 {
			n = 8 * 2
		}
		if got, e := v.Sectors(r); got != n || e != api.OK {
			t.Errorf("%v: %d sectors, error %d", r, got, e)
		}
	}
	has(t, "after a change of a result", d, v, example())
	for _, r := range wrongRefs() {
		if l, e := v.Label(r); l.Id != 0 || l.Unit != 0 || l.Name != "" || l.Note != "" || len(l.Extents) > 0 || e != api.ErrNotFound {
			t.Errorf("%v: %v, error %d", r, l, e)
		}
		if n, e := v.Sectors(r); n != 0 || e != api.ErrNotFound {
			t.Errorf("%v: %d sectors, error %d", r, n, e)
		}
	}
}

// reads checks what is read of a sector of a label.
func reads(t *testing.T, v *volume.Volume, r api.Ref, sector int, want string, code api.Errno) {
	t.Helper()
	if s, e := v.Read(r, sector); s != want || e != code {
		t.Errorf("the sector %d of %v: %q, error %d, not %q, error %d", sector, r, s, e, want, code)
	}
}

func TestRead(t *testing.T) { // P9.2
	d, v := newExample(t)
	first := map[api.Ref][]int{trueRef(7): {80, 88, 40}, ref(7, 4): {48, 56, 144}, ref(3, 9): {152, 96}}
	for r, tracks := range first {
		for i, from := range tracks {
			for k := range 8 {
				reads(t, v, r, 8*i+k, content(from+k), api.OK)
			}
		}
		for _, sector := range []int{math.MinInt, -8, -1, 8 * len(tracks), 8*len(tracks) + 7, math.MaxInt} {
			reads(t, v, r, sector, "", api.ErrRange)
		}
	}
	for _, r := range wrongRefs() {
		reads(t, v, r, 0, "", api.ErrNotFound)
		reads(t, v, r, -1, "", api.ErrNotFound)
	}
	damage(t, d, 41)
	reads(t, v, trueRef(7), 17, "", api.ErrCorrupt)
	reads(t, v, trueRef(7), 16, content(40), api.OK)
	age(t, d, 42)
	reads(t, v, trueRef(7), 18, "", api.ErrStale)
	reads(t, v, trueRef(7), 24, "", api.ErrRange)
}

// page checks a page of a label.
func page(t *testing.T, p api.Pages, n int, want string, code api.Errno) {
	t.Helper()
	if s, e := p.Page(n); s != want || e != code {
		t.Errorf("the page %d: %q, error %d, not %q, error %d", n, s, e, want, code)
	}
}

func TestPages(t *testing.T) { // P9.6
	d, v := newExample(t)
	r := trueRef(7)
	for _, size := range []int{1, 2, 3, 4, 5, 7, 8, 11, 12, 13, 23, 24, 25, 1000, math.MaxInt} {
		p := v.Pages(r, size)
		for n := range 24 / size {
			want := ""
			for i := range size {
				s, _ := v.Read(r, size*n+i)
				want += s
			}
			page(t, p, n, want, api.OK)
		}
		for _, n := range []int{math.MinInt, -2, -1, 24 / size, 24/size + 1, 1 << 60, 1 << 62, math.MaxInt} {
			page(t, p, n, "", api.ErrRange)
		}
	}
	for _, size := range []int{math.MinInt, -24, -1, 0} {
		for _, n := range []int{-1, 0, 1, math.MaxInt} {
			page(t, v.Pages(r, size), n, "", api.ErrRange)
		}
		page(t, v.Pages(trueRef(3), size), 0, "", api.ErrNotFound)
	}
	for _, wrong := range wrongRefs() {
		page(t, v.Pages(wrong, 4), 0, "", api.ErrNotFound)
		page(t, v.Pages(wrong, 4), -1, "", api.ErrNotFound)
	}
	// The pages follow the volume.
	p, later := v.Pages(r, 8), v.Pages(ref(9, 9), 1)
	page(t, later, 0, "", api.ErrNotFound)
	same(t, "Write", mount(t, d, 2).Write(r, w(23, 'x')), api.OK)
	s, _ := p.Page(2)
	if s[7*128:] != full('x') {
		t.Errorf("%q", s)
	}
	same(t, "Release", v.Release(r, 2), api.OK)
	page(t, p, 2, "", api.ErrRange)
	same(t, "Create", v.Create(ref(9, 9), "", "", 1, w(0, 'y')), api.OK)
	page(t, later, 0, full('y'), api.OK)
	same(t, "Remove", v.Remove(r), api.OK)
	page(t, p, 0, "", api.ErrNotFound)
}

func TestPageErrors(t *testing.T) { // Errors of Page: the first error of reading a sector
	d, v := newExample(t)
	p := v.Pages(trueRef(7), 8)
	damage(t, d, 83)
	page(t, p, 0, "", api.ErrCorrupt)
	age(t, d, 85)
	page(t, p, 0, "", api.ErrCorrupt)
	age(t, d, 81)
	page(t, p, 0, "", api.ErrStale)
	s, e := p.Page(1)
	if len(s) != 1024 || e != api.OK {
		t.Errorf("another page: error %d", e)
	}
	page(t, p, 3, "", api.ErrRange)
	damage(t, d, 0)
	page(t, p, 3, "", api.ErrCorrupt)
	page(t, v.Pages(ref(9, 9), 0), 1, "", api.ErrCorrupt)
}

// bad checks the sectors that cannot be read.
func bad(t *testing.T, what string, v *volume.Volume, want ...api.BadSector) {
	t.Helper()
	if l, e := v.Bad(); !slices.Equal(l, want) || e != api.OK {
		t.Errorf("%s: %v, error %d, not %v", what, l, e, want)
	}
}

func TestBad(t *testing.T) { // P9.5
	d, v := newExample(t)
	bad(t, "none", v)
	damage(t, d, 155)
	damage(t, d, 89)
	age(t, d, 40)
	damage(t, d, 47)
	damage(t, d, 64)
	age(t, d, 136)
	damage(t, d, 55)
	age(t, d, 144)
	damage(t, d, 103)
	want := []api.BadSector{
		{Ref: trueRef(7), Sector: 16, Code: api.ErrStale},
		{Ref: trueRef(7), Sector: 23, Code: api.ErrCorrupt},
		{Ref: ref(7, 4), Sector: 7, Code: api.ErrCorrupt},
		{Sector: 64, Code: api.ErrCorrupt},
		{Ref: trueRef(7), Sector: 9, Code: api.ErrCorrupt},
		{Ref: ref(3, 9), Sector: 15, Code: api.ErrCorrupt},
		{Sector: 136, Code: api.ErrStale},
		{Ref: ref(7, 4), Sector: 16, Code: api.ErrStale},
		{Ref: ref(3, 9), Sector: 3, Code: api.ErrCorrupt},
	}
	bad(t, "several", v, want...)
	// Without a table, all of them are data sectors of the volume.
	age(t, d, 8)
	numbers := []int{8, 40, 47, 55, 64, 89, 103, 136, 144, 155}
	var all []api.BadSector
	for i, n := range numbers {
		code := api.ErrStale
		if i > 0 {
			code = want[i-1].Code
		}
		all = append(all, api.BadSector{Sector: n, Code: code})
	}
	bad(t, "without the table", v, all...)
	plant(t, d, slices.Repeat([]string{full('x')}, 40))
	bad(t, "with a wrong table", v, all[1:]...)
	plant(t, d, contents.Sectors(example()))
	bad(t, "again", v, want...)
	d.Fence(1, 7)
	bad(t, "fenced", v, want...)
	same(t, "damage of the map", d.Damage(2, 0, 1), api.OK)
	if l, e := v.Bad(); len(l) != 32+6 || l[0] != (api.BadSector{Sector: 32, Code: api.ErrCorrupt}) || e != api.OK {
		t.Errorf("without a map sector: %v, error %d", l, e)
	}
	same(t, "damage of the top", d.Damage(0, 0, 1), api.OK)
	if l, e := v.Bad(); len(l) != 160 || l[159] != (api.BadSector{Sector: 159, Code: api.ErrCorrupt}) || e != api.OK {
		t.Errorf("without the top: %d, error %d", len(l), e)
	}
	d.FailAfter(0)
	d.Sync(by(2))
	if l, e := v.Bad(); len(l) > 0 || e != api.ErrFailed {
		t.Errorf("a failed device: %v, error %d", l, e)
	}
}
