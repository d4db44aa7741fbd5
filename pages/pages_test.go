package pages_test

import (
	"math"
	"slices"
	"strings"
	"testing"

	"dasd/api"
	"dasd/checksum"
	"dasd/device"
	"dasd/pages"
)

// The places of the parts of a device.
const (
	headAt  = 33
	entryAt = 34
	dataAt  = 131
)

// zeros is the content of a raw sector of zeros.
func zeros() string { return strings.Repeat("\x00", api.RawSize) }

// full returns data that consist of one byte.
func full(b byte) string { return strings.Repeat(string([]byte{b}), api.SectorSize) }

// list returns data that consist of numbers, followed by zeros.
func list(numbers ...uint32) string {
	s := ""
	for _, n := range numbers {
		s += string([]byte{byte(n), byte(n >> 8), byte(n >> 16), byte(n >> 24)})
	}
	return s + full(0)[len(s):]
}

// repeat returns data that begin with count times the number n.
func repeat(n uint32, count int) string { return list(slices.Repeat([]uint32{n}, count)...) }

// raw returns a readable raw sector, as the chapter defines it.
func raw(data string, version, index uint32) string {
	return checksum.Seal(data + list(version, index)[:8])
}

// by returns a writer.
func by(system int) api.Writer { return api.Writer{System: system, Epoch: 7} }

// same checks the error of a call.
func same(t *testing.T, what string, e, want api.Errno) {
	t.Helper()
	if e != want {
		t.Errorf("%s: error %d, not %d", what, e, want)
	}
}

// newDevice returns a device with data sectors that was not formatted.
func newDevice(t *testing.T, sectors int) *device.Device {
	t.Helper()
	d, e := device.New(dataAt + sectors)
	if e != api.OK {
		t.Fatalf("New: error %d", e)
	}
	return d
}

// newStore returns a new store with its device, for system 1.
func newStore(t *testing.T, sectors int) (*device.Device, *pages.Store) {
	t.Helper()
	d := newDevice(t, sectors)
	same(t, "Format", pages.Format(d, by(1)), api.OK)
	return d, open(t, d, 1)
}

// open returns the store of a system.
func open(t *testing.T, d *device.Device, system int) *pages.Store {
	t.Helper()
	s, e := pages.Open(d, by(system))
	if e != api.OK || s == nil {
		t.Fatalf("Open: error %d", e)
	}
	return s
}

// put gives a sector of a device a stable content.
func put(t *testing.T, d *device.Device, index int, content string) {
	t.Helper()
	same(t, "Write", d.Write(by(4), index, content), api.OK)
	same(t, "Sync", d.Sync(by(4)), api.OK)
}

// image returns the contents of all sectors of a device.
func image(t *testing.T, d *device.Device) []string {
	t.Helper()
	contents := make([]string, d.Sectors())
	for i := range contents {
		s, e := d.Read(i)
		if e != api.OK {
			t.Fatalf("sector %d: error %d", i, e)
		}
		contents[i] = s
	}
	return contents
}

// sameImage checks the contents of all sectors of a device.
func sameImage(t *testing.T, what string, d *device.Device, want []string) {
	t.Helper()
	for i, s := range image(t, d) {
		if s != want[i] {
			t.Errorf("%s: sector %d has %q, not %q", what, i, s, want[i])
		}
	}
}

// reads checks what is read of a data sector.
func reads(t *testing.T, s *pages.Store, sector int, want string, code api.Errno) {
	t.Helper()
	if data, e := s.Read(sector); data != want || e != code {
		t.Errorf("sector %d: %q, error %d, not %q, error %d", sector, data, e, want, code)
	}
}

// number checks the number of the last list.
func number(t *testing.T, s *pages.Store, want int) {
	t.Helper()
	if n, e := s.Number(); n != want || e != api.OK {
		t.Errorf("number %d, error %d, not %d", n, e, want)
	}
}

// w returns the write of a sector.
func w(sector int, b byte) api.SectorWrite { return api.SectorWrite{Sector: sector, Data: full(b)} }

// commit commits writes.
func commit(t *testing.T, s *pages.Store, writes ...api.SectorWrite) {
	t.Helper()
	same(t, "Commit", s.Commit(writes...), api.OK)
}

// step is a step on a device: a write, or (with the index -1) a sync.
type step struct {
	index   int
	content string
}

// theSync is the step of a sync.
func theSync() step { return step{index: -1} }

// follows checks that run, on a device as d, does exactly these steps in this order, and that every failure in them ends it.
func follows(t *testing.T, d *device.Device, steps []step, run func(d *device.Device) api.Errno) {
	t.Helper()
	all := slices.Repeat([]int{api.RawSize}, len(steps))
	written := image(t, d)
	synced := slices.Clone(written)
	for n, x := range steps {
		for _, kept := range []struct {
			survive []int
			want    []string
		}{{all, written}, {nil, synced}} {
			c := d.Clone()
			c.FailAfter(n, kept.survive...)
			same(t, "a failing step", run(c), api.ErrFailed)
			c.Repair()
			sameImage(t, "a failing step", c, kept.want)
		}
		if x.index < 0 {
			synced = slices.Clone(written)
		} else {
			written[x.index] = x.content
		}
	}
	c := d.Clone()
	c.FailAfter(len(steps))
	same(t, "all steps", run(c), api.OK)
	sameImage(t, "all steps", c, written)
	same(t, "no further step", c.Sync(by(3)), api.ErrFailed)
}

func TestPack(t *testing.T) { // P4.1
	for _, x := range []struct {
		data, padded string
		version      uint32
		index        int
		own          uint32
	}{
		{"", full(0), 0, 0, 0},
		{"ab", "ab" + full(0)[2:], 3, 258, 258},
		{full('x'), full('x'), math.MaxUint32, dataAt, dataAt},
		{full('x')[1:], full('x')[1:] + "\x00", 1, math.MaxUint32, math.MaxUint32},
		{full('x') + "y", full('x'), 1 << 31, 1 << 32, 0},
		{full('x') + full('y') + full('z'), full('x'), 0x01020304, 0x0a0b0c0d0e, 0x0b0c0d0e},
		{"\x00\xff", "\x00\xff" + full(0)[2:], 7, -1, math.MaxUint32},
		{"", full(0), 7, math.MinInt, 0},
		{"", full(0), 7, math.MaxInt, math.MaxUint32},
	} {
		s := pages.Pack(x.data, x.version, x.index)
		if s != raw(x.padded, x.version, x.own) || len(s) != api.RawSize {
			t.Errorf("%q, %d, %d: %q", x.data, x.version, x.index, s)
		}
		for _, index := range []int{x.index, int(x.own)} {
			if data, version, e := pages.Unpack(s, index); data != x.padded || version != x.version || e != api.OK {
				t.Errorf("%q as %d: %q, %d, error %d", s, index, data, version, e)
			}
		}
	}
}

// unreadable checks that a raw sector is not readable.
func unreadable(t *testing.T, s string, index int) {
	t.Helper()
	if data, version, e := pages.Unpack(s, index); data != "" || version != 0 || e != api.ErrCorrupt {
		t.Errorf("%q as %d: %q, %d, error %d", s, index, data, version, e)
	}
}

func TestUnpackErrors(t *testing.T) { // P4.1, errors of Unpack
	s := raw(full('x'), 5, 258)
	for _, index := range []int{0, 257, 259, 2, 1, -258, math.MaxInt} {
		unreadable(t, s, index)
	}
	for _, x := range []string{"", "x", zeros(), s[1:], s[:139], s + "\x00", "\x00" + s, s + s, full('x'), checksum.Seal(""), checksum.Seal(full('x')), checksum.Seal(full('x') + list(5, 258)[:8] + "\x00"), checksum.Seal(s)} {
		unreadable(t, x, 258)
		unreadable(t, x, 0)
	}
	for at := range s {
		for _, mask := range []byte{1, 16, 128, 255} {
			x := []byte(s)
			x[at] ^= mask
			unreadable(t, string(x), 258)
		}
	}
}

// formatted returns the contents that Format writes, and its steps.
func formatted(sectors int) ([]string, []step) {
	contents := slices.Repeat([]string{zeros()}, dataAt+sectors)
	var steps []step
	write := func(index int, content string) {
		contents[index] = content
		steps = append(steps, step{index, content})
	}
	for i := range sectors {
		write(dataAt+i, raw(full(0), 1, uint32(dataAt+i)))
	}
	for k := range 32 {
		write(1+k, raw(repeat(1, min(max(sectors-32*k, 0), 32)), 1, uint32(1+k)))
	}
	write(0, raw(repeat(1, 32), 1, 0))
	write(headAt, zeros())
	return contents, append(steps, theSync())
}

func TestFormat(t *testing.T) { // P4.2
	for _, sectors := range []int{1, 31, 32, 33, 40, 1023, 1024} {
		d, s := newStore(t, sectors)
		want, _ := formatted(sectors)
		sameImage(t, "Format", d, want)
		if s.Sectors() != sectors || s.Writer() != by(1) || d.Pending(1) != 0 {
			t.Errorf("%d sectors: %d, writer %v, %d pending", sectors, s.Sectors(), s.Writer(), d.Pending(1))
		}
		number(t, s, 1)
		for _, sector := range []int{0, sectors / 2, sectors - 1} {
			reads(t, s, sector, full(0), api.OK)
		}
	}
}

func TestFormatSteps(t *testing.T) { // P4.2: the order of the writes, whatever was on the device
	d := newDevice(t, 34)
	for index := range d.Sectors() {
		put(t, d, index, raw(full('o'), 9, uint32(index)))
	}
	plant(t, d, 9, entry{dataAt, full('i')})
	_, steps := formatted(34)
	follows(t, d, steps, func(d *device.Device) api.Errno { return pages.Format(d, by(1)) })
	d.Fence(1, 7)
	before := image(t, d)
	same(t, "Format", pages.Format(d, by(1)), api.ErrFenced)
	sameImage(t, "Format", d, before)
	same(t, "Format", pages.Format(d, api.Writer{System: 1, Epoch: 8}), api.OK)
}

// badWriters returns writers that are not valid.
func badWriters() []api.Writer {
	return []api.Writer{{}, {System: -1}, {System: 5}, {System: math.MaxInt}, {System: 1, Epoch: -1}, {System: 4, Epoch: api.MaxNumber + 1}, {System: 1, Epoch: math.MinInt}}
}

// refused checks that Format, Open and Mend do not accept a device and a writer.
func refused(t *testing.T, d *device.Device, writer api.Writer) {
	t.Helper()
	same(t, "Format", pages.Format(d, writer), api.ErrArg)
	if s, e := pages.Open(d, writer); s != nil || e != api.ErrArg {
		t.Errorf("Open: %v, error %d", s != nil, e)
	}
	if n, e := pages.Mend(d, writer); n != 0 || e != api.ErrArg {
		t.Errorf("Mend: %d, error %d", n, e)
	}
}

func TestArguments(t *testing.T) { // P4.2: ErrArg of Format, Open and Mend, before anything is done
	for _, sectors := range []int{1, 2, 33, 130, 131} {
		d, _ := device.New(sectors)
		refused(t, d, by(1))
	}
	d, _ := newStore(t, 1)
	plant(t, d, 2, entry{dataAt, full('i')})
	put(t, d, 1, zeros())
	before := image(t, d)
	for _, writer := range badWriters() {
		refused(t, d, writer)
	}
	sameImage(t, "refused", d, before)
	d.FailAfter(0)
	d.Sync(by(1))
	refused(t, d, api.Writer{})
	d.Repair()
	for _, writer := range []api.Writer{{System: 4, Epoch: api.MaxNumber}, {System: 1}} {
		same(t, "Format", pages.Format(d, writer), api.OK)
		if s, e := pages.Open(d, writer); e != api.OK || s.Writer() != writer {
			t.Errorf("Open: error %d", e)
		}
		if n, e := pages.Mend(d, writer); n != 0 || e != api.OK {
			t.Errorf("Mend: %d, error %d", n, e)
		}
	}
}

func TestOpenErrors(t *testing.T) { // P4.2, P4.3: the top is not readable
	d := newDevice(t, 3)
	if s, e := pages.Open(d, by(1)); s != nil || e != api.ErrCorrupt {
		t.Errorf("Open: %v, error %d", s != nil, e)
	}
	d, s := newStore(t, 3)
	d.Damage(1, 0, 1)
	number(t, open(t, d, 2), 1)
	d.Damage(0, 139, 1)
	if s, e := pages.Open(d, by(1)); s != nil || e != api.ErrCorrupt {
		t.Errorf("Open: %v, error %d", s != nil, e)
	}
	if n, e := s.Number(); n != 0 || e != api.ErrCorrupt {
		t.Errorf("Number: %d, error %d", n, e)
	}
}

func TestReadErrors(t *testing.T) { // P4.3: the first error in the order top, map sector, data sector
	d, s := newStore(t, 40)
	commit(t, s, w(0, 'a'), w(33, 'b'))
	for _, sector := range []int{-1, 40, math.MinInt, math.MaxInt} {
		reads(t, s, sector, "", api.ErrRange)
	}
	reads(t, s, 33, full('b'), api.OK)
	top, one, data := raw(list(2, 2), 2, 0), raw(list(1, 2), 2, 2), raw(full('b'), 2, dataAt+33)
	for _, x := range []struct {
		top, one, data string
		want           api.Errno
	}{
		{top, one, data, api.OK},
		{top, one, raw(full('b'), 3, dataAt+33), api.ErrStale},
		{top, one, raw(full('b'), 1, dataAt+33), api.ErrStale},
		{top, one, raw(full('b'), 2, dataAt+32), api.ErrCorrupt},
		{top, one, zeros(), api.ErrCorrupt},
		{top, raw(list(1, 2), 1, 2), data, api.ErrStale},
		{top, raw(list(1, 2), 3, 2), zeros(), api.ErrStale},
		{top, raw(list(1, 2), 2, 1), raw(full('b'), 3, dataAt+33), api.ErrCorrupt},
		{top, raw(list(1, 1), 2, 2), data, api.ErrStale},
		{raw(list(2, 1), 2, 0), one, zeros(), api.ErrStale},
		{raw(list(2, 1), 2, 0), zeros(), zeros(), api.ErrCorrupt},
		{raw(list(2, 2), 9, 0), one, data, api.OK},
		{raw(list(2, 2), 2, 1), one, data, api.ErrCorrupt},
		{zeros(), raw(list(1, 2), 3, 2), raw(full('b'), 3, dataAt+33), api.ErrCorrupt},
	} {
		put(t, d, 0, x.top)
		put(t, d, 2, x.one)
		put(t, d, dataAt+33, x.data)
		want := full('b')
		if x.want != api.OK {
			want = ""
		}
		reads(t, s, 33, want, x.want)
	}
	reads(t, s, 40, "", api.ErrRange)
}

func TestReadAll(t *testing.T) { // P4.3
	d, s := newStore(t, 70)
	commit(t, s, w(0, 'a'), w(1, 'b'), w(33, 'c'), w(69, 'd'))
	all := func(code api.Errno, want []string, sectors ...int) {
		t.Helper()
		given := slices.Clone(sectors)
		got, e := s.ReadAll(sectors...)
		if !slices.Equal(got, want) || e != code || !slices.Equal(given, sectors) {
			t.Errorf("%v: %d contents, error %d", given, len(got), e)
		}
	}
	all(api.OK, nil)
	all(api.OK, []string{full('d'), full('a'), full('c'), full('a'), full('b'), full(0)}, 69, 0, 33, 0, 1, 2)
	d.Damage(dataAt+1, 0, 1)
	d.Return(dataAt+33, 1)
	all(api.OK, []string{full('d'), full('a')}, 69, 0)
	all(api.ErrCorrupt, nil, 0, 1, 33, 99)
	all(api.ErrStale, nil, 0, 33, 1, 99)
	all(api.ErrRange, nil, 0, 70, 33, 1)
	all(api.ErrRange, nil, -1, 33, 1)
	d.Damage(3, 0, 1)
	all(api.ErrCorrupt, nil, 0, 69, 33)
	all(api.OK, []string{full('a')}, 0)
	d.Damage(0, 0, 1)
	all(api.ErrCorrupt, nil, 0)
	all(api.ErrRange, nil, 70, 0)
	all(api.OK, nil)
}

// entry is what an intent writes to a sector.
type entry struct {
	index int
	data  string
}

// plant writes an intent with the number m by hand, and returns its entries as raw sectors.
func plant(t *testing.T, d *device.Device, m uint32, entries ...entry) []string {
	t.Helper()
	var contents []string
	for _, x := range entries {
		contents = append(contents, raw(x.data, m, uint32(x.index)))
	}
	for i, content := range contents {
		put(t, d, entryAt+i, content)
	}
	put(t, d, headAt, head(m, contents...))
	return contents
}

// head returns the head of an intent.
func head(m uint32, contents ...string) string {
	return raw(list(m, uint32(len(contents)), checksum.Sum(strings.Join(contents, ""))), m, headAt)
}

func TestCommitSteps(t *testing.T) { // P4.4
	d, s := newStore(t, 70)
	commit(t, s, w(0, 'o'), w(69, 'o'))
	// The map sector 1 was not written since Format, and the map sector 2 is written by both lists.
	contents := []string{
		raw(list(append([]uint32{3, 1, 3}, slices.Repeat([]uint32{1}, 29)...)...), 3, 0),
		raw(list(append([]uint32{2, 1, 3}, slices.Repeat([]uint32{1}, 29)...)...), 3, 1),
		raw(list(1, 1, 1, 1, 1, 3), 3, 3),
		raw(full('a'), 3, dataAt+2),
		raw(full('c'), 3, dataAt+69),
	}
	indices := []int{0, 1, 3, dataAt + 2, dataAt + 69}
	var steps []step
	for i, content := range contents {
		steps = append(steps, step{entryAt + i, content})
	}
	steps = append(steps, theSync(), step{headAt, head(3, contents...)}, theSync())
	for i, content := range contents {
		steps = append(steps, step{indices[i], content})
	}
	steps = append(steps, theSync(), step{headAt, zeros()}, theSync())
	follows(t, d, steps, func(d *device.Device) api.Errno {
		return open(t, d, 2).Commit(w(69, 'c'), w(2, 'a'))
	})
	number(t, s, 2)
	commit(t, s, w(69, 'c'), w(2, 'a'))
	number(t, s, 3)
	reads(t, s, 2, full('a'), api.OK)
	reads(t, s, 69, full('c'), api.OK)
	reads(t, s, 0, full('o'), api.OK)
	reads(t, s, 1, full(0), api.OK)
}

func TestCommitExample(t *testing.T) { // the example of the chapter
	d, s := newStore(t, 8)
	number(t, s, 1)
	commit(t, s, w(2, 'a'), w(5, 'b'))
	number(t, s, 2)
	for i, index := range []int{0, 1, 133, 136} {
		a, _ := d.Read(entryAt + i)
		b, _ := d.Read(index)
		if a != b {
			t.Errorf("entry %d is not that of the sector %d", i, index)
		}
	}
}

// writes returns n writes, of the sectors 0, step, 2 * step and so on.
func writes(n, step int) []api.SectorWrite {
	var l []api.SectorWrite
	for i := range n {
		l = append(l, w(i*step, byte('a'+i%20)))
	}
	return l
}

func TestCommitMany(t *testing.T) { // P4.4: as many sectors as a list can have, in any order
	d, s := newStore(t, 1024)
	for _, step := range []int{1, 16} {
		l := writes(api.MaxCommit, step)
		slices.Reverse(l)
		given := slices.Clone(l)
		commit(t, s, l...)
		if !slices.Equal(l, given) {
			t.Error("the argument was changed")
		}
		for _, x := range l {
			reads(t, s, x.Sector, x.Data, api.OK)
		}
	}
	// 1 top, 32 map sectors and 64 data sectors fill the entries.
	last, _ := d.Read(130)
	if data, version, e := pages.Unpack(last, dataAt+63*16); data != full('a'+3) || version != 3 || e != api.OK {
		t.Errorf("the last entry: %q, %d, error %d", data, version, e)
	}
	// Such a list is finished by another system, too.
	d.FailAfter(97 + 1 + 1 + 1 + 50)
	same(t, "Commit", s.Commit(writes(api.MaxCommit, 16)...), api.ErrFailed)
	d.Repair()
	if ok, e := open(t, d.Clone(), 2).Finish(); ok || e != api.OK {
		t.Errorf("Finish behind Open: %v, error %d", ok, e)
	}
	if ok, e := s.Finish(); !ok || e != api.OK {
		t.Errorf("Finish: %v, error %d", ok, e)
	}
	for _, x := range writes(api.MaxCommit, 16) {
		reads(t, s, x.Sector, x.Data, api.OK)
	}
}

func TestCommitErrors(t *testing.T) { // P4.4: the errors of Commit, in their order
	d, s := newStore(t, 70)
	commit(t, s, w(0, 'a'), w(33, 'b'), w(65, 'c'))
	refuses := func(want api.Errno, l ...api.SectorWrite) {
		t.Helper()
		before := image(t, d)
		same(t, "Commit", s.Commit(l...), want)
		sameImage(t, "Commit", d, before)
	}
	short, long := api.SectorWrite{Sector: 1, Data: full('x')[1:]}, api.SectorWrite{Sector: 1, Data: full('x') + "x"}
	for _, want := range []api.Errno{api.OK, api.ErrCorrupt} {
		// The second time, there is no readable top.
		if want != api.OK {
			d.Damage(0, 0, 1)
			refuses(want, w(1, 'x'))
		}
		refuses(api.ErrArg, short)
		refuses(api.ErrArg, long)
		refuses(api.ErrArg, api.SectorWrite{Sector: 1})
		refuses(api.ErrArg, w(-1, 'x'), w(2, 'x'), short)
		refuses(api.ErrArg, w(2, 'x'), w(3, 'x'), w(2, 'x'))
		refuses(api.ErrArg, w(-1, 'x'), w(3, 'x'), w(-1, 'y'))
		refuses(api.ErrArg, append(writes(65, 1), w(7, 'x'))...)
		for _, sector := range []int{-1, 70, math.MinInt, math.MaxInt} {
			refuses(api.ErrRange, w(1, 'x'), w(sector, 'x'))
		}
		refuses(api.ErrRange, writes(71, 1)...)
		refuses(api.ErrTooLarge, writes(65, 1)...)
		refuses(api.OK)
	}
	d.Damage(0, 0, 1)
	// The map sectors count in increasing order: 0 is fine, 1 is stale, and 2 is damaged.
	d.Return(2, 1)
	d.Damage(3, 5, 9)
	refuses(api.ErrStale, w(65, 'x'), w(33, 'x'))
	refuses(api.ErrCorrupt, w(65, 'x'), w(1, 'x'))
	refuses(api.ErrTooLarge, writes(65, 1)...)
	top, _ := d.Read(0)
	put(t, d, 0, raw(top[:api.SectorSize], math.MaxUint32, 0))
	refuses(api.ErrStale, w(65, 'x'), w(33, 'x'))
	refuses(api.ErrTooLarge, w(1, 'x'))
	refuses(api.OK)
	number(t, s, math.MaxUint32)
	reads(t, s, 0, full('a'), api.OK)
	put(t, d, 0, raw(top[:api.SectorSize], math.MaxUint32-1, 0))
	commit(t, s, w(1, 'x'))
	number(t, s, math.MaxUint32)
	reads(t, s, 1, full('x'), api.OK)
	reads(t, s, 0, full('a'), api.OK)
}

func TestCommitMends(t *testing.T) { // P4.4: bad data sectors can be written
	d, s := newStore(t, 8)
	commit(t, s, w(1, 'a'), w(2, 'a'))
	d.Damage(dataAt+1, 0, 1)
	d.Return(dataAt+2, 1)
	commit(t, s, w(1, 'b'), w(2, 'c'))
	reads(t, s, 1, full('b'), api.OK)
	reads(t, s, 2, full('c'), api.OK)
}
