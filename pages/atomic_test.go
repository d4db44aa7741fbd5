package pages_test

import (
	"math/rand"
	"slices"
	"testing"

	"dasd/api"
	"dasd/device"
	"dasd/pages"
)

// anyWrites returns writes of some sectors, with data that occur only once.
func anyWrites(random *rand.Rand, sectors int) []api.SectorWrite {
	var l []api.SectorWrite
	for _, sector := range random.Perm(sectors)[:random.Intn(min(sectors, 8))+1] {
		data := make([]byte, api.SectorSize)
		random.Read(data)
		l = append(l, api.SectorWrite{Sector: sector, Data: string(data)})
	}
	return l
}

// with returns contents after writes.
func with(contents []string, l []api.SectorWrite) []string {
	after := slices.Clone(contents)
	for _, x := range l {
		after[x.Sector] = x.Data
	}
	return after
}

// change commits writes of some sectors, and notes them in the contents.
func change(t *testing.T, random *rand.Rand, s *pages.Store, contents []string) {
	t.Helper()
	l := anyWrites(random, len(contents))
	commit(t, s, l...)
	copy(contents, with(contents, l))
}

// contains checks the contents of all data sectors.
func contains(t *testing.T, s *pages.Store, contents []string) {
	t.Helper()
	sectors := make([]int, len(contents))
	for i := range sectors {
		sectors[i] = i
	}
	if all, e := s.ReadAll(sectors...); e != api.OK || !slices.Equal(all, contents) {
		t.Fatalf("other contents, or error %d", e)
	}
}

// anySurvivors returns numbers of bytes, many of which are all or none.
func anySurvivors(random *rand.Rand) []int {
	l := make([]int, random.Intn(40))
	for i := range l {
		l[i] = []int{0, api.RawSize, api.RawSize, random.Intn(api.RawSize)}[random.Intn(4)]
	}
	return l
}

func TestAtomic(t *testing.T) { // P4.7: all old or all new contents, whatever fails; all systems see them at once
	random := rand.New(rand.NewSource(9))
	for range 40 {
		d, _ := newStore(t, 50)
		stores := []*pages.Store{open(t, d, 1), open(t, d, 2), open(t, d, 3)}
		contents := slices.Repeat([]string{full(0)}, 50)
		for range 40 {
			l := anyWrites(random, 50)
			d.FailAfter(random.Intn(45), anySurvivors(random)...)
			e := stores[random.Intn(3)].Commit(l...)
			if e != api.OK && e != api.ErrFailed {
				t.Fatalf("error %d", e)
			}
			d.Repair()
			// What is read first decides which of both it was.
			first, _ := stores[random.Intn(3)].Read(l[0].Sector)
			if e == api.OK || first == l[0].Data {
				contents = with(contents, l)
			}
			contains(t, stores[random.Intn(3)], contents)
		}
	}
}

func TestFailuresOfFinishing(t *testing.T) { // P4.7: finishing may fail as often as it likes
	random := rand.New(rand.NewSource(10))
	for range 100 {
		d, s := newStore(t, 50)
		contents := slices.Repeat([]string{full(0)}, 50)
		change(t, random, s, contents)
		l := anyWrites(random, 50)
		d.FailAfter(random.Intn(45), anySurvivors(random)...)
		s.Commit(l...)
		first := ""
		for range 5 {
			d.Repair()
			now, e := s.Read(l[0].Sector)
			if e == api.OK && first == "" {
				first = now
			}
			d.FailAfter(random.Intn(20), anySurvivors(random)...)
			open := []func() api.Errno{
				func() api.Errno { _, e := pages.Open(d, by(2)); return e },
				func() api.Errno { _, e := s.Finish(); return e },
			}
			open[random.Intn(2)]()
		}
		d.Repair()
		if first == l[0].Data {
			contents = with(contents, l)
		}
		contains(t, s, contents)
	}
}

// harm damages or returns a sector other than the top.
func harm(random *rand.Rand, d *device.Device) {
	index := 1 + random.Intn(d.Sectors()-1)
	switch {
	case random.Intn(3) == 0:
		// What comes back is often the head of the last intent, or another sector of it.
		index = []int{headAt, entryAt + random.Intn(10), index}[random.Intn(3)]
		d.Return(index, 1+random.Intn(max(d.Old(index), 1)))
	case random.Intn(3) == 0:
		d.Return(index, 1+random.Intn(max(d.Old(index), 1)))
	default:
		at := random.Intn(api.RawSize)
		for i := at; i < min(at+4, api.RawSize); i++ {
			d.Damage(index, i, byte(random.Intn(256)))
		}
	}
}

func TestNotices(t *testing.T) { // P4.7: what can be read is what was committed last
	random := rand.New(rand.NewSource(11))
	found := map[api.Errno]int{}
	for range 200 {
		d, s := newStore(t, 50)
		contents := slices.Repeat([]string{full(0)}, 50)
		for range 20 {
			l := anyWrites(random, 50)
			if e := s.Commit(l...); e == api.OK {
				contents = with(contents, l)
			} else if e != api.ErrCorrupt && e != api.ErrStale {
				t.Fatalf("Commit: error %d", e)
			}
			for range random.Intn(5) {
				harm(random, d)
			}
			for sector := range contents {
				data, e := s.Read(sector)
				found[e]++
				if e == api.OK && data != contents[sector] {
					t.Fatalf("sector %d: %q, not %q", sector, data, contents[sector])
				}
			}
		}
	}
	if found[api.OK] == 0 || found[api.ErrCorrupt] == 0 || found[api.ErrStale] == 0 || len(found) != 3 {
		t.Errorf("%v", found)
	}
}

func FuzzUnpack(f *testing.F) { // P1, P11: what is readable is what would be written
	f.Add("", 0)
	f.Add(zeros(), 0)
	f.Add(raw(full('x'), 5, 258), 258)
	f.Add(raw(full('x'), 5, 258), -1)
	f.Fuzz(func(t *testing.T, s string, index int) {
		data, version, e := pages.Unpack(s, index)
		if e == api.OK && pages.Pack(data, version, index) != s {
			t.Errorf("%q as %d is %q with the version %d", s, index, data, version)
		}
		if e != api.OK && (e != api.ErrCorrupt || data != "" || version != 0) {
			t.Errorf("%q as %d: %q, %d, error %d", s, index, data, version, e)
		}
		packed := pages.Pack(s, version, index)
		if data, _, e := pages.Unpack(packed, index); e != api.OK || data != (s + full(0))[:api.SectorSize] {
			t.Errorf("%q, packed: %q, error %d", s, data, e)
		}
	})
}
