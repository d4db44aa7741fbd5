package pages_test

import (
	"math"
	"math/rand"
	"slices"
	"testing"

	"dasd/api"
	"dasd/device"
	"dasd/pages"
)

// mends checks the result of Mend, and which sectors of the device have other contents then.
func mends(t *testing.T, what string, d *device.Device, want int, changed map[int]string) {
	t.Helper()
	after := image(t, d)
	for index, content := range changed {
		after[index] = content
	}
	if n, e := pages.Mend(d, by(2)); n != want || e != api.OK {
		t.Errorf("%s: %d, error %d, not %d", what, n, e, want)
	}
	sameImage(t, what, d, after)
	if n, e := pages.Mend(d, by(2)); n != 0 || e != api.OK {
		t.Errorf("%s, again: %d, error %d", what, n, e)
	}
	if d.Pending(2) != 0 {
		t.Errorf("%s: %d writes are pending", what, d.Pending(2))
	}
}

// mendable returns a device with 40 data sectors, of which the sectors 0 and 33 were written by the list 2.
func mendable(t *testing.T) *device.Device {
	t.Helper()
	d, s := newStore(t, 40)
	commit(t, s, w(0, 'a'), w(33, 'b'))
	return d
}

// topOf returns the data of a top that begins with versions, followed by 1 for each further map sector.
func topOf(versions ...uint32) string {
	return list(append(versions, slices.Repeat([]uint32{1}, 32-len(versions))...)...)
}

func TestMend(t *testing.T) { // P4.6
	damage := func(index int) func(d *device.Device) {
		return func(d *device.Device) { d.Damage(index, 3, 1) }
	}
	set := func(index int, content string) func(d *device.Device) {
		return func(d *device.Device) { put(t, d, index, content) }
	}
	map1 := list(1, 2, 1, 1, 1, 1, 1, 1)
	for _, x := range []struct {
		what    string
		acts    []func(d *device.Device)
		n       int
		changed map[int]string
	}{
		{"nothing", nil, 0, nil},
		{"data sectors", []func(d *device.Device){damage(dataAt), damage(dataAt + 33)}, 0, nil},
		{"a map sector", []func(d *device.Device){damage(2)}, 2, map[int]string{2: raw(map1, 3, 2), 0: raw(topOf(2, 3), 3, 0)}},
		{"a map sector and data sectors", []func(d *device.Device){damage(2), damage(dataAt + 35), damage(dataAt)}, 2, map[int]string{2: raw(list(1, 2, 1, 0, 1, 1, 1, 1), 3, 2), 0: raw(topOf(2, 3), 3, 0)}},
		{"a full map sector", []func(d *device.Device){damage(1)}, 2, map[int]string{1: raw(list(append([]uint32{2}, slices.Repeat([]uint32{1}, 31)...)...), 3, 1), 0: raw(topOf(3, 2), 3, 0)}},
		{"the last map sector", []func(d *device.Device){damage(32)}, 2, map[int]string{32: raw(full(0), 3, 32), 0: raw(list(append(append([]uint32{2, 2}, slices.Repeat([]uint32{1}, 29)...), 3)...), 3, 0)}},
		{"an old map sector", []func(d *device.Device){set(2, raw(repeat(1, 8), 1, 2))}, 2, map[int]string{2: raw(map1, 3, 2), 0: raw(topOf(2, 3), 3, 0)}},
		{"a map sector that is too new", []func(d *device.Device){set(2, raw(repeat(1, 8), 7, 2))}, 2, map[int]string{2: raw(map1, 8, 2), 0: raw(topOf(2, 8), 8, 0)}},
		{"a map sector at another place", []func(d *device.Device){set(2, raw(map1, 2, 3))}, 2, map[int]string{2: raw(map1, 3, 2), 0: raw(topOf(2, 3), 3, 0)}},
		{"the top", []func(d *device.Device){damage(0)}, 1, map[int]string{0: raw(topOf(2, 2), 3, 0)}},
		{"the top and an old map sector", []func(d *device.Device){damage(0), set(2, raw(repeat(1, 8), 1, 2))}, 1, map[int]string{0: raw(topOf(2, 1), 3, 0)}},
		{"the top and map sectors", []func(d *device.Device){damage(0), damage(2), damage(5)}, 3, map[int]string{2: raw(map1, 3, 2), 5: raw(full(0), 3, 5), 0: raw(topOf(2, 3, 1, 1, 3), 3, 0)}},
		{"the greatest version in the top", []func(d *device.Device){set(0, raw(topOf(2, 2), 9, 0)), damage(2)}, 2, map[int]string{2: raw(map1, 10, 2), 0: raw(topOf(2, 10), 10, 0)}},
		{"the greatest version in the map", []func(d *device.Device){damage(0), set(32, raw(full(0), 9, 32))}, 1, map[int]string{0: raw(list(append(append([]uint32{2, 2}, slices.Repeat([]uint32{1}, 29)...), 9)...), 10, 0)}},
		{"the greatest version in the data", []func(d *device.Device){damage(2), set(dataAt+39, raw(full('n'), 9, dataAt+39))}, 2, map[int]string{2: raw(list(1, 2, 1, 1, 1, 1, 1, 9), 10, 2), 0: raw(topOf(2, 10), 10, 0)}},
		{"sectors that do not count", []func(d *device.Device){damage(2), set(dataAt+39, raw(full('n'), 9, dataAt+38)), set(headAt, raw(full(0), 9, headAt)), set(entryAt, raw(full(0), 9, entryAt)), set(130, raw(full(0), 9, 130))}, 2, map[int]string{2: raw(list(1, 2, 1, 1, 1, 1, 1, 0), 3, 2), 0: raw(topOf(2, 3), 3, 0)}},
		{"the greatest version of all", []func(d *device.Device){damage(2), set(dataAt+39, raw(full('n'), math.MaxUint32-1, dataAt+39))}, 2, map[int]string{2: raw(list(1, 2, 1, 1, 1, 1, 1, math.MaxUint32-1), math.MaxUint32, 2), 0: raw(topOf(2, math.MaxUint32), math.MaxUint32, 0)}},
	} {
		d := mendable(t)
		for _, act := range x.acts {
			act(d)
		}
		mends(t, x.what, d, x.n, x.changed)
	}
}

func TestMendSteps(t *testing.T) { // P4.6: bad map sectors in increasing order, then the top
	d := mendable(t)
	d.Damage(5, 0, 1)
	d.Damage(2, 0, 1)
	steps := []step{{2, raw(list(1, 2, 1, 1, 1, 1, 1, 1), 3, 2)}, {5, raw(full(0), 3, 5)}, {0, raw(topOf(2, 3, 1, 1, 3), 3, 0)}, theSync()}
	follows(t, d, steps, func(d *device.Device) api.Errno {
		n, e := pages.Mend(d, by(2))
		if n != 0 && e != api.OK || n != 3 && e == api.OK {
			t.Errorf("Mend: %d, error %d", n, e)
		}
		return e
	})
	// Without a bad sector nothing is written.
	follows(t, mendable(t), nil, func(d *device.Device) api.Errno {
		_, e := pages.Mend(d, by(2))
		return e
	})
}

func TestMendNothing(t *testing.T) { // P4.6: a device on which no sector is readable
	d := newDevice(t, 3)
	changed := map[int]string{0: raw(repeat(1, 32), 1, 0)}
	for k := range 32 {
		changed[1+k] = raw(full(0), 1, uint32(1+k))
	}
	mends(t, "a new device", d, 33, changed)
	s := open(t, d, 1)
	number(t, s, 1)
	reads(t, s, 0, "", api.ErrCorrupt)
	commit(t, s, w(0, 'a'))
	reads(t, s, 0, full('a'), api.OK)
	reads(t, s, 1, "", api.ErrCorrupt)
}

func TestMendTooLarge(t *testing.T) { // P4.6, errors of Mend
	for _, index := range []int{0, 3, dataAt + 39} {
		d := mendable(t)
		content, _ := d.Read(index)
		put(t, d, index, raw(content[:api.SectorSize], math.MaxUint32, uint32(index)))
		d.Damage(2, 0, 1)
		before := image(t, d)
		if n, e := pages.Mend(d, by(2)); n != 0 || e != api.ErrTooLarge {
			t.Errorf("sector %d: %d, error %d", index, n, e)
		}
		sameImage(t, "too large", d, before)
	}
	// It is no error if nothing is bad.
	d := mendable(t)
	put(t, d, dataAt+39, raw(full('n'), math.MaxUint32, dataAt+39))
	mends(t, "nothing", d, 0, nil)
}

func TestMendFinishes(t *testing.T) { // P4.6: an intent that brings the top back leaves nothing to mend
	d := mendable(t)
	content := plant(t, d, 3, entry{0, topOf(2, 2)})[0]
	d.Damage(0, 0, 1)
	mends(t, "an intent", d, 0, map[int]string{0: content, headAt: zeros()})
}

func TestMendAll(t *testing.T) { // P4.7: after damage to the top and the map alone
	random := rand.New(rand.NewSource(8))
	for range 50 {
		d, s := newStore(t, 100)
		want := slices.Repeat([]string{full(0)}, 100)
		for range 10 {
			change(t, random, s, want)
		}
		for range random.Intn(40) {
			d.Damage(random.Intn(33), random.Intn(api.RawSize), byte(1+random.Intn(255)))
		}
		if _, e := pages.Mend(d, by(2)); e != api.OK {
			t.Fatalf("Mend: error %d", e)
		}
		contains(t, open(t, d, 3), want)
		change(t, random, s, want)
		contains(t, s, want)
	}
}

// bads checks the result of Bad.
func bads(t *testing.T, s *pages.Store, want ...api.BadSector) {
	t.Helper()
	if l, e := s.Bad(); !slices.Equal(l, want) || e != api.OK {
		t.Errorf("%v, error %d, not %v", l, e, want)
	}
}

func TestBad(t *testing.T) { // P4.5
	d, s := newStore(t, 70)
	commit(t, s, w(1, 'a'), w(33, 'b'), w(69, 'c'))
	bads(t, s)
	d.Damage(dataAt+69, 0, 1)
	d.Return(dataAt+33, 1)
	d.Damage(dataAt, 139, 1)
	corrupt := func(sector int) api.BadSector { return api.BadSector{Sector: sector, Code: api.ErrCorrupt} }
	stale := func(sector int) api.BadSector { return api.BadSector{Sector: sector, Code: api.ErrStale} }
	bads(t, s, corrupt(0), stale(33), corrupt(69))
	// A bad map sector is the reason for all sectors below it.
	d.Return(3, 1)
	want := []api.BadSector{corrupt(0), stale(33)}
	for sector := 64; sector < 70; sector++ {
		want = append(want, stale(sector))
	}
	bads(t, s, want...)
	d.Damage(1, 0, 1)
	want = want[1:]
	for sector := 31; sector >= 0; sector-- {
		want = append([]api.BadSector{corrupt(sector)}, want...)
	}
	bads(t, s, want...)
	d.Damage(0, 0, 1)
	want = nil
	for sector := range 70 {
		want = append(want, corrupt(sector))
	}
	bads(t, s, want...)
}
