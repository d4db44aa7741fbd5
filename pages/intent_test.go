package pages_test

import (
	"math"
	"testing"

	"dasd/api"
	"dasd/checksum"
	"dasd/device"
	"dasd/pages"
)

// finishes checks whether an intent is finished, and which sectors of the device have other contents then.
func finishes(t *testing.T, what string, d *device.Device, s *pages.Store, want bool, changed map[int]string) {
	t.Helper()
	after := image(t, d)
	for index, content := range changed {
		after[index] = content
	}
	if ok, e := s.Finish(); ok != want || e != api.OK {
		t.Errorf("%s: %v, error %d", what, ok, e)
	}
	sameImage(t, what, d, after)
	if ok, e := s.Finish(); ok || e != api.OK {
		t.Errorf("%s, again: %v, error %d", what, ok, e)
	}
	sameImage(t, what, d, after)
}

func TestFinish(t *testing.T) { // P4.5: an intent is unfinished if its number is that of the top, or greater by 1, or if the top is not readable
	for _, x := range []struct {
		m    uint32
		top  string
		want bool
	}{
		{5, raw(repeat(1, 32), 5, 0), true},
		{6, raw(repeat(1, 32), 5, 0), true},
		{4, raw(repeat(1, 32), 5, 0), false},
		{7, raw(repeat(1, 32), 5, 0), false},
		{1, raw(repeat(1, 32), math.MaxUint32, 0), false},
		{0, raw(repeat(1, 32), math.MaxUint32, 0), false},
		{math.MaxUint32, raw(repeat(1, 32), math.MaxUint32, 0), true},
		{math.MaxUint32, raw(repeat(1, 32), math.MaxUint32-1, 0), true},
		{0, raw(repeat(1, 32), 0, 0), true},
		{math.MaxUint32, raw(repeat(1, 32), 0, 0), false},
		{4, zeros(), true},
		{4, raw(repeat(1, 32), 9, 1), true},
	} {
		d, s := newStore(t, 40)
		put(t, d, 0, x.top)
		contents := plant(t, d, x.m, entry{dataAt + 39, full('z')}, entry{32, full('y')}, entry{dataAt, full('x')})
		var changed map[int]string
		if x.want {
			changed = map[int]string{dataAt + 39: contents[0], 32: contents[1], dataAt: contents[2], headAt: zeros()}
		}
		finishes(t, "an intent", d, s, x.want, changed)
	}
}

func TestFinishSteps(t *testing.T) { // P4.5: the steps of finishing, in the order of the entries
	d, s := newStore(t, 3)
	contents := plant(t, d, 2, entry{dataAt + 1, full('a')}, entry{7, full('m')}, entry{dataAt + 1, full('b')}, entry{0, full('t')})
	steps := []step{{dataAt + 1, contents[0]}, {7, contents[1]}, {dataAt + 1, contents[2]}, {0, contents[3]}, theSync(), {headAt, zeros()}, theSync()}
	follows(t, d, steps, func(d *device.Device) api.Errno {
		_, e := pages.Open(d, by(2))
		return e
	})
	finishes(t, "an intent", d, s, true, map[int]string{dataAt + 1: contents[2], 0: contents[3], 7: contents[1], headAt: zeros()})
}

func TestFinishCounts(t *testing.T) { // Definitions: an intent has from 1 to 97 entries
	for _, count := range []int{1, 2, 96, 97, 98} {
		d, s := newStore(t, 100)
		changed := map[int]string{}
		var entries []entry
		for i := range count {
			entries = append(entries, entry{dataAt + i, full(byte(i))})
		}
		// Behind 97 entries come the data sectors, the first of which is readable like an entry.
		for i, content := range plant(t, d, 1, entries...) {
			changed[dataAt+i] = content
		}
		if count > 97 {
			finishes(t, "too many entries", d, s, false, nil)
			continue
		}
		changed[headAt] = zeros()
		finishes(t, "entries", d, s, true, changed)
	}
}

func TestNoIntent(t *testing.T) { // Definitions: what is not an intent
	a, b := raw(full('a'), 2, dataAt), raw(full('b'), 2, dataAt+1)
	// The sum of sealed texts of the same length, one behind the other, depends on their number alone, so that other entries with the version 2 would be an intent as well.
	sum := checksum.Sum(a + b)
	broken := b[:139] + "!"
	for _, x := range []struct{ head, second string }{
		{zeros(), b},
		{raw(list(2, 2, sum), 2, headAt+1), b},
		{raw(list(2, 2, sum), 3, headAt), b},
		{raw(list(1, 2, sum), 2, headAt), b},
		{raw(list(1, 2, sum), 1, headAt), b},
		{raw(list(2, 0, 0), 2, headAt), b},
		{raw(list(2, 1, sum), 2, headAt), b},
		{raw(list(2, 2, sum^1), 2, headAt), b},
		{raw(list(2, 2, sum^1<<31), 2, headAt), b},
		{raw(list(2, 1<<31+2, sum), 2, headAt), b},
		{raw(list(2, math.MaxUint32, sum), 2, headAt), b},
		{raw(list(2, 2, sum, 1), 2, headAt), b},
		{raw(list(2, 2, sum)[:127]+"\x01", 2, headAt), b},
		{raw(list(2, 1, checksum.Sum(a), 1), 2, headAt), b},
		{raw(list(1, 1, checksum.Sum(a)), 2, headAt), b},
		{raw(list(2, 0, checksum.Sum(a)), 2, headAt), b},
		{raw(list(2, 98, checksum.Sum(a)), 2, headAt), b},
		{head(2, a, zeros()), zeros()},
		{head(2, a, broken), broken},
		{head(2, a, raw(full('b'), 3, dataAt+1)), raw(full('b'), 3, dataAt+1)},
		{head(2, a, raw(full('b'), 1, dataAt+1)), raw(full('b'), 1, dataAt+1)},
	} {
		d, s := newStore(t, 2)
		put(t, d, entryAt, a)
		put(t, d, entryAt+1, x.second)
		put(t, d, headAt, x.head)
		finishes(t, "no intent", d, s, false, nil)
		reads(t, s, 0, full(0), api.OK)
	}
}

func TestPlaces(t *testing.T) { // Definitions: entries belong to the top, the map and the data sectors
	for index, want := range map[uint32]bool{0: true, 1: true, 32: true, 33: false, 34: false, 130: false, 131: true, 134: true, 135: false, 1 << 31: false, math.MaxUint32: false} {
		d, s := newStore(t, 4)
		contents := plant(t, d, 2, entry{dataAt, full('a')}, entry{int(index), full('i')})
		var changed map[int]string
		if want {
			changed = map[int]string{dataAt: contents[0], headAt: zeros()}
			changed[int(index)] = contents[1]
		}
		finishes(t, "an index", d, s, want, changed)
	}
}

// call calls a function that finishes an intent first, and returns whether its other result is zero, and its error.
type call func(d *device.Device, s *pages.Store) (bool, api.Errno)

// calls returns a call of each function that finishes an intent first.
func calls() map[string]call {
	return map[string]call{
		"Open": func(d *device.Device, s *pages.Store) (bool, api.Errno) {
			x, e := pages.Open(d, s.Writer())
			return x == nil, e
		},
		"Mend": func(d *device.Device, s *pages.Store) (bool, api.Errno) {
			n, e := pages.Mend(d, s.Writer())
			return n == 0, e
		},
		"Read": func(d *device.Device, s *pages.Store) (bool, api.Errno) {
			x, e := s.Read(1)
			return x == "", e
		},
		"a wrong Read": func(d *device.Device, s *pages.Store) (bool, api.Errno) {
			x, e := s.Read(-1)
			return x == "", e
		},
		"ReadAll": func(d *device.Device, s *pages.Store) (bool, api.Errno) {
			x, e := s.ReadAll()
			return len(x) == 0, e
		},
		"Commit":         func(d *device.Device, s *pages.Store) (bool, api.Errno) { return true, s.Commit() },
		"a wrong Commit": func(d *device.Device, s *pages.Store) (bool, api.Errno) { return true, s.Commit(api.SectorWrite{}) },
		"Number": func(d *device.Device, s *pages.Store) (bool, api.Errno) {
			n, e := s.Number()
			return n == 0, e
		},
		"Finish": func(d *device.Device, s *pages.Store) (bool, api.Errno) {
			ok, e := s.Finish()
			return !ok, e
		},
		"Bad": func(d *device.Device, s *pages.Store) (bool, api.Errno) {
			x, e := s.Bad()
			return len(x) == 0, e
		},
	}
}

// waiting returns a device with an intent that was left behind the back of an open store, and the entry of its sector dataAt + 1.
func waiting(t *testing.T) (*device.Device, *pages.Store, string) {
	t.Helper()
	d, s := newStore(t, 3)
	contents := plant(t, d, 2, entry{0, topOf(2)}, entry{1, list(1, 2, 1)}, entry{dataAt + 1, full('a')})
	return d, s, contents[2]
}

// fails checks that a call returns an error of the device, and what the device has then.
func fails(t *testing.T, name string, x call, d *device.Device, s *pages.Store, want api.Errno) {
	t.Helper()
	if zero, e := x(d, s); !zero || e != want {
		t.Errorf("%s: zero %v, error %d, not %d", name, zero, e, want)
	}
}

func TestFinishFirst(t *testing.T) { // Errors: all functions finish an intent first, and an error of the device ends them
	for name, x := range calls() {
		// Finishing has 3 writes, a sync, a write and a sync.
		for n := range 6 {
			d, s, _ := waiting(t)
			d.FailAfter(n)
			fails(t, name, x, d, s, api.ErrFailed)
			fails(t, name, x, d, s, api.ErrFailed)
		}
		d, s, content := waiting(t)
		before := image(t, d)
		c := d.Clone()
		d.Fence(1, 7)
		fails(t, name, x, d, s, api.ErrFenced)
		sameImage(t, name, d, before)
		if n, e := pages.Mend(c, by(2)); n != 0 || e != api.OK {
			t.Errorf("Mend: %d, error %d", n, e)
		}
		if s, e := c.Read(dataAt + 1); s != content || e != api.OK {
			t.Errorf("the entry: %q, error %d", s, e)
		}
		d, s, content = waiting(t)
		zero, e := x(d, s)
		same(t, name, e, map[string]api.Errno{"a wrong Read": api.ErrRange, "a wrong Commit": api.ErrArg}[name])
		if zero == (name == "Open" || name == "Read" || name == "Number" || name == "Finish") {
			t.Errorf("%s: the result is zero: %v", name, zero)
		}
		after := image(t, d)
		if after[dataAt+1] != content || after[headAt] != zeros() {
			t.Errorf("%s does not finish", name)
		}
	}
}

func TestReadsOfFencedWriter(t *testing.T) { // Errors: without an intent, a fenced writer can read
	d, s := newStore(t, 3)
	commit(t, s, w(1, 'a'))
	d.Fence(1, 7)
	reads(t, s, 1, full('a'), api.OK)
	number(t, open(t, d, 1), 2)
	for name, x := range calls() {
		if _, e := x(d, s); e == api.ErrFenced {
			t.Errorf("%s: error %d", name, e)
		}
	}
	same(t, "Commit", s.Commit(w(1, 'b')), api.ErrFenced)
	same(t, "Commit", s.Commit(w(3, 'b')), api.ErrRange)
	d.Damage(1, 0, 1)
	if n, e := pages.Mend(d, by(1)); n != 0 || e != api.ErrFenced {
		t.Errorf("Mend: %d, error %d", n, e)
	}
}
