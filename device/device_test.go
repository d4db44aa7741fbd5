package device_test

import (
	"math"
	"math/rand"
	"slices"
	"strings"
	"testing"

	"dasd/api"
	"dasd/device"
)

// full returns a content that consists of one byte.
func full(b byte) string { return strings.Repeat(string([]byte{b}), api.RawSize) }

// newDevice returns a device with a number of sectors.
func newDevice(t *testing.T, sectors int) *device.Device {
	t.Helper()
	d, e := device.New(sectors)
	if e != api.OK {
		t.Fatalf("New: error %d", e)
	}
	return d
}

// by returns a writer.
func by(system, epoch int) api.Writer { return api.Writer{System: system, Epoch: epoch} }

// same checks the error of a call.
func same(t *testing.T, what string, e, want api.Errno) {
	t.Helper()
	if e != want {
		t.Errorf("%s: error %d, not %d", what, e, want)
	}
}

// holds checks the contents of the first sectors, as they are read.
func holds(t *testing.T, d *device.Device, contents ...string) {
	t.Helper()
	for i, want := range contents {
		if s, e := d.Read(i); e != api.OK || s != want {
			t.Errorf("sector %d: %q, error %d, not %q", i, s, e, want)
		}
	}
}

// olds checks how many earlier contents the first sectors have.
func olds(t *testing.T, d *device.Device, counts ...int) {
	t.Helper()
	for i, want := range counts {
		if n := d.Old(i); n != want {
			t.Errorf("sector %d: %d earlier contents, not %d", i, n, want)
		}
	}
}

// pending checks the numbers of pending writes of the systems from 1 on.
func pending(t *testing.T, d *device.Device, counts ...int) {
	t.Helper()
	for i, want := range counts {
		if n := d.Pending(i + 1); n != want {
			t.Errorf("system %d: %d pending writes, not %d", i+1, n, want)
		}
	}
}

// write writes a sector; the epoch does not matter.
func write(t *testing.T, d *device.Device, system, sector int, data string) {
	t.Helper()
	same(t, "Write", d.Write(by(system, 7), sector, data), api.OK)
}

// stable gives a sector a stable content.
func stable(t *testing.T, d *device.Device, sector int, data string) {
	t.Helper()
	write(t, d, 4, sector, data)
	same(t, "Sync", d.Sync(by(4, 0)), api.OK)
}

func TestNew(t *testing.T) { // P3.1, errors of New
	for _, n := range []int{math.MinInt, -1, 0, 1156, 1 << 40, math.MaxInt} {
		if d, e := device.New(n); d != nil || e != api.ErrArg {
			t.Errorf("%d sectors: %v, error %d", n, d != nil, e)
		}
	}
	for _, n := range []int{1, 2, 131, 132, 1155} {
		d := newDevice(t, n)
		if d.Sectors() != n || d.Failed() {
			t.Errorf("%d sectors: %d, failed %v", n, d.Sectors(), d.Failed())
		}
		for i := range n {
			if s, e := d.Read(i); s != full(0) || e != api.OK || d.Old(i) != 0 {
				t.Errorf("sector %d of %d: %q, error %d", i, n, s, e)
			}
		}
		for _, i := range []int{-1, n, math.MinInt, math.MaxInt} {
			if s, e := d.Read(i); s != "" || e != api.ErrRange || d.Old(i) != 0 {
				t.Errorf("sector %d of %d: %q, error %d", i, n, s, e)
			}
		}
		pending(t, d, 0, 0, 0, 0)
	}
}

// badWriters returns writers that there cannot be.
func badWriters() []api.Writer {
	return []api.Writer{{}, by(0, 1), by(5, 1), by(-1, 1), by(math.MaxInt, 1), by(math.MinInt, 1), by(1, -1), by(1, math.MinInt), by(4, api.MaxNumber+1), by(4, math.MaxInt)}
}

func TestWriteErrors(t *testing.T) { // Errors of Write and Sync, in their order
	d := newDevice(t, 2)
	d.Fence(2, 5)
	for range 2 {
		for _, w := range badWriters() {
			same(t, "Write", d.Write(w, 0, full('a')), api.ErrArg)
			same(t, "Write", d.Write(w, 9, "x"), api.ErrArg)
			same(t, "Sync", d.Sync(w), api.ErrArg)
		}
		for _, data := range []string{"", "a", full('a')[1:], full('a') + "a"} {
			same(t, "Write", d.Write(by(2, 5), 9, data), api.ErrArg)
		}
		for _, sector := range []int{-1, 2, math.MinInt, math.MaxInt} {
			same(t, "Write", d.Write(by(2, 5), sector, full('a')), api.ErrRange)
		}
		pending(t, d, 0, 0, 0, 0)
		want := api.ErrFenced
		if d.Failed() {
			want = api.ErrFailed
		}
		same(t, "Write", d.Write(by(2, 5), 0, full('a')), want)
		same(t, "Sync", d.Sync(by(2, 5)), want)
		// A fenced writer is refused before the device could fail; another one lets it fail, and the errors are checked again.
		d.FailAfter(0)
		same(t, "Write", d.Write(by(2, 5), 0, full('a')), want)
		same(t, "Sync", d.Sync(by(2, 5)), want)
		same(t, "Sync", d.Sync(by(1, 0)), api.ErrFailed)
	}
	d.Repair()
	holds(t, d, full(0), full(0))
	same(t, "Write", d.Write(by(1, 0), 0, full('a')), api.OK)
	same(t, "Write", d.Write(by(4, api.MaxNumber), 1, full('b')), api.OK)
	same(t, "Sync", d.Sync(by(4, api.MaxNumber)), api.OK)
	pending(t, d, 1, 0, 0, 0)
}

func TestReadWrite(t *testing.T) { // P3.1
	d := newDevice(t, 3)
	write(t, d, 1, 0, full('a'))
	write(t, d, 2, 0, full('b'))
	write(t, d, 1, 1, full('c'))
	write(t, d, 2, 1, full('d'))
	write(t, d, 1, 1, full('e'))
	holds(t, d, full('b'), full('e'), full(0))
	pending(t, d, 3, 2, 0, 0)
	olds(t, d, 0, 0, 0)
	for _, system := range []int{0, -1, 5, math.MaxInt} {
		if n := d.Pending(system); n != 0 {
			t.Errorf("system %d: %d pending writes", system, n)
		}
	}
	// A sync ends the writes of all epochs of its system, in order, and those of no other one.
	same(t, "Sync", d.Sync(by(1, 3)), api.OK)
	pending(t, d, 0, 2, 0, 0)
	holds(t, d, full('b'), full('d'), full(0))
	olds(t, d, 1, 2, 0)
	d.Crash(2)
	holds(t, d, full('a'), full('e'), full(0))
	olds(t, d, 1, 2, 0)
	same(t, "Sync", d.Sync(by(3, 0)), api.OK)
	holds(t, d, full('a'), full('e'), full(0))
}

func TestSyncOrder(t *testing.T) { // P3.1: the last write of a sector is its content
	d := newDevice(t, 1)
	for b := range byte(20) {
		write(t, d, 1, 0, full(b))
		holds(t, d, full(b))
	}
	same(t, "Sync", d.Sync(by(1, 0)), api.OK)
	holds(t, d, full(19))
	for back := range api.MaxOld {
		same(t, "Return", d.Return(0, back+1), api.OK)
		holds(t, d, full(byte(18-back)))
	}
}

func TestCrash(t *testing.T) { // P3.2
	for _, x := range []struct {
		survive []int
		want    []string
	}{
		{nil, []string{full('z'), full('z'), full('z')}},
		{[]int{140, 140, 140, 140}, []string{full('d'), full('b'), full('c')}},
		{[]int{3}, []string{"aaa" + full('z')[3:], full('z'), full('z')}},
		{[]int{0, 1, 139}, []string{full('z'), "b" + full('z')[1:], full('c')[1:] + "z"}},
		{[]int{-1, 141, math.MinInt, math.MaxInt, 9}, []string{full('d'), full('b'), full('z')}},
		{[]int{70, 0, 0, 2, 140, 140}, []string{"dd" + full('a')[:68] + full('z')[70:], full('z'), full('z')}},
	} {
		d := newDevice(t, 4)
		for sector := range 3 {
			stable(t, d, sector, full('z'))
		}
		write(t, d, 2, 3, full('x'))
		write(t, d, 1, 0, full('a'))
		write(t, d, 1, 1, full('b'))
		write(t, d, 2, 0, full('x'))
		write(t, d, 1, 2, full('c'))
		write(t, d, 1, 0, full('d'))
		survive := slices.Clone(x.survive)
		d.Crash(1, x.survive...)
		pending(t, d, 0, 2, 0, 0)
		if !slices.Equal(survive, x.survive) {
			t.Errorf("%v was changed to %v", survive, x.survive)
		}
		holds(t, d, full('x'), x.want[1], x.want[2], full('x'))
		d.Crash(2)
		holds(t, d, append(slices.Clone(x.want), full(0))...)
		if d.Failed() {
			t.Errorf("%v: failed", x.survive)
		}
	}
}

func TestCrashOfNobody(t *testing.T) { // P3.2: a system without pending writes
	d := newDevice(t, 1)
	write(t, d, 1, 0, full('a'))
	for _, system := range []int{2, 0, -1, 5, math.MaxInt, math.MinInt} {
		d.Crash(system, 140, 140)
		pending(t, d, 1, 0, 0, 0)
	}
	holds(t, d, full('a'))
	olds(t, d, 0)
}

func TestExampleOfCrash(t *testing.T) { // the first example of the chapter
	d := newDevice(t, 1)
	holds(t, d, full(0))
	write(t, d, 1, 0, full('a'))
	holds(t, d, full('a'))
	pending(t, d, 1)
	d.Crash(1, 3)
	holds(t, d, "aaa"+full(0)[3:])
	olds(t, d, 1)
}

func TestEarlier(t *testing.T) { // Definitions: a stable content changes
	d := newDevice(t, 2)
	for i := range 12 {
		stable(t, d, 0, full(byte(i+1)))
		olds(t, d, min(i+1, api.MaxOld), 0)
		// The same content again is no change, whether all of it is written or a part.
		stable(t, d, 0, full(byte(i+1)))
		write(t, d, 1, 0, full(byte(i+1)))
		d.Crash(1, 50)
		write(t, d, 1, 0, full('x'))
		d.Crash(1, 0)
		olds(t, d, min(i+1, api.MaxOld), 0)
	}
	// The contents were 0 to 12, of which 4 to 11 are kept as earlier ones, the newest first.
	for _, back := range []int{9, 0, -1, math.MinInt, math.MaxInt} {
		same(t, "Return", d.Return(0, back), api.ErrRange)
	}
	holds(t, d, full(12))
	for _, back := range []int{8, 1, 3, 2, 5, 4, 7, 6} {
		same(t, "Return", d.Return(0, back), api.OK)
		holds(t, d, full(byte(12-back)), full(0))
		olds(t, d, 8, 0)
	}
	// The content that came back becomes an earlier one by the next change.
	stable(t, d, 0, full('n'))
	same(t, "Return", d.Return(0, 1), api.OK)
	holds(t, d, full(6))
	same(t, "Return", d.Return(0, 2), api.OK)
	holds(t, d, full(11))
}

func TestFence(t *testing.T) { // P3.3
	d := newDevice(t, 1)
	allowed := func(system, epoch int, want bool) {
		t.Helper()
		e := api.ErrFenced
		if want {
			e = api.OK
		}
		c := d.Clone()
		same(t, "Write", c.Write(by(system, epoch), 0, full('a')), e)
		same(t, "Sync", c.Sync(by(system, epoch)), e)
		if s, _ := c.Read(0); (s == full('a')) != want {
			t.Errorf("system %d, epoch %d: %q", system, epoch, s)
		}
	}
	allowed(1, 0, true)
	d.Fence(1, -1)
	d.Fence(1, math.MinInt)
	allowed(1, 0, true)
	d.Fence(1, 0)
	allowed(1, 0, false)
	allowed(1, 1, true)
	d.Fence(1, 5)
	d.Fence(1, 4)
	d.Fence(1, -3)
	allowed(1, 5, false)
	allowed(1, 6, true)
	for _, system := range []int{0, 5, -1, math.MaxInt, math.MinInt} {
		d.Fence(system, 9)
	}
	for system := 2; system <= api.MaxSystems; system++ {
		allowed(system, 0, true)
	}
	d.Fence(4, math.MaxInt)
	allowed(4, api.MaxNumber, false)
	allowed(3, 0, true)
	// The writes of a fenced writer stay pending until another epoch ends them.
	write(t, d, 2, 0, full('b'))
	d.Fence(2, 7)
	same(t, "Sync", d.Sync(by(2, 7)), api.ErrFenced)
	pending(t, d, 0, 1, 0, 0)
	same(t, "Sync", d.Sync(by(2, 8)), api.OK)
	holds(t, d, full('b'))
	pending(t, d, 0, 0, 0, 0)
}

func TestFailAfter(t *testing.T) { // P3.4: which call fails
	for _, n := range []int{math.MinInt, -1, 0, 1, 2, 3, 7} {
		d := newDevice(t, 2)
		d.Fence(3, 5)
		d.FailAfter(n)
		for i := range max(n, 0) {
			// Calls with an error are not counted, and neither are reads.
			same(t, "Write", d.Write(by(1, 0), 9, full('a')), api.ErrRange)
			same(t, "Write", d.Write(by(1, 0), 0, "a"), api.ErrArg)
			same(t, "Write", d.Write(by(3, 5), 0, full('a')), api.ErrFenced)
			same(t, "Sync", d.Sync(by(3, 5)), api.ErrFenced)
			same(t, "Sync", d.Sync(by(0, 5)), api.ErrArg)
			d.Read(0)
			if i%3 == 2 {
				same(t, "Sync", d.Sync(by(1, 0)), api.OK)
			} else {
				same(t, "Write", d.Write(by(i%3+1, 9), 1, full('a')), api.OK)
			}
		}
		if d.Failed() {
			t.Errorf("failed before the call %d", n)
		}
		c := d.Clone()
		same(t, "Write", d.Write(by(1, 0), 0, full('a')), api.ErrFailed)
		same(t, "Sync", c.Sync(by(1, 0)), api.ErrFailed)
		if !d.Failed() || !c.Failed() {
			t.Errorf("not failed in the call %d", n)
		}
		pending(t, d, 0, 0, 0, 0)
		pending(t, c, 0, 0, 0, 0)
	}
}

func TestFailure(t *testing.T) { // P3.4: what becomes of the pending writes, and of calls after the failure
	for _, sync := range []bool{false, true} {
		d := newDevice(t, 5)
		write(t, d, 1, 0, full('a'))
		write(t, d, 2, 1, full('b'))
		write(t, d, 1, 2, full('c'))
		survive := []int{140, 3, -2, 200}
		d.FailAfter(1, survive...)
		survive[0] = 0
		write(t, d, 3, 3, full('d'))
		if sync {
			same(t, "Sync", d.Sync(by(1, 0)), api.ErrFailed)
		} else {
			same(t, "Write", d.Write(by(1, 0), 4, full('e')), api.ErrFailed)
		}
		pending(t, d, 0, 0, 0, 0)
		olds(t, d, 1, 1, 0, 1, 0)
		if s, e := d.Read(0); s != "" || e != api.ErrFailed {
			t.Errorf("Read: %q, error %d", s, e)
		}
		if s, e := d.Read(5); s != "" || e != api.ErrRange {
			t.Errorf("Read: %q, error %d", s, e)
		}
		d.Crash(1, 140, 140, 140, 140)
		d.Repair()
		holds(t, d, full('a'), "bbb"+full(0)[3:], full(0), full('d'), full(0))
		if d.Failed() || d.Sectors() != 5 {
			t.Errorf("failed %v, %d sectors", d.Failed(), d.Sectors())
		}
		// The failure is over, and no other one is waited for.
		for range 9 {
			write(t, d, 1, 4, full('f'))
			same(t, "Sync", d.Sync(by(2, 0)), api.OK)
		}
	}
}

func TestFailAfterAgain(t *testing.T) { // P3.4: a further FailAfter, and Repair
	d := newDevice(t, 1)
	d.FailAfter(0, 140)
	d.FailAfter(2, 1)
	write(t, d, 1, 0, full('a'))
	d.FailAfter(1, 2)
	write(t, d, 1, 0, full('b'))
	same(t, "Sync", d.Sync(by(1, 0)), api.ErrFailed)
	d.FailAfter(5)
	d.FailAfter(0)
	same(t, "Sync", d.Sync(by(1, 0)), api.ErrFailed)
	d.Repair()
	holds(t, d, "aa"+full(0)[2:])
	// What was said while the device had failed does nothing afterwards.
	for range 7 {
		same(t, "Sync", d.Sync(by(1, 0)), api.OK)
	}
	d.FailAfter(0)
	d.Repair()
	if d.Failed() {
		t.Error("failed")
	}
	for range 7 {
		same(t, "Sync", d.Sync(by(1, 0)), api.OK)
	}
}

func TestDamage(t *testing.T) { // P3.5, errors of Damage
	d := newDevice(t, 2)
	stable(t, d, 1, full('a'))
	for _, x := range []struct {
		sector, at int
		mask       byte
		want       api.Errno
	}{
		{-1, 0, 1, api.ErrRange}, {2, 0, 1, api.ErrRange}, {1, -1, 1, api.ErrRange}, {1, 140, 1, api.ErrRange}, {2, 0, 0, api.ErrRange}, {1, 140, 0, api.ErrRange}, {math.MaxInt, math.MinInt, 0, api.ErrRange},
		{1, 0, 0, api.ErrArg}, {1, 139, 0, api.ErrArg},
	} {
		same(t, "Damage", d.Damage(x.sector, x.at, x.mask), x.want)
	}
	holds(t, d, full(0), full('a'))
	write(t, d, 1, 1, full('p'))
	same(t, "Damage", d.Damage(1, 0, 3), api.OK)
	same(t, "Damage", d.Damage(1, 139, 255), api.OK)
	same(t, "Damage", d.Damage(1, 70, 128), api.OK)
	same(t, "Damage", d.Damage(1, 70, 128), api.OK)
	holds(t, d, full(0), full('p'))
	d.Crash(1)
	holds(t, d, full(0), "b"+full('a')[:138]+string([]byte{'a' ^ 255}))
	olds(t, d, 0, 1)
	// A failed device can be damaged, too, and its sectors can come back.
	d.FailAfter(0)
	d.Sync(by(1, 0))
	same(t, "Damage", d.Damage(0, 5, 1), api.OK)
	same(t, "Return", d.Return(1, 1), api.OK)
	same(t, "Return", d.Return(0, 1), api.ErrRange)
	d.Repair()
	holds(t, d, "\x00\x00\x00\x00\x00\x01"+full(0)[6:], full(0))
	olds(t, d, 0, 1)
}

func TestReturn(t *testing.T) { // P3.5, errors of Return
	d := newDevice(t, 2)
	stable(t, d, 1, full('a'))
	stable(t, d, 1, full('b'))
	for _, sector := range []int{-1, 2, math.MinInt, math.MaxInt, 0} {
		same(t, "Return", d.Return(sector, 1), api.ErrRange)
	}
	for _, back := range []int{0, 3, -1} {
		same(t, "Return", d.Return(1, back), api.ErrRange)
	}
	write(t, d, 1, 1, full('p'))
	same(t, "Return", d.Return(1, 2), api.OK)
	holds(t, d, full(0), full('p'))
	d.Crash(1, 2)
	holds(t, d, full(0), "pp"+full(0)[2:])
	olds(t, d, 0, 3)
	// The earlier contents are zeros (twice) and a; b was not kept.
	for back, want := range []string{full(0), full('a'), full(0)} {
		same(t, "Return", d.Return(1, back+1), api.OK)
		holds(t, d, full(0), want)
	}
}

func TestClone(t *testing.T) { // P3.5
	d := newDevice(t, 3)
	stable(t, d, 0, full('a'))
	write(t, d, 1, 1, full('b'))
	write(t, d, 2, 2, full('c'))
	d.Fence(3, 4)
	d.FailAfter(2, 1, 2, 3)
	c := d.Clone()
	// What happens to one of them does not happen to the other one.
	d.Damage(0, 0, 1)
	d.Repair()
	d.Sync(by(1, 0))
	d.Fence(4, 9)
	stable := func(x *device.Device, sector int, b byte) {
		t.Helper()
		same(t, "Write", x.Write(by(1, 0), sector, full(b)), api.OK)
	}
	stable(d, 0, 'x')
	holds(t, c, full('a'), full('b'), full('c'))
	pending(t, c, 1, 1, 0, 0)
	olds(t, c, 1, 0, 0)
	same(t, "Write", c.Write(by(3, 4), 0, full('z')), api.ErrFenced)
	same(t, "Sync", c.Sync(by(4, 9)), api.OK)
	stable(c, 0, 'y')
	same(t, "Sync", c.Sync(by(1, 0)), api.ErrFailed)
	f := c.Clone()
	c.Repair()
	holds(t, c, "yyy"+full('a')[3:], "b"+full(0)[1:], "cc"+full(0)[2:])
	holds(t, d, full('x'), full('b'), full('c'))
	pending(t, d, 1, 1, 0, 0)
	if d.Failed() || c.Failed() || !f.Failed() || f.Sectors() != 3 {
		t.Errorf("failed %v, %v, %v", d.Failed(), c.Failed(), f.Failed())
	}
	f.Repair()
	same(t, "Return", f.Return(0, 1), api.OK)
	same(t, "Return", f.Return(0, 2), api.OK)
	holds(t, f, full(0), "b"+full(0)[1:], "cc"+full(0)[2:])
	holds(t, c, "yyy"+full('a')[3:])
}

// model is a device as the chapter defines it, for the systems 1 and 2.
type model struct {
	stable  []string
	earlier [][]string
	pending []modelWrite
}

type modelWrite struct {
	system, sector int
	data           string
}

// end ends the pending writes of the systems with given numbers of bytes.
func (m *model) end(systems []int, survive func(i int) int) {
	var left []modelWrite
	i := 0
	for _, w := range m.pending {
		if !slices.Contains(systems, w.system) {
			left = append(left, w)
			continue
		}
		n := min(max(survive(i), 0), api.RawSize)
		i++
		content := w.data[:n] + m.stable[w.sector][n:]
		if content != m.stable[w.sector] {
			list := append([]string{m.stable[w.sector]}, m.earlier[w.sector]...)
			m.earlier[w.sector] = list[:min(len(list), api.MaxOld)]
			m.stable[w.sector] = content
		}
	}
	m.pending = left
}

// read returns the content of a sector.
func (m *model) read(sector int) string {
	content := m.stable[sector]
	for _, w := range m.pending {
		if w.sector == sector {
			content = w.data
		}
	}
	return content
}

// check compares a device with a model of it.
func (m *model) check(t *testing.T, d *device.Device) {
	t.Helper()
	for sector := range m.stable {
		if s, e := d.Read(sector); s != m.read(sector) || e != api.OK || d.Old(sector) != len(m.earlier[sector]) {
			t.Fatalf("sector %d: %q, error %d, %d earlier contents", sector, s, e, d.Old(sector))
		}
	}
	for system := 1; system <= 2; system++ {
		n := 0
		for _, w := range m.pending {
			if w.system == system {
				n++
			}
		}
		pending := d.Pending(system)
		if pending != n {
			t.Fatalf("system %d: %d pending writes, not %d", system, pending, n)
		}
	}
}

// act does something at random to a device and to its model.
func (m *model) act(t *testing.T, random *rand.Rand, d *device.Device) {
	t.Helper()
	system, sector := 1+random.Intn(2), random.Intn(len(m.stable))
	survive := []int{random.Intn(150) - 5, random.Intn(150) - 5, 140}
	bytes := func(i int) int {
		if i < len(survive) {
			return survive[i]
		}
		return 0
	}
	switch random.Intn(12) {
	case 0:
		same(t, "Sync", d.Sync(by(system, 0)), api.OK)
		m.end([]int{system}, func(int) int { return api.RawSize })
	case 1:
		d.Crash(system, survive...)
		m.end([]int{system}, bytes)
	case 2:
		d.FailAfter(0, survive...)
		same(t, "Write", d.Write(by(system, 0), sector, full('f')), api.ErrFailed)
		m.end([]int{1, 2}, bytes)
		d.Repair()
	case 3:
		same(t, "Damage", d.Damage(sector, 9, 1), api.OK)
		content := []byte(m.stable[sector])
		content[9] ^= 1
		m.stable[sector] = string(content)
	case 4:
		back := 1 + random.Intn(api.MaxOld)
		want := api.ErrRange
		if back <= len(m.earlier[sector]) {
			want = api.OK
			m.stable[sector] = m.earlier[sector][back-1]
		}
		same(t, "Return", d.Return(sector, back), want)
	default:
		data := full(byte('a' + random.Intn(4)))
		same(t, "Write", d.Write(by(system, random.Intn(9)), sector, data), api.OK)
		m.pending = append(m.pending, modelWrite{system, sector, data})
	}
}

func TestModel(t *testing.T) { // P3.1 to P3.6
	random := rand.New(rand.NewSource(6))
	for range 200 {
		d := newDevice(t, 3)
		m := &model{stable: []string{full(0), full(0), full(0)}, earlier: make([][]string, 3)}
		for range 100 {
			before := d.Clone()
			kept := model{stable: slices.Clone(m.stable), earlier: slices.Clone(m.earlier), pending: slices.Clone(m.pending)}
			m.act(t, random, d)
			m.check(t, d)
			kept.check(t, before)
		}
	}
}

func TestFencedChangesNothing(t *testing.T) { // P3.6
	random := rand.New(rand.NewSource(7))
	d := newDevice(t, 3)
	d.Fence(3, 4)
	m := &model{stable: []string{full(0), full(0), full(0)}, earlier: make([][]string, 3)}
	for range 1000 {
		m.act(t, random, d)
		same(t, "Write", d.Write(by(3, random.Intn(5)), random.Intn(3), full('n')), api.ErrFenced)
		same(t, "Sync", d.Sync(by(3, random.Intn(5))), api.ErrFenced)
		m.check(t, d)
		pending(t, d.Clone(), d.Pending(1), d.Pending(2), 0, 0)
	}
}
