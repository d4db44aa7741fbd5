package volume_test

import (
	"math"
	"slices"
	"strings"
	"testing"

	"dasd/api"
	"dasd/contents"
	"dasd/device"
	"dasd/volume"
)

// call calls a function of a volume, and returns whether its other result is zero, and its error.
type call func(v *volume.Volume) (bool, api.Errno)

// plain returns a call of a function whose only result is an error.
func plain(f func(v *volume.Volume) api.Errno) call {
	return func(v *volume.Volume) (bool, api.Errno) { return true, f(v) }
}

// calls returns a call of each function that reads the table first.
func calls(r api.Ref, writes ...api.SectorWrite) map[string]call {
	return map[string]call{
		"Table": func(v *volume.Volume) (bool, api.Errno) {
			t, e := v.Table()
			return contents.Same(t, api.Table{}), e
		},
		"Label": func(v *volume.Volume) (bool, api.Errno) {
			l, e := v.Label(r)
			return l.Id == 0 && l.Unit == 0 && l.Name == "" && l.Note == "" && len(l.Extents) == 0, e
		},
		"Sectors": func(v *volume.Volume) (bool, api.Errno) {
			n, e := v.Sectors(r)
			return n == 0, e
		},
		"Read": func(v *volume.Volume) (bool, api.Errno) {
			s, e := v.Read(r, 0)
			return s == "", e
		},
		"Page": func(v *volume.Volume) (bool, api.Errno) {
			s, e := v.Pages(r, 2).Page(0)
			return s == "", e
		},
		"Consolidate": func(v *volume.Volume) (bool, api.Errno) {
			ok, e := v.Consolidate(r)
			return !ok, e
		},
		"Write":   plain(func(v *volume.Volume) api.Errno { return v.Write(r, writes...) }),
		"Create":  plain(func(v *volume.Volume) api.Errno { return v.Create(api.Ref{Id: r.Id, Unit: -1}, "A", "", 1, writes...) }),
		"Extend":  plain(func(v *volume.Volume) api.Errno { return v.Extend(r, 1) }),
		"Release": plain(func(v *volume.Volume) api.Errno { return v.Release(r, 1) }),
		"Confirm": plain(func(v *volume.Volume) api.Errno { return v.Confirm(r, "B", writes...) }),
		"Note":    plain(func(v *volume.Volume) api.Errno { return v.Note(r, "C", writes...) }),
		"Remove":  plain(func(v *volume.Volume) api.Errno { return v.Remove(r) }),
	}
}

// fails checks that a call returns an error with a zero result, and that it changes nothing on the device.
func fails(t *testing.T, what string, d *device.Device, v *volume.Volume, f call, want api.Errno) {
	t.Helper()
	before := d.Clone()
	if zero, e := f(v); !zero || e != want {
		t.Errorf("%s: zero %v, error %d, not %d", what, zero, e, want)
	}
	d.Repair()
	before.Repair()
	if !slices.Equal(image(t, d), image(t, before)) {
		t.Errorf("%s: the device has changed", what)
	}
}

func TestTableErrors(t *testing.T) { // Errors: an error of reading the table comes first
	for sector := range 40 {
		d, v := newExample(t)
		damage(t, d, sector)
		for name, f := range calls(ref(7, 4), w(0, 'x')) {
			fails(t, name, d, v, f, api.ErrCorrupt)
		}
		for name, f := range calls(ref(5, 5), api.SectorWrite{Sector: 99}) {
			fails(t, name, d, v, f, api.ErrCorrupt)
		}
	}
	d, v := newExample(t)
	age(t, d, 8)
	for name, f := range calls(ref(5, 5), api.SectorWrite{Sector: 99}) {
		fails(t, name, d, v, f, api.ErrStale)
	}
	d, v = newExample(t)
	plant(t, d, slices.Repeat([]string{full('x')}, 40))
	for name, f := range calls(ref(5, 5), api.SectorWrite{Sector: 99}) {
		fails(t, name, d, v, f, api.ErrCorrupt)
	}
}

// left returns a volume with a list of writes that system 2 has not finished: the sector 0 of the label 7.
func left(t *testing.T) (*device.Device, *volume.Volume) {
	t.Helper()
	d, v := newExample(t)
	// 3 entries, a sync, the head and a sync make the list certain.
	d.FailAfter(6)
	same(t, "a failing write", mount(t, d, 2).Write(trueRef(7), w(0, 'l')), api.ErrFailed)
	d.Repair()
	return d, v
}

func TestLeft(t *testing.T) { // Errors: those of the store end a function, even where it only reads
	names := calls(trueRef(7))
	names["Bad"] = func(v *volume.Volume) (bool, api.Errno) {
		l, e := v.Bad()
		return len(l) == 0, e
	}
	for name, f := range names {
		d, v := left(t)
		d.FailAfter(0)
		fails(t, name+" on a device that fails", d, v, f, api.ErrFailed)
		d.Fence(1, 7)
		fails(t, name+" by a fenced writer", d, v, f, api.ErrFenced)
		reads(t, mount(t, d, 3), trueRef(7), 0, full('l'), api.OK)
		reads(t, v, trueRef(7), 0, full('l'), api.OK)
		d, v = left(t)
		f(v)
		if s, e := d.Read(headAt); s != strings.Repeat("\x00", api.RawSize) || e != api.OK {
			t.Errorf("%s does not finish the list: %q, error %d", name, s, e)
		}
		d.FailAfter(0)
		d.Sync(by(1))
		for range 2 {
			if zero, e := f(v); !zero || e != api.ErrFailed {
				t.Errorf("%s on a failed device: zero %v, error %d", name, zero, e)
			}
		}
	}
}

func TestNotFound(t *testing.T) { // Errors: ErrNotFound comes before those of other arguments
	d, v := newExample(t)
	for _, r := range wrongRefs() {
		for name, f := range calls(r, api.SectorWrite{Sector: 99, Data: "x"}) {
			switch name {
			case "Table":
			case "Create":
				fails(t, name, d, v, f, api.ErrArg)
			default:
				fails(t, name, d, v, f, api.ErrNotFound)
			}
		}
		fails(t, "Extend", d, v, plain(func(v *volume.Volume) api.Errno { return v.Extend(r, 0) }), api.ErrNotFound)
		fails(t, "Release", d, v, plain(func(v *volume.Volume) api.Errno { return v.Release(r, 0) }), api.ErrNotFound)
		fails(t, "Write", d, v, plain(func(v *volume.Volume) api.Errno { return v.Write(r) }), api.ErrNotFound)
	}
}

func TestWrite(t *testing.T) { // P9.3
	d, v := newExample(t)
	write := func(r api.Ref, writes ...api.SectorWrite) func() {
		return func() {
			given := slices.Clone(writes)
			same(t, "Write", v.Write(r, writes...), api.OK)
			if !slices.Equal(writes, given) {
				t.Errorf("the writes have become %v", writes)
			}
		}
	}
	changes(t, "one", d, 1, map[int]string{80: full('a')}, write(trueRef(7), w(0, 'a')))
	changes(t, "several", d, 1, map[int]string{47: full('a'), 81: full('b'), 95: full('c'), 40: full('d')}, write(trueRef(7), w(23, 'a'), w(1, 'b'), w(15, 'c'), w(16, 'd')))
	changes(t, "another label", d, 1, map[int]string{151: full('a'), 48: full('b')}, write(ref(7, 4), w(23, 'a'), w(0, 'b')))
	changes(t, "the same contents", d, 1, nil, write(ref(7, 4), w(0, 'b')))
	changes(t, "no writes", d, 0, nil, write(ref(3, 9)))
	for i, want := range map[int]string{0: full('a'), 1: full('b'), 2: content(82), 15: full('c'), 16: full('d'), 17: content(41), 23: full('a')} {
		reads(t, v, trueRef(7), i, want, api.OK)
	}
	has(t, "after writes", d, v, example())
	// What cannot be read can be written.
	damage(t, d, 152)
	reads(t, v, ref(3, 9), 0, "", api.ErrCorrupt)
	changes(t, "a damaged sector", d, 1, map[int]string{152: full('e')}, write(ref(3, 9), w(0, 'e')))
}

// writers returns calls that write sectors of the label {7, 4} of the example, or of a new label {5, 5} of 3 tracks.
func writers(writes ...api.SectorWrite) map[string]call {
	return map[string]call{
		"Write":   plain(func(v *volume.Volume) api.Errno { return v.Write(ref(7, 4), writes...) }),
		"Create":  plain(func(v *volume.Volume) api.Errno { return v.Create(ref(5, 5), "A", "", 3, writes...) }),
		"Confirm": plain(func(v *volume.Volume) api.Errno { return v.Confirm(ref(7, 4), "B", writes...) }),
		"Note":    plain(func(v *volume.Volume) api.Errno { return v.Note(ref(7, 4), "C", writes...) }),
	}
}

func TestRight(t *testing.T) { // Definitions: which writes are right
	d, v := newExample(t)
	x := func(sector int, size int) api.SectorWrite {
		return api.SectorWrite{Sector: sector, Data: strings.Repeat("x", size)}
	}
	many := make([]api.SectorWrite, 65)
	for i := range many {
		many[i] = w(i, 'm')
	}
	for _, c := range []struct {
		what   string
		writes []api.SectorWrite
		want   api.Errno
	}{
		{"no content", []api.SectorWrite{x(0, 0)}, api.ErrArg},
		{"too short", []api.SectorWrite{x(0, 128), x(1, 127)}, api.ErrArg},
		{"too long", []api.SectorWrite{x(0, 129)}, api.ErrArg},
		{"twice", []api.SectorWrite{x(3, 128), x(1, 128), x(3, 128)}, api.ErrArg},
		{"twice with other contents", []api.SectorWrite{w(3, 'a'), w(3, 'b')}, api.ErrArg},
		{"the first one behind the label", []api.SectorWrite{x(23, 128), x(24, 128)}, api.ErrRange},
		{"a sector of the volume", []api.SectorWrite{x(40, 128)}, api.ErrRange},
		{"the last one", []api.SectorWrite{x(math.MaxInt, 128)}, api.ErrRange},
		{"a negative one", []api.SectorWrite{x(-1, 128)}, api.ErrRange},
		{"the least one", []api.SectorWrite{x(math.MinInt, 128)}, api.ErrRange},
		{"behind the label, and too short", []api.SectorWrite{x(24, 128), x(0, 1)}, api.ErrArg},
		{"behind the label, and twice", []api.SectorWrite{x(24, 128), x(0, 128), x(0, 128)}, api.ErrArg},
		{"twice behind the label", []api.SectorWrite{x(-3, 128), x(-3, 128)}, api.ErrArg},
		{"twice, and others between them behind the label", []api.SectorWrite{x(3, 128), x(99, 128), x(1, 128), x(3, 128)}, api.ErrArg},
		{"too many, and behind the label", many, api.ErrRange},
		{"too many, and twice", append(slices.Clone(many), w(64, 'n')), api.ErrArg},
	} {
		for name, f := range writers(c.writes...) {
			fails(t, name+", "+c.what, d, v, f, c.want)
		}
	}
	for name, f := range writers(w(23, 'x'), w(0, 'y')) {
		c := d.Clone()
		if _, e := f(mount(t, c, 1)); e != api.OK {
			t.Errorf("%s: error %d", name, e)
		}
	}
	// The error of layer 8 comes before those of the writes.
	wrong := x(99, 1)
	for what, x := range map[string]struct{ have, want api.Errno }{
		"Create, a zero unit":   {v.Create(trueRef(5), "A", "", 1, wrong), api.ErrArg},
		"Create, another label": {v.Create(ref(7, 5), "A", "", 1, wrong), api.ErrExists},
		"Create, no space":      {v.Create(ref(5, 5), "A", "", 8, wrong), api.ErrSpace},
		"Confirm, true":         {v.Confirm(trueRef(7), "A", wrong), api.ErrState},
		"Confirm, note":         {v.Confirm(ref(7, 4), strings.Repeat("x", 401), w(99, 'x')), api.ErrArg},
		"Note, note":            {v.Note(ref(7, 4), strings.Repeat("x", 401), w(99, 'x')), api.ErrArg},
	} {
		same(t, what, x.have, x.want)
	}
}

func TestTooLarge(t *testing.T) { // Definitions: ErrTooLarge, if the list has more than MaxCommit writes
	d, v := newVolume(t, 40)
	// 17 tracks with 136 sectors
	same(t, "Create", v.Create(ref(1, 1), "A", "", 17), api.OK)
	many := func(n int) []api.SectorWrite {
		l := make([]api.SectorWrite, n)
		for i := range l {
			l[i] = w(2*i%135, byte(i))
		}
		return l
	}
	refuses(t, "Write of 65", d, api.ErrTooLarge, func() api.Errno { return v.Write(ref(1, 1), many(65)...) })
	refuses(t, "Write of 130", d, api.ErrTooLarge, func() api.Errno { return v.Write(ref(1, 1), many(130)...) })
	want := map[int]string{}
	for i, x := range many(64) {
		want[10*8+2*i] = x.Data
	}
	changes(t, "Write of 64", d, 1, want, func() { same(t, "Write of 64", v.Write(ref(1, 1), many(64)...), api.OK) })
	// A short note is in the first sector of the slot, and one with 200 bytes in the first two ones.
	refuses(t, "Note, 1 and 64", d, api.ErrTooLarge, func() api.Errno { return v.Note(ref(1, 1), "n", many(64)...) })
	refuses(t, "Note, 2 and 63", d, api.ErrTooLarge, func() api.Errno { return v.Note(ref(1, 1), strings.Repeat("n", 200), many(63)...) })
	same(t, "Note, 1 and 63", v.Note(ref(1, 1), "n", many(63)...), api.OK)
	same(t, "Note, 0 and 64", v.Note(ref(1, 1), "n", many(64)...), api.OK)
	same(t, "Note, 2 and 62", v.Note(ref(1, 1), strings.Repeat("n", 200), many(62)...), api.OK)
	refuses(t, "Confirm, 2 and 63", d, api.ErrTooLarge, func() api.Errno { return v.Confirm(ref(1, 1), "c", many(63)...) })
	same(t, "Confirm, 2 and 62", v.Confirm(ref(1, 1), "c", many(62)...), api.OK)
	refuses(t, "Create, 1 and 64", d, api.ErrTooLarge, func() api.Errno { return v.Create(ref(2, 2), "A", "", 8, slicesOf(64)...) })
	same(t, "Create, 1 and 63", v.Create(ref(2, 2), "A", "", 8, slicesOf(63)...), api.OK)
	refuses(t, "Write, no room", d, api.ErrTooLarge, func() api.Errno { return v.Write(trueRef(1), many(65)...) })
	// That a sector of the map cannot be read comes behind that.
	same(t, "damage of the map", d.Damage(1+4, 0, 1), api.OK)
	same(t, "Write of 65", v.Write(trueRef(1), many(65)...), api.ErrTooLarge)
	same(t, "Write of 64", v.Write(trueRef(1), many(64)...), api.ErrCorrupt)
	same(t, "Write of 1", v.Write(trueRef(1), many(1)...), api.OK)
}

// slicesOf returns writes of the first n sectors of a label.
func slicesOf(n int) []api.SectorWrite {
	l := make([]api.SectorWrite, n)
	for i := range l {
		l[i] = w(i, byte(i))
	}
	return l
}

// change is a change of a volume, with the function of layer 8, and the label to which its writes belong.
type change struct {
	what    string
	on      func(v *volume.Volume, writes ...api.SectorWrite) api.Errno
	of      func(t api.Table) (api.Table, api.Errno)
	owner   api.Ref
	writing bool
}

// created returns the change of Create.
func created(r api.Ref, name, note string, tracks int) change {
	return change{
		"Create", func(v *volume.Volume, writes ...api.SectorWrite) api.Errno {
			return v.Create(r, name, note, tracks, writes...)
		},
		func(t api.Table) (api.Table, api.Errno) { return contents.Create(t, r, name, note, tracks) }, r, true,
	}
}

// confirmed returns the change of Confirm.
func confirmed(r api.Ref, note string) change {
	return change{
		"Confirm", func(v *volume.Volume, writes ...api.SectorWrite) api.Errno { return v.Confirm(r, note, writes...) },
		func(t api.Table) (api.Table, api.Errno) { return contents.Confirm(t, r, note) }, trueRef(r.Id), true,
	}
}

// noted returns the change of Note.
func noted(r api.Ref, note string) change {
	return change{
		"Note", func(v *volume.Volume, writes ...api.SectorWrite) api.Errno { return v.Note(r, note, writes...) },
		func(t api.Table) (api.Table, api.Errno) { return contents.Note(t, r, note) }, r, true,
	}
}

// extended returns the change of Extend.
func extended(r api.Ref, tracks int) change {
	return change{
		"Extend", func(v *volume.Volume, _ ...api.SectorWrite) api.Errno { return v.Extend(r, tracks) },
		func(t api.Table) (api.Table, api.Errno) { return contents.Extend(t, r, tracks) }, r, false,
	}
}

// released returns the change of Release.
func released(r api.Ref, keep int) change {
	return change{
		"Release", func(v *volume.Volume, _ ...api.SectorWrite) api.Errno { return v.Release(r, keep) },
		func(t api.Table) (api.Table, api.Errno) { return contents.Release(t, r, keep) }, r, false,
	}
}

// removed returns the change of Remove.
func removed(r api.Ref) change {
	return change{
		"Remove", func(v *volume.Volume, _ ...api.SectorWrite) api.Errno { return v.Remove(r) },
		func(t api.Table) (api.Table, api.Errno) { return contents.Remove(t, r) }, r, false,
	}
}

// exampleChanges returns changes of the example with right and wrong arguments.
func exampleChanges() []change {
	var l []change
	for _, r := range append(wrongRefs(), exampleRefs()...) {
		for _, n := range []int{math.MinInt, -1, 0, 1, 2, 3, 4, 5, 7, 8, math.MaxInt} {
			l = append(l, extended(r, n), released(r, n), created(r, "NAME", "note", n))
		}
		for _, note := range []string{"", "old", "new", "another", strings.Repeat("n", 400), strings.Repeat("n", 401)} {
			l = append(l, confirmed(r, note), noted(r, note), created(r, "NAME", note, 1))
		}
		l = append(l, removed(r))
	}
	for _, n := range []int{-1, 0, 1, 2, 5, 6, 7, 8} {
		l = append(l, created(ref(5, 5), "NEW", "note", n), created(ref(api.MaxNumber, api.MaxNumber), strings.Repeat("N", 31), strings.Repeat("n", 400), n))
	}
	return append(l, created(ref(5, 5), strings.Repeat("N", 32), "", 1), created(ref(api.MaxNumber+1, 1), "", "", 1), created(ref(1, api.MaxNumber+1), "", "", 1))
}

func TestChanges(t *testing.T) { // P9.3: the changes of layer 8 in one list, with the writes to the label
	example0, _ := newExample(t)
	done := map[string]int{}
	for _, c := range exampleChanges() {
		var given []api.SectorWrite
		if c.writing {
			given = []api.SectorWrite{w(7, 'b'), w(0, 'a')}
		}
		after, code := c.of(example())
		d := example0.Clone()
		v := mount(t, d, 2)
		if code != api.OK {
			refuses(t, c.what, d, code, func() api.Errno { return c.on(v, given...) })
			continue
		}
		want, count := map[int]string{}, 0
		for _, x := range contents.Changes(example(), after) {
			want[x.Sector] = x.Data
		}
		owner, _ := contents.Find(after, c.owner)
		for _, x := range given {
			n, ok := contents.Sector(owner, x.Sector)
			if !ok {
				t.Fatalf("%s: %v has no sector %d", c.what, owner, x.Sector)
			}
			want[n] = x.Data
		}
		if len(want) > 0 {
			count = 1
		}
		changes(t, c.what, d, count, want, func() { same(t, c.what, c.on(v, given...), api.OK) })
		has(t, c.what, d, v, after)
		done[c.what]++
	}
	for what, n := range map[string]int{"Create": 8, "Confirm": 10, "Note": 15, "Extend": 10, "Release": 6, "Remove": 3} {
		if done[what] < n {
			t.Errorf("only %d of %s", done[what], what)
		}
	}
}

func TestExample(t *testing.T) { // Examples
	d, v := newVolume(t, 16)
	r := ref(5, 2)
	want := map[int]string{32: full('x'), 8: filled("\x05\x02\x01A\x00\x01\x04\x01")}
	changes(t, "Create", d, 1, want, func() { same(t, "Create", v.Create(r, "A", "", 1, w(0, 'x')), api.OK) })
	if n, e := v.Sectors(r); n != 8 || e != api.OK {
		t.Errorf("%d sectors, error %d", n, e)
	}
}

func TestConfirm(t *testing.T) { // P9.3: the writes belong to the label that is confirmed, not to the former true one
	d, v := newExample(t)
	want := map[int]string{48: full('a'), 151: full('b'), 8: full(0), 24: filled("\x07\x00\x05SEVEN\x01n\x02\x06\x02\x12\x01")}
	changes(t, "Confirm", d, 1, want, func() {
		same(t, "Confirm", v.Confirm(ref(7, 4), "n", w(0, 'a'), w(23, 'b')), api.OK)
	})
	reads(t, v, trueRef(7), 0, full('a'), api.OK)
	reads(t, v, trueRef(7), 1, content(49), api.OK)
	reads(t, v, trueRef(7), 23, full('b'), api.OK)
	reads(t, v, ref(7, 4), 0, "", api.ErrNotFound)
	// A label without a former one may be longer than any other.
	want = map[int]string{103: full('c'), 32: filled("\x03\x00\x05THREE\x00\x02\x13\x01\x0c\x01")}
	changes(t, "Confirm", d, 1, want, func() { same(t, "Confirm", v.Confirm(ref(3, 9), "", w(15, 'c')), api.OK) })
}

func TestOldContents(t *testing.T) { // P9.3: the sectors of a new label have the contents that they had before
	_, v := newExample(t)
	same(t, "Remove", v.Remove(trueRef(7)), api.OK)
	same(t, "Create", v.Create(ref(5, 5), "A", "", 1, w(3, 'x')), api.OK)
	for i := range 8 {
		want := content(40 + i)
		if i == 3 {
			want = full('x')
		}
		reads(t, v, ref(5, 5), i, want, api.OK)
	}
	same(t, "Extend", v.Extend(ref(3, 9), 1), api.OK)
	reads(t, v, ref(3, 9), 15, content(103), api.OK)
	reads(t, v, ref(3, 9), 16, content(104), api.OK)
	same(t, "Write", v.Write(ref(3, 9), w(16, 'y')), api.OK)
	same(t, "Release", v.Release(ref(3, 9), 2), api.OK)
	reads(t, v, ref(3, 9), 16, "", api.ErrRange)
	same(t, "Extend", v.Extend(ref(3, 9), 1), api.OK)
	reads(t, v, ref(3, 9), 16, full('y'), api.OK)
}

func TestNothing(t *testing.T) { // Definitions: nothing is written if the list is empty
	d, v := newExample(t)
	d.Fence(1, 7)
	for what, f := range map[string]func() api.Errno{
		"Write":       func() api.Errno { return v.Write(trueRef(7)) },
		"Note":        func() api.Errno { return v.Note(trueRef(7), "old") },
		"Release":     func() api.Errno { return v.Release(trueRef(7), 3) },
		"another one": func() api.Errno { return v.Note(ref(3, 9), "") },
	} {
		refuses(t, what+" without a change", d, api.OK, f)
	}
	for name, f := range map[string]func() api.Errno{
		"Write":   func() api.Errno { return v.Write(trueRef(7), w(0, 'x')) },
		"Create":  func() api.Errno { return v.Create(ref(5, 5), "", "", 1) },
		"Extend":  func() api.Errno { return v.Extend(trueRef(7), 1) },
		"Release": func() api.Errno { return v.Release(trueRef(7), 1) },
		"Confirm": func() api.Errno { return v.Confirm(ref(7, 4), "") },
		"Note":    func() api.Errno { return v.Note(trueRef(7), "new") },
		"Remove":  func() api.Errno { return v.Remove(trueRef(7)) },
	} {
		fails(t, name+" by a fenced writer", d, v, plain(func(*volume.Volume) api.Errno { return f() }), api.ErrFenced)
	}
	has(t, "fenced", d, v, example())
}
