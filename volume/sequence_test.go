package volume_test

import (
	"math/rand"
	"slices"
	"strings"
	"testing"

	"dasd/api"
	"dasd/contents"
	"dasd/device"
	"dasd/space"
	"dasd/volume"
)

// model is what a volume has: its table, and the contents of all data sectors.
type model struct {
	table api.Table
	disk  []string
}

// after returns the model after a change, with writes to the label that r names in the new table.
func (m model) after(x api.Table, r api.Ref, writes []api.SectorWrite) model {
	y := model{table: x, disk: slices.Clone(m.disk)}
	copy(y.disk, contents.Sectors(x))
	l, _ := contents.Find(x, r)
	for _, w := range writes {
		n, _ := contents.Sector(l, w.Sector)
		y.disk[n] = w.Data
	}
	return y
}

// moved returns the model after Consolidate of a label, and whether it moves.
func (m model) moved(r api.Ref) (model, bool) {
	l, _ := contents.Find(m.table, r)
	run, ok := space.Consolidate(l.Extents, contents.Free(m.table))
	if !ok {
		return m, false
	}
	var writes []api.SectorWrite
	for i := range 8 * run.Count {
		n, _ := contents.Sector(l, i)
		writes = append(writes, api.SectorWrite{Sector: i, Data: m.disk[n]})
	}
	x, _ := contents.Replace(m.table, r, run)
	return m.after(x, r, writes), true
}

// scattered returns the reference of a label that Consolidate would move, or of any other one.
func (m model) scattered(random *rand.Rand) api.Ref {
	for _, r := range contents.Refs(m.table) {
		if _, ok := m.moved(r); ok && random.Intn(2) == 0 {
			return r
		}
	}
	return randomRef(random, m.table)
}

// randomWrites returns right writes of sectors of a label, or none.
func randomWrites(random *rand.Rand, l api.Label) []api.SectorWrite {
	n := 0
	for _, r := range l.Extents {
		n += 8 * r.Count
	}
	var writes []api.SectorWrite
	for _, sector := range random.Perm(n)[:random.Intn(min(n, 20)+1)] {
		data := make([]byte, api.SectorSize)
		random.Read(data)
		writes = append(writes, api.SectorWrite{Sector: sector, Data: string(data)})
	}
	return writes
}

// randomRef returns the reference of a label, or of none.
func randomRef(random *rand.Rand, x api.Table) api.Ref {
	refs := contents.Refs(x)
	if len(refs) == 0 || random.Intn(8) == 0 {
		return ref(1+random.Intn(8), random.Intn(3))
	}
	return refs[random.Intn(len(refs))]
}

// randomChange returns a change of a table that is often possible; Write is one that changes nothing.
func randomChange(random *rand.Rand, x api.Table) change {
	r := randomRef(random, x)
	note := strings.Repeat("n", random.Intn(401)>>random.Intn(9))
	switch random.Intn(8) {
	case 0:
		return removed(r)
	case 1:
		return extended(r, 1+random.Intn(4))
	case 2:
		return released(r, 1+random.Intn(4))
	case 3:
		return confirmed(r, note)
	case 4:
		return noted(r, note)
	case 5, 6:
		return created(ref(1+random.Intn(8), 1+random.Intn(2)), "NAME", note, 1+random.Intn(6))
	}
	return change{
		"Write", func(v *volume.Volume, writes ...api.SectorWrite) api.Errno { return v.Write(r, writes...) },
		func(t api.Table) (api.Table, api.Errno) {
			if _, ok := contents.Find(t, r); !ok {
				return api.Table{}, api.ErrNotFound
			}
			return t, api.OK
		}, r, true,
	}
}

// anySurvivors returns numbers of bytes, many of which are all or none.
func anySurvivors(random *rand.Rand) []int {
	l := make([]int, random.Intn(60))
	for i := range l {
		l[i] = []int{0, api.RawSize, api.RawSize, random.Intn(api.RawSize)}[random.Intn(4)]
	}
	return l
}

// settle repairs a device behind a call with the error e, and returns which of both models is that of the volume.
func settle(t *testing.T, d *device.Device, e api.Errno, before, after model) model {
	t.Helper()
	d.Repair()
	now := disk(t, d)
	if slices.Equal(now, after.disk) && (e == api.OK || e == api.ErrFailed) {
		return after
	}
	if e != api.ErrFailed || !slices.Equal(now, before.disk) {
		t.Fatalf("error %d, and neither the old nor the new contents", e)
	}
	return before
}

// agree checks that all systems read what the model says.
func agree(t *testing.T, random *rand.Rand, volumes []*volume.Volume, m model) {
	t.Helper()
	for _, v := range volumes {
		x, e := v.Table()
		if e != api.OK || !contents.Same(x, m.table) || !contents.Valid(x) {
			t.Fatalf("%v, error %d, not %v", x, e, m.table)
		}
	}
	for _, r := range contents.Refs(m.table) {
		l, _ := contents.Find(m.table, r)
		for i, s := range sectors(t, volumes[random.Intn(len(volumes))], r) {
			n, _ := contents.Sector(l, i)
			if s != m.disk[n] {
				t.Fatalf("the sector %d of %v has another content", i, r)
			}
		}
	}
}

func TestSequences(t *testing.T) { // P9.3, P9.4, P9.8
	random := rand.New(rand.NewSource(23))
	done := map[string]int{}
	for range 30 {
		d, v := newExample(t) // with labels of several extents
		if random.Intn(2) == 0 {
			d, v = newVolume(t, []int{4, 8, 16, 30, 40}[random.Intn(5)])
		}
		volumes := []*volume.Volume{v, mount(t, d, 2), mount(t, d, 3)}
		x, _ := v.Table()
		m := model{table: x, disk: disk(t, d)}
		for range 60 {
			v := volumes[random.Intn(3)]
			failing := random.Intn(3) == 0
			if failing {
				d.FailAfter(random.Intn(60), anySurvivors(random)...)
			}
			if random.Intn(4) == 0 {
				m = stepConsolidate(t, d, v, m.scattered(random), m, done)
			} else {
				m = stepChange(t, random, d, v, m, done)
			}
			agree(t, random, volumes, m)
		}
	}
	for what, n := range map[string]int{"Create": 50, "Confirm": 20, "Note": 20, "Extend": 20, "Release": 20, "Remove": 20, "Write": 20, "Consolidate": 20, "failed": 50} {
		if done[what] < n {
			t.Errorf("only %d of %s", done[what], what)
		}
	}
}

// stepChange makes a random change of a volume, and returns its model then.
func stepChange(t *testing.T, random *rand.Rand, d *device.Device, v *volume.Volume, m model, done map[string]int) model {
	t.Helper()
	c := randomChange(random, m.table)
	x, code := c.of(m.table)
	if code != api.OK {
		if e := c.on(v); e != code {
			t.Fatalf("%s: error %d, not %d", c.what, e, code)
		}
		return settle(t, d, api.OK, m, m)
	}
	var writes []api.SectorWrite
	if owner, _ := contents.Find(x, c.owner); c.writing {
		writes = randomWrites(random, owner)
	}
	e := c.on(v, writes...)
	if e == api.OK {
		done[c.what]++
	} else {
		done["failed"]++
	}
	return settle(t, d, e, m, m.after(x, c.owner, writes))
}

// stepConsolidate consolidates a label, and returns the model of the volume then.
func stepConsolidate(t *testing.T, d *device.Device, v *volume.Volume, r api.Ref, m model, done map[string]int) model {
	t.Helper()
	after, moves := m.moved(r)
	ok, e := v.Consolidate(r)
	d.Repair()
	switch {
	case e == api.ErrFailed && moves && !ok:
		done["failed"]++
		now := disk(t, d)
		if slices.Equal(now, after.disk) {
			return after
		}
		// Free tracks may have got contents; all others are the same.
		for _, run := range contents.Free(m.table) {
			copy(m.disk[8*run.From:8*(run.From+run.Count)], now[8*run.From:])
		}
		return settle(t, d, e, m, m)
	case e == api.ErrNotFound && !ok:
		if _, found := contents.Find(m.table, r); found {
			t.Fatalf("Consolidate does not find %v", r)
		}
	case e != api.OK || ok != moves:
		t.Fatalf("Consolidate: %v, error %d", ok, e)
	case ok:
		done["Consolidate"]++
	}
	return settle(t, d, api.OK, m, after)
}
