package volume_test

import (
	"math/rand"
	"slices"
	"testing"

	"dasd/api"
	"dasd/contents"
	"dasd/device"
	"dasd/space"
	"dasd/volume"
)

// consolidates checks the result of Consolidate.
func consolidates(t *testing.T, what string, v *volume.Volume, r api.Ref, want bool, code api.Errno) {
	t.Helper()
	if ok, e := v.Consolidate(r); ok != want || e != code {
		t.Errorf("%s: %v, error %d, not %v, error %d", what, ok, e, want, code)
	}
}

// sectors returns the contents of all sectors of a label.
func sectors(t *testing.T, v *volume.Volume, r api.Ref) []string {
	t.Helper()
	n, e := v.Sectors(r)
	if e != api.OK {
		t.Fatalf("%v: error %d", r, e)
	}
	// As one page, they are read at once.
	s, e := v.Pages(r, n).Page(0)
	if e != api.OK || len(s) != n*api.SectorSize {
		t.Fatalf("the sectors of %v: error %d", r, e)
	}
	l := make([]string, n)
	for i := range l {
		l[i] = s[i*api.SectorSize : (i+1)*api.SectorSize]
	}
	return l
}

func TestConsolidate(t *testing.T) { // P9.4
	d, v := newExample(t)
	before := sectors(t, v, trueRef(7))
	want := map[int]string{8: filled("\x07\x00\x05SEVEN\x03old\x01\x0d\x03")}
	for i, s := range before {
		want[8*13+i] = s
	}
	changes(t, "Consolidate", d, 2, want, func() { consolidates(t, "Consolidate", v, trueRef(7), true, api.OK) })
	if got := sectors(t, v, trueRef(7)); !slices.Equal(got, before) {
		t.Errorf("%q, not %q", got, before)
	}
	after := example()
	after.Labels[0].Extents = runs(13, 3)
	has(t, "after Consolidate", d, v, after)
	changes(t, "again", d, 0, nil, func() { consolidates(t, "again", v, trueRef(7), false, api.OK) })
	// The tracks that have become free are the best ones: 5, 8 to 11, and 16 to 17 are free now.
	want = map[int]string{24: filled("\x07\x04\x05SEVEN\x03new\x01\x08\x03")}
	for i, s := range sectors(t, v, ref(7, 4)) {
		want[8*8+i] = s
	}
	changes(t, "another one", d, 2, want, func() { consolidates(t, "another one", v, ref(7, 4), true, api.OK) })
}

func TestNotConsolidated(t *testing.T) { // P9.4: otherwise nothing is done
	d, v := newExample(t)
	same(t, "Create", v.Create(ref(5, 5), "A", "", 4), api.OK)
	// Now the tracks 8, 9 and 17 are free.
	for _, r := range []api.Ref{trueRef(7), ref(7, 4), ref(5, 5)} {
		changes(t, "too few tracks", d, 0, nil, func() { consolidates(t, "too few tracks", v, r, false, api.OK) })
	}
	damage(t, d, 80)
	changes(t, "too few tracks, and a bad sector", d, 0, nil, func() { consolidates(t, "a bad sector", v, trueRef(7), false, api.OK) })
	d.Fence(1, 7)
	changes(t, "a fenced writer", d, 0, nil, func() { consolidates(t, "a fenced writer", v, trueRef(7), false, api.OK) })
	for _, r := range wrongRefs() {
		changes(t, "no label", d, 0, nil, func() { consolidates(t, "no label", v, r, false, api.ErrNotFound) })
	}
}

func TestConsolidateErrors(t *testing.T) { // Errors of Consolidate: the first error of reading a sector of the label, before anything is written
	d, v := newExample(t)
	d.Fence(1, 7)
	for _, sector := range []int{80, 95, 40, 47} {
		c := d.Clone()
		damage(t, c, sector)
		changes(t, "a damaged sector", c, 0, nil, func() {
			consolidates(t, "a damaged sector", mount(t, c, 1), trueRef(7), false, api.ErrCorrupt)
		})
	}
	damage(t, d, 40)
	age(t, d, 90)
	changes(t, "a stale sector", d, 0, nil, func() { consolidates(t, "a stale sector", v, trueRef(7), false, api.ErrStale) })
	damage(t, d, 89)
	changes(t, "a damaged sector before a stale one", d, 0, nil, func() {
		consolidates(t, "a damaged sector before a stale one", v, trueRef(7), false, api.ErrCorrupt)
	})
	// Other sectors, and those where it goes, may be bad.
	d, v = newExample(t)
	for _, sector := range []int{48, 64, 104, 127, 143} {
		damage(t, d, sector)
	}
	consolidates(t, "other bad sectors", v, trueRef(7), true, api.OK)
	reads(t, v, trueRef(7), 0, content(80), api.OK)
	reads(t, v, trueRef(7), 23, content(47), api.OK)
	// A map sector that cannot be read is an error of the commit, if it is only needed for the run.
	d, v = newExample(t)
	same(t, "damage of the map", d.Damage(1+3, 0, 1), api.OK)
	changes(t, "the map of the run", d, 0, nil, func() { consolidates(t, "the map of the run", v, trueRef(7), false, api.ErrCorrupt) })
}

// newLong returns a volume of 128 tracks with a label of some tracks in two extents, whose sectors have contents of their own, and the run to which Consolidate moves it.
func newLong(t *testing.T, tracks int) (*device.Device, *volume.Volume, api.Run) {
	t.Helper()
	d, v := newVolume(t, 128)
	x, _ := contents.New("VOL", 128)
	x.Labels[3] = api.Label{Id: 1, Name: "LONG", Extents: runs(100, tracks-1, 60, 1)}
	plant(t, d, contents.Sectors(x))
	var writes []api.SectorWrite
	for i := range 8 * tracks {
		n, _ := contents.Sector(x.Labels[3], i)
		writes = append(writes, api.SectorWrite{Sector: n, Data: content(i)})
	}
	put(t, d, writes...)
	run, ok := space.Consolidate(x.Labels[3].Extents, contents.Free(x))
	if !ok {
		t.Fatalf("no run for %d tracks", tracks)
	}
	return d, v, run
}

func TestLongLabels(t *testing.T) { // P9.4: lists of MaxCommit sectors, the last one of which may be shorter
	for tracks, count := range map[int]int{2: 1, 7: 1, 8: 1, 9: 2, 16: 2, 17: 3, 24: 3} {
		d, v, run := newLong(t, tracks)
		want := map[int]string{32: filled("\x01\x00\x04LONG\x00\x01" + string([]byte{byte(run.From), byte(run.Count)}))}
		for i := range 8 * tracks {
			want[8*run.From+i] = content(i)
		}
		// The last list is that of the table.
		changes(t, "Consolidate", d, count+1, want, func() { consolidates(t, "Consolidate", v, trueRef(1), true, api.OK) })
	}
}

func TestConsolidateFails(t *testing.T) { // P9.4, P9.8: whatever fails, the contents are the same
	random := rand.New(rand.NewSource(5))
	d, v, run := newLong(t, 15)
	old, _ := v.Table()
	want := sectors(t, v, trueRef(1))
	found := map[int]bool{}
	for n := 0; ; n++ {
		c := d.Clone()
		v := mount(t, c, 1)
		survive := make([]int, random.Intn(100))
		for i := range survive {
			survive[i] = random.Intn(2) * api.RawSize
		}
		c.FailAfter(n, survive...)
		ok, e := v.Consolidate(trueRef(1))
		if ok && e == api.OK {
			break
		}
		if ok || e != api.ErrFailed {
			t.Fatalf("after %d calls: %v, error %d", n, ok, e)
		}
		c.Repair()
		if got := sectors(t, v, trueRef(1)); !slices.Equal(got, want) {
			t.Fatalf("after %d calls: other contents", n)
		}
		x, e := v.Table()
		if e != api.OK || !contents.Same(x, old) && !slices.Equal(x.Labels[3].Extents, []api.Run{run}) {
			t.Fatalf("after %d calls: %v, error %d", n, x, e)
		}
		moved := 0
		for i, s := range disk(t, c)[8*run.From : 8*run.From+120] {
			if s == content(i) {
				moved++
			}
		}
		found[moved] = true
	}
	if len(found) != 3 || !found[0] || !found[64] || !found[120] {
		t.Errorf("numbers of sectors that were moved: %v", found)
	}
}
