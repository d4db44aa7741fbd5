package contents_test

import (
	"math/rand"
	"slices"
	"strings"
	"testing"

	"dasd/api"
	"dasd/contents"
	"dasd/space"
)

// Kinds of calls.
const (
	callCreate = iota
	callExtend
	callRelease
	callReplace
	callConfirm
	callNote
	callRemove
	callKinds
)

// call is a change of a table.
type call struct {
	kind    int
	r       api.Ref
	note    string
	n       int
	extents []api.Run
}

// run makes the change.
func (c call) run(t api.Table) (api.Table, api.Errno) {
	switch c.kind {
	case callCreate:
		return contents.Create(t, c.r, "NAME", c.note, c.n)
	case callExtend:
		return contents.Extend(t, c.r, c.n)
	case callRelease:
		return contents.Release(t, c.r, c.n)
	case callReplace:
		return contents.Replace(t, c.r, c.extents...)
	case callConfirm:
		return contents.Confirm(t, c.r, c.note)
	case callNote:
		return contents.Note(t, c.r, c.note)
	}
	return contents.Remove(t, c.r)
}

// tracksOf returns how often each track occurs in extents of a table.
func tracksOf(t api.Table) [128]int {
	var n [128]int
	for _, l := range t.Labels {
		for _, r := range l.Extents {
			for i := range r.Count {
				n[r.From+i]++
			}
		}
	}
	return n
}

// freeOf returns the free tracks of a valid table, one run for each track.
func freeOf(t api.Table) []api.Run {
	var l []api.Run
	used := tracksOf(t)
	for track := (t.Tracks + 3) / 4; track < t.Tracks; track++ {
		if used[track] == 0 {
			l = append(l, api.Run{From: track, Count: 1})
		}
	}
	return l
}

// partition checks that the tracks behind the table of contents are a partition into free ones and those of the labels.
func partition(t *testing.T, x api.Table) { // P8.5
	t.Helper()
	n := tracksOf(x)
	for _, r := range contents.Free(x) {
		for i := range r.Count {
			n[r.From+i]++
		}
	}
	for track, k := range n {
		want := 0
		if track >= (x.Tracks+3)/4 && track < x.Tracks {
			want = 1
		}
		if k != want {
			t.Fatalf("%v: the track %d occurs %d times", x, track, k)
		}
	}
}

// labelOf returns the slot of a label of a table, or -1.
func labelOf(t api.Table, r api.Ref) int {
	for i, l := range t.Labels {
		if r.Id > 0 && l.Id == r.Id && l.Unit == r.Unit {
			return i
		}
	}
	return -1
}

// expected returns the table after a call with valid arguments, as the chapter says it, and whether it has no error.
func expected(t api.Table, c call) (api.Table, bool) {
	x := clone(t)
	i := labelOf(t, c.r)
	if c.kind == callCreate {
		i = slices.IndexFunc(t.Labels, func(l api.Label) bool { return l.Id == 0 })
		taken := slices.ContainsFunc(t.Labels, func(l api.Label) bool { return l.Id == c.r.Id && l.Unit > 0 })
		l, e := space.Allocate(freeOf(t), c.n, 16)
		if i < 0 || taken || e != api.OK || c.r.Unit == 0 {
			return api.Table{}, false
		}
		x.Labels[i] = api.Label{Id: c.r.Id, Unit: c.r.Unit, Name: "NAME", Note: c.note, Extents: l}
		return x, true
	}
	if i < 0 {
		return api.Table{}, false
	}
	e := api.OK
	switch l := &x.Labels[i]; c.kind {
	case callExtend:
		l.Extents, e = space.Extend(l.Extents, freeOf(t), c.n)
	case callRelease:
		l.Extents, _, e = space.Release(l.Extents, c.n)
	case callReplace:
		l.Extents = c.extents
	case callConfirm:
		if l.Unit == 0 {
			return api.Table{}, false
		}
		if former := labelOf(t, trueRef(c.r.Id)); former >= 0 {
			x.Labels[former] = api.Label{}
		}
		l.Unit, l.Note = 0, c.note
	case callNote:
		l.Note = c.note
	case callRemove:
		*l = api.Label{}
	}
	return x, e == api.OK
}

// randomCall returns a change that is often possible.
func randomCall(random *rand.Rand, t api.Table) call {
	c := call{kind: random.Intn(callKinds), r: ref(1+random.Intn(8), random.Intn(3)), n: 1 + random.Intn(6), note: strings.Repeat("n", random.Intn(401)>>random.Intn(9))}
	refs := contents.Refs(t)
	if c.kind != callCreate && len(refs) > 0 && random.Intn(4) > 0 {
		c.r = refs[random.Intn(len(refs))]
	}
	if i := labelOf(t, c.r); c.kind == callReplace && i >= 0 {
		n := 0
		for _, r := range t.Labels[i].Extents {
			n += r.Count
		}
		without := clone(t)
		without.Labels[i] = api.Label{}
		c.extents, _ = space.Allocate(freeOf(without), n, 16)
	}
	return c
}

// step makes a change, and checks the result.
func step(t *testing.T, x api.Table, c call) api.Table {
	t.Helper()
	before := clone(x)
	got, e := c.run(x)
	want, ok := expected(before, c)
	if c.kind == callReplace && len(c.extents) == 0 {
		ok = false
	}
	if !equal(x, before) {
		t.Fatalf("%v: the argument %v has become %v", c, before, x)
	}
	if !ok {
		if e == api.OK || !equal(got, api.Table{}) {
			t.Fatalf("%v of %v: %v, error %d", c, x, got, e)
		}
		return x
	}
	if !equal(got, want) || e != api.OK || !contents.Valid(got) {
		t.Fatalf("%v of %v: %v, error %d, not %v", c, x, got, e, want)
	}
	partition(t, got)
	loaded, e := load(t, contents.Sectors(got)...)
	same(t, "loaded", loaded, e, got, api.OK)
	changes(t, x, got, c)
	spoil(x)
	if !equal(got, want) {
		t.Fatalf("%v: %v has changed with the argument to %v", c, want, got)
	}
	return got
}

// changes checks the changes of a call.
func changes(t *testing.T, x, y api.Table, c call) { // P8.4, P8.5
	t.Helper()
	l := contents.Changes(x, y)
	most := 8
	if c.kind == callConfirm {
		most = 16
	}
	if len(l) > most {
		t.Errorf("%v of %v changes %d sectors", c, x, len(l))
	}
	a, b := contents.Sectors(x), contents.Sectors(y)
	for i, w := range l {
		if i > 0 && l[i-1].Sector >= w.Sector || a[w.Sector] == w.Data {
			t.Errorf("%v of %v changes %v", c, x, l)
		}
		a[w.Sector] = w.Data
	}
	if !slices.Equal(a, b) {
		t.Errorf("%v of %v: not all changes", c, x)
	}
}

// spoil overwrites the memory of a table.
func spoil(t api.Table) {
	for i, l := range t.Labels {
		for k := range l.Extents[:cap(l.Extents)] {
			l.Extents[:cap(l.Extents)][k] = api.Run{From: -7, Count: -7}
		}
		t.Labels[i] = api.Label{Id: -7}
	}
}

func TestSequences(t *testing.T) { // P8.3, P8.4, P8.5
	random := rand.New(rand.NewSource(19))
	done := [callKinds]int{}
	for range 200 {
		x, e := contents.New("VOL", []int{4, 5, 8, 16, 20, 40, 128}[random.Intn(7)])
		if e != api.OK {
			t.Fatal(e)
		}
		for range 60 {
			c := randomCall(random, x)
			before := clone(x)
			if x = step(t, x, c); !equal(x, before) {
				done[c.kind]++
			}
		}
	}
	for kind, n := range done {
		if n < 50 {
			t.Errorf("only %d changes of the kind %d", n, kind)
		}
	}
}

func TestMost(t *testing.T) { // P8.5: at most 8 sectors of a label, and 16 with Confirm
	x := example()
	x.Labels[0].Note = strings.Repeat("a", 400)
	x.Labels[2].Note = strings.Repeat("b", 400)
	x.Labels[2].Name = strings.Repeat("c", 31)
	for _, note := range []string{"", strings.Repeat("c", 400), x.Labels[2].Note} {
		y, e := contents.Confirm(x, ref(7, 4), note)
		if l := contents.Changes(x, y); e != api.OK || len(l) > 16 || len(l) < 5 {
			t.Errorf("%d changes, error %d", len(l), e)
		}
	}
	y, _ := contents.Remove(x, trueRef(7))
	if l := contents.Changes(x, y); len(l) != 4 {
		t.Errorf("%d changes", len(l))
	}
}

func TestMemory(t *testing.T) { // Guarantees: arguments are not modified, and results are newly allocated
	for _, c := range []call{{kind: callCreate, r: ref(5, 1), n: 7}, {kind: callExtend, r: ref(3, 9), n: 2}, {kind: callRelease, r: trueRef(7), n: 3}, {kind: callReplace, r: trueRef(7), extents: runs(10, 2, 5, 1)}, {kind: callConfirm, r: ref(7, 4)}, {kind: callNote, r: trueRef(7)}, {kind: callRemove, r: trueRef(7)}} {
		x := example()
		extents := slices.Clone(c.extents)
		got, e := c.run(x)
		if e != api.OK {
			t.Errorf("%v: error %d", c, e)
		}
		spoil(got)
		if !equal(x, example()) || !slices.Equal(c.extents, extents) {
			t.Errorf("%v: the argument has become %v", c, x)
		}
	}
	x := example()
	l, _ := contents.Find(x, trueRef(7))
	spoil(api.Table{Labels: []api.Label{l}})
	clear(contents.Free(x))
	clear(contents.Refs(x))
	clear(contents.Sectors(x))
	clear(contents.Changes(x, full()))
	if !equal(x, example()) {
		t.Errorf("the argument has become %v", x)
	}
	s := contents.Sectors(x)
	a, _ := contents.Load(s...)
	clear(s)
	b, _ := contents.Load(contents.Sectors(x)...)
	spoil(b)
	if !equal(a, x) {
		t.Errorf("the result has become %v", a)
	}
}

func TestAllTables(t *testing.T) { // P1: all functions accept any table
	for what, x := range invalid() {
		refs := append(contents.Refs(x), api.Ref{}, trueRef(7), ref(-1, -1))
		for _, r := range refs {
			l, ok := contents.Find(x, r)
			if i := slices.IndexFunc(x.Labels, func(l api.Label) bool { return r.Id != 0 && l.Id == r.Id && l.Unit == r.Unit }); ok != (i >= 0) || ok && !equalLabels(l, x.Labels[i]) {
				t.Errorf("%s, %v: %v, %v", what, r, l, ok)
			}
			contents.Sector(l, 3)
		}
		if !contents.Same(x, clone(x)) {
			t.Errorf("%s is not the same", what)
		}
	}
}

func FuzzLoad(f *testing.F) { // P1, P8.4, P8.5, P11
	f.Add("\x03VOL\x14", "\x05\x00\x00\x00\x01\x05\x01", "\x05\x01\x00\x00\x01\x06\x01", 5, 1)
	f.Add("\x01V\x10", "", "\x06\x00\x00\x00\x02\x0a\x02\x05\x01", 6, 0)
	f.Fuzz(func(t *testing.T, head, a, b string, id, n int) {
		var tracks []string
		for _, s := range []string{head, a, "", b, ""} {
			if len(s) > 1024 {
				return
			}
			tracks = append(tracks, filled(s, 1024))
		}
		for k := 1; k <= len(tracks); k++ {
			x, e := load(t, pieces(strings.Join(tracks[:k], ""), 128)...)
			if e != api.OK {
				continue
			}
			partition(t, x)
			for kind := range callKinds {
				c := call{kind: kind, r: ref(1+id&7, n&3), note: a[:min(len(a), 400)], n: 1 + n&15}
				step(t, clone(x), c)
			}
		}
	})
}
