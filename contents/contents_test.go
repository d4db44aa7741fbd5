package contents_test

import (
	"math"
	"slices"
	"strings"
	"testing"

	"dasd/api"
	"dasd/contents"
)

// runs returns the runs of pairs of numbers.
func runs(l ...int) []api.Run {
	var out []api.Run
	for pair := range slices.Chunk(l, 2) {
		out = append(out, api.Run{From: pair[0], Count: pair[1]})
	}
	return out
}

// trueRef names the true label of a data set.
func trueRef(id int) api.Ref { return api.Ref{Id: id} }

// ref names a tentative label.
func ref(id, unit int) api.Ref { return api.Ref{Id: id, Unit: unit} }

// example returns a table of 20 tracks, of which 5 to 19 are for data sets, with 4 slots: the true label 7, an empty slot, the successor of the label 7, and the tentative label 3. The tracks 8, 9 and 13 to 17 are free.
func example() api.Table {
	return api.Table{Name: "VOL", Tracks: 20, Labels: []api.Label{
		{Id: 7, Name: "SEVEN", Note: "old", Extents: runs(10, 2, 5, 1)},
		{},
		{Id: 7, Unit: 4, Name: "SEVEN", Note: "new", Extents: runs(6, 2, 18, 1)},
		{Id: 3, Unit: 9, Name: "THREE", Extents: runs(19, 1, 12, 1)},
	}}
}

// full returns the table of the example without an empty slot.
func full() api.Table {
	t := example()
	t.Labels[1] = api.Label{Id: 1, Unit: 1, Extents: runs(8, 1)}
	return t
}

// changed returns the table of the example after a change.
func changed(f func(t *api.Table)) api.Table {
	t := example()
	f(&t)
	return t
}

// clone returns a table that shares no memory with the given one.
func clone(t api.Table) api.Table {
	t.Labels = slices.Clone(t.Labels)
	for i := range t.Labels {
		t.Labels[i].Extents = slices.Clone(t.Labels[i].Extents)
	}
	return t
}

// equalLabels reports whether all fields of two labels are equal.
func equalLabels(a, b api.Label) bool {
	return a.Id == b.Id && a.Unit == b.Unit && a.Name == b.Name && a.Note == b.Note && slices.Equal(a.Extents, b.Extents)
}

// equal reports whether all fields of two tables are equal.
func equal(a, b api.Table) bool {
	return a.Name == b.Name && a.Tracks == b.Tracks && slices.EqualFunc(a.Labels, b.Labels, equalLabels)
}

// same checks a table and an error.
func same(t *testing.T, what string, got api.Table, e api.Errno, want api.Table, wanted api.Errno) {
	t.Helper()
	if !equal(got, want) || e != wanted {
		t.Errorf("%s: %v, error %d, not %v, error %d", what, got, e, want, wanted)
	}
}

// fails checks that there is an error, and no table with it.
func fails(t *testing.T, what string, got api.Table, e, wanted api.Errno) {
	t.Helper()
	same(t, what, got, e, api.Table{}, wanted)
}

func TestNew(t *testing.T) { // P8.1
	for tracks, slots := range map[int]int{4: 0, 5: 1, 8: 1, 16: 3, 20: 4, 127: 31, 128: 31} {
		for _, name := range []string{"V", "VOL", "ABCDEFG9"} {
			got, e := contents.New(name, tracks)
			same(t, "new", got, e, api.Table{Name: name, Tracks: tracks, Labels: make([]api.Label, slots)}, api.OK)
			if !contents.Valid(got) || len(contents.Refs(got)) > 0 {
				t.Errorf("%v is not valid", got)
			}
		}
	}
	for _, tracks := range []int{math.MinInt, -16, -1, 0, 3, 129, math.MaxInt} {
		got, e := contents.New("VOL", tracks)
		fails(t, "new", got, e, api.ErrArg)
	}
	for _, name := range []string{"", "vol", "1VOL", "V-L", "ABCDEFGHI"} {
		got, e := contents.New(name, 16)
		fails(t, "new", got, e, api.ErrArg)
	}
}

// invalid contains tables each of which lacks one property of a valid table.
func invalid() map[string]api.Table {
	return map[string]api.Table{
		"zero":                 {},
		"no name":              changed(func(t *api.Table) { t.Name = "" }),
		"no name of a volume":  changed(func(t *api.Table) { t.Name = "vol" }),
		"too few tracks":       changed(func(t *api.Table) { t.Tracks = 3; t.Labels = nil }),
		"negative tracks":      changed(func(t *api.Table) { t.Tracks = -20; t.Labels = nil }),
		"too many tracks":      changed(func(t *api.Table) { t.Tracks = 129 }),
		"no tracks":            changed(func(t *api.Table) { t.Tracks = 0; t.Labels = nil }),
		"a slot too few":       changed(func(t *api.Table) { t.Labels = t.Labels[:3] }),
		"a slot too many":      changed(func(t *api.Table) { t.Labels = append(t.Labels, api.Label{}) }),
		"no slots":             changed(func(t *api.Table) { t.Labels = nil }),
		"a longer table":       changed(func(t *api.Table) { t.Tracks = 21 }),
		"a shorter table":      changed(func(t *api.Table) { t.Tracks = 16; t.Labels = t.Labels[:3] }),
		"Id 0":                 changed(func(t *api.Table) { t.Labels[3].Id = 0 }),
		"only a name":          changed(func(t *api.Table) { t.Labels[1].Name = "A" }),
		"only a unit":          changed(func(t *api.Table) { t.Labels[1].Unit = 1 }),
		"only a note":          changed(func(t *api.Table) { t.Labels[1].Note = "A" }),
		"only extents":         changed(func(t *api.Table) { t.Labels[1].Extents = runs(8, 1) }),
		"an empty extent":      changed(func(t *api.Table) { t.Labels[1].Extents = runs(0, 0) }),
		"no extents":           changed(func(t *api.Table) { t.Labels[3].Extents = nil }),
		"a negative unit":      changed(func(t *api.Table) { t.Labels[3].Unit = -1 }),
		"Id too great":         changed(func(t *api.Table) { t.Labels[3].Id = 1<<40 + 1 }),
		"a track of the table": changed(func(t *api.Table) { t.Labels[3].Extents = runs(4, 1) }),
		"no track":             changed(func(t *api.Table) { t.Labels[3].Extents = runs(19, 2) }),
		"name too long":        changed(func(t *api.Table) { t.Labels[3].Name = strings.Repeat("x", 32) }),
		"note too long":        changed(func(t *api.Table) { t.Labels[0].Note = strings.Repeat("x", 401) }),
		"not joined":           changed(func(t *api.Table) { t.Labels[3].Extents = runs(13, 1, 14, 1) }),
		"a shared track":       changed(func(t *api.Table) { t.Labels[3].Extents = runs(12, 1, 5, 1) }),
		"the same tracks":      changed(func(t *api.Table) { t.Labels[3].Extents = runs(10, 2, 5, 1) }),
		"two true labels":      changed(func(t *api.Table) { t.Labels[2].Unit = 0 }),
		"two tentative labels": changed(func(t *api.Table) { t.Labels[0].Unit = 3 }),
		"the same reference":   changed(func(t *api.Table) { t.Labels[0].Unit = 4 }),
		"three labels of an Id": changed(func(t *api.Table) {
			t.Labels[3].Id = 7
		}),
		"three tentative labels": changed(func(t *api.Table) {
			t.Labels[0].Unit = 1
			t.Labels[3].Id = 7
		}),
	}
}

func TestValid(t *testing.T) { // P8.1
	for what, x := range invalid() {
		if contents.Valid(x) {
			t.Errorf("%s is valid", what)
		}
	}
	for what, x := range map[string]api.Table{
		"the example":         example(),
		"a full table":        full(),
		"an empty list":       changed(func(t *api.Table) { t.Labels[1].Extents = []api.Run{} }),
		"another name":        changed(func(t *api.Table) { t.Name = "A2345678" }),
		"no labels":           {Name: "V", Tracks: 8, Labels: make([]api.Label, 1)},
		"no slots":            {Name: "V", Tracks: 4},
		"fewer tracks":        changed(func(t *api.Table) { t.Tracks = 17; t.Labels[2].Extents = runs(6, 2); t.Labels[3].Extents = runs(16, 1) }),
		"tracks side by side": changed(func(t *api.Table) { t.Labels[3].Extents = runs(12, 6) }),
		"the same unit":       changed(func(t *api.Table) { t.Labels[3].Unit = 4 }),
		"the same Id":         changed(func(t *api.Table) { t.Labels[2] = api.Label{}; t.Labels[3].Id = 7 }),
		"a great Id":          changed(func(t *api.Table) { t.Labels[3].Id = 1 << 40 }),
	} {
		if !contents.Valid(x) {
			t.Errorf("%s is not valid", what)
		}
	}
}

func TestSame(t *testing.T) { // P8.1
	all := []api.Table{example(), full(), {Name: "V"}, {Tracks: 20}, {Labels: make([]api.Label, 4)}, {Labels: make([]api.Label, 3)}}
	for _, x := range invalid() {
		all = append(all, x)
	}
	for _, f := range []func(l *api.Label){
		func(l *api.Label) { l.Id = 8 }, func(l *api.Label) { l.Unit = 1 }, func(l *api.Label) { l.Name = "OTHER" }, func(l *api.Label) { l.Note = "OTHER" }, func(l *api.Label) { l.Extents = runs(10, 2, 13, 1) }, func(l *api.Label) { l.Extents = runs(10, 2) },
	} {
		all = append(all, changed(func(t *api.Table) { f(&t.Labels[0]) }))
	}
	all = append(all, changed(func(t *api.Table) { slices.Reverse(t.Labels) }))
	for i, a := range all {
		for k, b := range all {
			if contents.Same(a, clone(b)) != (i == k) {
				t.Errorf("%v and %v: %v", a, b, i != k)
			}
		}
	}
	if !contents.Same(example(), changed(func(t *api.Table) { t.Labels[1].Extents = []api.Run{} })) || !contents.Same(api.Table{Labels: []api.Label{}}, api.Table{}) {
		t.Error("empty lists differ")
	}
}

func TestFind(t *testing.T) { // P8.2
	x := example()
	for i, r := range []api.Ref{trueRef(7), {}, ref(7, 4), ref(3, 9)} {
		if l, ok := contents.Find(x, r); ok != (i != 1) || !equalLabels(l, x.Labels[i]) {
			t.Errorf("%v: %v, %v", r, l, ok)
		}
	}
	for _, r := range []api.Ref{{}, trueRef(3), ref(7, 9), ref(0, 9), ref(3, 4), ref(4, 7), ref(-7, 0), ref(7, -4), ref(math.MinInt, math.MaxInt)} {
		if l, ok := contents.Find(x, r); ok || !equalLabels(l, api.Label{}) {
			t.Errorf("%v: %v, %v", r, l, ok)
		}
	}
	// any tables: the first label, but none with the Id 0
	x = api.Table{Tracks: -1, Labels: []api.Label{{Name: "NONE"}, {Id: -2, Unit: -3, Name: "NEGATIVE"}, {Id: 5, Name: "FIRST"}, {Id: 5, Name: "SECOND", Extents: runs(-1, 9)}, {Unit: 6, Name: "NONE"}}}
	for r, want := range map[api.Ref]string{{}: "", {Unit: 6}: "", trueRef(5): "FIRST", ref(-2, -3): "NEGATIVE", trueRef(-2): ""} {
		if l, ok := contents.Find(x, r); ok != (want != "") || l.Name != want {
			t.Errorf("%v: %v, %v", r, l, ok)
		}
	}
	if _, ok := contents.Find(api.Table{}, trueRef(1)); ok {
		t.Error("a label in no table")
	}
}

func TestRefs(t *testing.T) { // P8.2
	for i, x := range []struct {
		t    api.Table
		want []api.Ref
	}{
		{example(), []api.Ref{ref(3, 9), trueRef(7), ref(7, 4)}},
		{full(), []api.Ref{ref(1, 1), ref(3, 9), trueRef(7), ref(7, 4)}},
		{api.Table{}, nil},
		{api.Table{Name: "V", Tracks: 20, Labels: make([]api.Label, 4)}, nil},
		// any tables: all labels that are not zero
		{api.Table{Labels: []api.Label{{Id: 10}, {Id: 9, Unit: 10}, {Id: 9, Unit: 9}, {}, {Id: -9}, {Id: 9, Unit: -9}, {Id: 10}, {Name: "A"}, {Extents: []api.Run{}}}}, []api.Ref{{Id: -9}, {}, ref(9, -9), ref(9, 9), ref(9, 10), {Id: 10}, {Id: 10}}},
		{api.Table{Labels: []api.Label{{Id: math.MaxInt, Unit: math.MinInt}, {Id: math.MinInt}, {Id: math.MaxInt, Unit: math.MaxInt}}}, []api.Ref{{Id: math.MinInt}, ref(math.MaxInt, math.MinInt), ref(math.MaxInt, math.MaxInt)}},
	} {
		if got := contents.Refs(x.t); !slices.Equal(got, x.want) {
			t.Errorf("table %d: %v, not %v", i, got, x.want)
		}
	}
}

func TestFree(t *testing.T) { // P8.2
	for i, x := range []struct {
		t    api.Table
		want []api.Run
	}{
		{example(), runs(8, 2, 13, 5)},
		{full(), runs(9, 1, 13, 5)},
		{api.Table{Name: "V", Tracks: 4}, runs(1, 3)},
		{api.Table{Name: "V", Tracks: 128, Labels: make([]api.Label, 31)}, runs(32, 96)},
		{api.Table{Name: "V", Tracks: 8, Labels: []api.Label{{Id: 1, Extents: runs(2, 6)}}}, nil},
	} {
		if got := contents.Free(x.t); !slices.Equal(got, x.want) {
			t.Errorf("table %d: %v, not %v", i, got, x.want)
		}
	}
	for what, x := range invalid() {
		if got := contents.Free(x); len(got) > 0 {
			t.Errorf("%s: %v is free", what, got)
		}
	}
}

func TestCreate(t *testing.T) { // P8.3
	for _, x := range []struct {
		r          api.Ref
		name, note string
		n          int
		extents    []api.Run
	}{
		{ref(1, 1), "ONE", "note", 1, runs(8, 1)},
		{ref(1, 1), "", "", 2, runs(8, 2)},
		{ref(8, 4), "SEVEN", "old", 3, runs(13, 3)},
		{ref(8, 9), "\xff", "\x00", 5, runs(13, 5)},
		{ref(1<<40, 1<<40), strings.Repeat("x", 31), strings.Repeat("y", 400), 6, runs(13, 5, 8, 1)},
		{ref(1, 1), "", "", 7, runs(13, 5, 8, 2)},
	} {
		got, e := contents.Create(example(), x.r, x.name, x.note, x.n)
		want := changed(func(t *api.Table) {
			t.Labels[1] = api.Label{Id: x.r.Id, Unit: x.r.Unit, Name: x.name, Note: x.note, Extents: x.extents}
		})
		same(t, "created", got, e, want, api.OK)
	}
	// a successor of a true label, in the first one of several empty slots
	y := changed(func(t *api.Table) { t.Labels[0], t.Labels[2], t.Labels[3] = api.Label{}, api.Label{}, t.Labels[0] })
	got, e := contents.Create(y, ref(7, 9), "SEVEN", "", 1)
	// free were the tracks 6 to 9 and 12 to 19
	y.Labels[0] = api.Label{Id: 7, Unit: 9, Name: "SEVEN", Extents: runs(6, 1)}
	same(t, "created", got, e, y, api.OK)
}

func TestExampleOfChapter(t *testing.T) { // P8.3, P8.4
	x, e := contents.New("VOL", 16)
	if e != api.OK {
		t.Fatal(e)
	}
	x, e = contents.Create(x, ref(5, 2), "A", "", 3)
	same(t, "created", x, e, api.Table{Name: "VOL", Tracks: 16, Labels: []api.Label{{Id: 5, Unit: 2, Name: "A", Extents: runs(4, 3)}, {}, {}}}, api.OK)
	x, e = contents.Confirm(x, ref(5, 2), "n")
	same(t, "confirmed", x, e, api.Table{Name: "VOL", Tracks: 16, Labels: []api.Label{{Id: 5, Name: "A", Note: "n", Extents: runs(4, 3)}, {}, {}}}, api.OK)
	l, ok := contents.Find(x, trueRef(5))
	if n, is := contents.Sector(l, 9); !ok || n != 41 || !is {
		t.Errorf("%v, %v: the sector 9 is %d, %v", l, ok, n, is)
	}
}

func TestCreateFails(t *testing.T) { // Errors of Create, in their order
	long := strings.Repeat("x", 401)
	for i, x := range []struct {
		t          api.Table
		r          api.Ref
		name, note string
		n          int
		e          api.Errno
	}{
		{example(), ref(0, 1), "", "", 1, api.ErrArg},
		{example(), ref(-1, 1), "", "", 1, api.ErrArg},
		{example(), ref(math.MinInt, 1), "", "", 1, api.ErrArg},
		{example(), ref(1<<40+1, 1), "", "", 1, api.ErrArg},
		{example(), ref(1, 0), "", "", 1, api.ErrArg},
		{example(), ref(1, -1), "", "", 1, api.ErrArg},
		{example(), ref(1, 1<<40+1), "", "", 1, api.ErrArg},
		{example(), ref(1, math.MaxInt), "", "", 1, api.ErrArg},
		{example(), ref(1, 1), long[:32], "", 1, api.ErrArg},
		{example(), ref(1, 1), "", long, 1, api.ErrArg},
		{example(), ref(1, 1), "", "", 0, api.ErrArg},
		{example(), ref(1, 1), "", "", -1, api.ErrArg},
		{example(), ref(1, 1), "", "", math.MinInt, api.ErrArg},
		{example(), ref(3, 0), "", "", 1, api.ErrArg}, // before ErrExists
		{example(), ref(3, 9), "", "", 0, api.ErrArg},
		{example(), ref(3, 9), "", long, 1, api.ErrArg},
		{example(), ref(3, 9), "", "", 1, api.ErrExists},
		{example(), ref(3, 1), "", "", 1, api.ErrExists},
		{example(), ref(7, 5), "", "", 1, api.ErrExists},
		{full(), ref(3, 1), "", "", 99, api.ErrExists}, // before ErrTooLarge and ErrSpace
		{full(), ref(2, 1), "", "", 1, api.ErrTooLarge},
		{full(), ref(2, 1), "", "", 99, api.ErrTooLarge}, // before ErrSpace
		{full(), ref(2, 1), "", "", 0, api.ErrArg},
		{api.Table{Name: "V", Tracks: 4}, ref(2, 1), "", "", 1, api.ErrTooLarge},
		{example(), ref(1, 1), "", "", 8, api.ErrSpace},
		{example(), ref(1, 1), "", "", math.MaxInt, api.ErrSpace},
		{comb(), ref(18, 1), "", "", 17, api.ErrSpace}, // there are 17 free tracks, but they would need 17 runs
		{api.Table{}, ref(0, 0), "", "", 0, api.ErrArg},
	} {
		got, e := contents.Create(x.t, x.r, x.name, x.note, x.n)
		if !equal(got, api.Table{}) || e != x.e {
			t.Errorf("case %d: %v, error %d, not %d", i, got, e, x.e)
		}
	}
	got, e := contents.Create(comb(), ref(18, 1), "", "", 16)
	if l, ok := contents.Find(got, ref(18, 1)); e != api.OK || !ok || len(l.Extents) != 16 {
		t.Errorf("16 runs: %v, error %d", l, e)
	}
}

// comb returns a table of 128 tracks with 17 free tracks, no two of which touch each other: 33, 35, and so on. The label i has the track in front of the free track i, and the label 17 also all tracks behind.
func comb() api.Table {
	t := api.Table{Name: "COMB", Tracks: 128, Labels: make([]api.Label, 31)}
	for i := range 17 {
		t.Labels[i] = api.Label{Id: i + 1, Extents: runs(32+2*i, 1)}
	}
	t.Labels[16].Extents = append(t.Labels[16].Extents, runs(66, 62)...)
	return t
}

// edit is a change of a label and what it must lead to.
type edit struct {
	what string
	f    func(t api.Table) (api.Table, api.Errno)
	want func(t *api.Table) // nil: it is an error
	e    api.Errno
}

// extends is a call of Extend.
func extends(r api.Ref, n int) func(t api.Table) (api.Table, api.Errno) {
	return func(t api.Table) (api.Table, api.Errno) { return contents.Extend(t, r, n) }
}

// releases is a call of Release.
func releases(r api.Ref, keep int) func(t api.Table) (api.Table, api.Errno) {
	return func(t api.Table) (api.Table, api.Errno) { return contents.Release(t, r, keep) }
}

// replaces is a call of Replace.
func replaces(r api.Ref, extents ...api.Run) func(t api.Table) (api.Table, api.Errno) {
	return func(t api.Table) (api.Table, api.Errno) { return contents.Replace(t, r, extents...) }
}

// confirms is a call of Confirm.
func confirms(r api.Ref, note string) func(t api.Table) (api.Table, api.Errno) {
	return func(t api.Table) (api.Table, api.Errno) { return contents.Confirm(t, r, note) }
}

// notes is a call of Note.
func notes(r api.Ref, note string) func(t api.Table) (api.Table, api.Errno) {
	return func(t api.Table) (api.Table, api.Errno) { return contents.Note(t, r, note) }
}

// removes is a call of Remove.
func removes(r api.Ref) func(t api.Table) (api.Table, api.Errno) {
	return func(t api.Table) (api.Table, api.Errno) { return contents.Remove(t, r) }
}

// extentsOf changes the extents of the label in a slot.
func extentsOf(slot int, l ...int) func(t *api.Table) {
	return func(t *api.Table) { t.Labels[slot].Extents = runs(l...) }
}

// check checks edits of a table.
func check(t *testing.T, x api.Table, edits []edit) {
	t.Helper()
	for _, c := range edits {
		got, e := c.f(clone(x))
		want := api.Table{}
		if c.want != nil {
			want = clone(x)
			c.want(&want)
		}
		same(t, c.what, got, e, want, c.e)
	}
}

func TestExtend(t *testing.T) { // P8.3
	check(t, example(), []edit{
		{"directly behind", extends(ref(3, 9), 1), extentsOf(3, 19, 1, 12, 2), api.OK},
		{"all behind", extends(ref(3, 9), 5), extentsOf(3, 19, 1, 12, 6), api.OK},
		{"behind and elsewhere", extends(ref(3, 9), 7), extentsOf(3, 19, 1, 12, 6, 8, 2), api.OK},
		{"elsewhere", extends(trueRef(7), 1), extentsOf(0, 10, 2, 5, 1, 8, 1), api.OK},
		{"the successor", extends(ref(7, 4), 3), extentsOf(2, 6, 2, 18, 1, 13, 3), api.OK},
		{"no label", extends(trueRef(3), 1), nil, api.ErrNotFound},
		{"the Id 0", extends(api.Ref{}, 1), nil, api.ErrNotFound},
		{"no label, no tracks", extends(trueRef(9), 0), nil, api.ErrNotFound},
		{"no tracks", extends(trueRef(7), 0), nil, api.ErrArg},
		{"negative tracks", extends(trueRef(7), math.MinInt), nil, api.ErrArg},
		{"too many tracks", extends(ref(3, 9), 8), nil, api.ErrSpace},
		{"far too many tracks", extends(ref(3, 9), math.MaxInt), nil, api.ErrSpace},
	})
	check(t, comb(), []edit{
		{"16 extents", extends(trueRef(1), 16), extentsOf(0, 32, 2, 35, 1, 37, 1, 39, 1, 41, 1, 43, 1, 45, 1, 47, 1, 49, 1, 51, 1, 53, 1, 55, 1, 57, 1, 59, 1, 61, 1, 63, 1), api.OK},
		{"17 extents", extends(trueRef(1), 17), nil, api.ErrSpace},
	})
}

func TestRelease(t *testing.T) { // P8.3
	check(t, example(), []edit{
		{"all", releases(trueRef(7), 3), extentsOf(0, 10, 2, 5, 1), api.OK},
		{"the last one", releases(trueRef(7), 2), extentsOf(0, 10, 2), api.OK},
		{"all but one", releases(trueRef(7), 1), extentsOf(0, 10, 1), api.OK},
		{"the successor", releases(ref(7, 4), 1), extentsOf(2, 6, 1), api.OK},
		{"no label", releases(trueRef(9), 0), nil, api.ErrNotFound},
		{"the Id 0", releases(api.Ref{}, 1), nil, api.ErrNotFound},
		{"nothing is kept", releases(trueRef(7), 0), nil, api.ErrRange},
		{"negative", releases(trueRef(7), -1), nil, api.ErrRange},
		{"too many", releases(trueRef(7), 4), nil, api.ErrRange},
		{"far too many", releases(trueRef(7), math.MaxInt), nil, api.ErrRange},
	})
}

func TestReplace(t *testing.T) { // P8.3
	check(t, example(), []edit{
		{"free tracks", replaces(trueRef(7), runs(13, 3)...), extentsOf(0, 13, 3), api.OK},
		{"the old ones", replaces(trueRef(7), runs(10, 2, 5, 1)...), extentsOf(0, 10, 2, 5, 1), api.OK},
		{"the old ones in another order", replaces(trueRef(7), runs(5, 1, 10, 2)...), extentsOf(0, 5, 1, 10, 2), api.OK},
		{"old and free ones", replaces(trueRef(7), runs(9, 3)...), extentsOf(0, 9, 3), api.OK},
		{"the successor", replaces(ref(7, 4), runs(13, 1, 17, 1, 8, 1)...), extentsOf(2, 13, 1, 17, 1, 8, 1), api.OK},
		{"no label", replaces(trueRef(9), runs(13, 3)...), nil, api.ErrNotFound},
		{"the Id 0", replaces(api.Ref{}, runs(13, 3)...), nil, api.ErrNotFound},
		{"no label, no extents", replaces(trueRef(9)), nil, api.ErrNotFound},
		{"no extents", replaces(trueRef(7)), nil, api.ErrArg},
		{"fewer tracks", replaces(trueRef(7), runs(13, 2)...), nil, api.ErrArg},
		{"more tracks", replaces(trueRef(7), runs(13, 4)...), nil, api.ErrArg},
		{"of another label", replaces(trueRef(7), runs(16, 3)...), nil, api.ErrArg},
		{"tracks of the table", replaces(trueRef(7), runs(3, 3)...), nil, api.ErrArg},
		{"tracks behind the volume", replaces(trueRef(7), runs(20, 3)...), nil, api.ErrArg},
		{"not joined", replaces(trueRef(7), runs(13, 2, 15, 1)...), nil, api.ErrArg},
		{"not disjoint", replaces(trueRef(7), runs(13, 2, 14, 1)...), nil, api.ErrArg},
		{"an empty run", replaces(trueRef(7), runs(13, 3, 8, 0)...), nil, api.ErrArg},
		{"no tracks there", replaces(trueRef(7), runs(13, 3, 128, 1)...), nil, api.ErrArg},
		{"negative", replaces(trueRef(7), runs(-3, 3)...), nil, api.ErrArg},
		{"far", replaces(trueRef(7), runs(125, math.MaxInt)...), nil, api.ErrArg},
	})
	x := api.Table{Name: "V", Tracks: 128, Labels: make([]api.Label, 31)}
	x.Labels[0] = api.Label{Id: 1, Extents: runs(32, 17)}
	var singles []int
	for i := range 17 {
		singles = append(singles, 60+2*i, 1)
	}
	most := slices.Concat([]int{59, 2}, singles[2:32])
	check(t, x, []edit{
		{"16 extents", replaces(trueRef(1), runs(most...)...), extentsOf(0, most...), api.OK},
		{"17 extents", replaces(trueRef(1), runs(singles...)...), nil, api.ErrArg},
	})
}

func TestConfirm(t *testing.T) { // P8.3
	long := strings.Repeat("x", 401)
	check(t, example(), []edit{
		{"a new data set", confirms(ref(3, 9), "n"), func(t *api.Table) { t.Labels[3].Unit, t.Labels[3].Note = 0, "n" }, api.OK},
		{"the longest note", confirms(ref(3, 9), long[1:]), func(t *api.Table) { t.Labels[3].Unit, t.Labels[3].Note = 0, long[1:] }, api.OK},
		{"a successor", confirms(ref(7, 4), ""), func(t *api.Table) {
			t.Labels[0] = api.Label{}
			t.Labels[2].Unit, t.Labels[2].Note = 0, ""
		}, api.OK},
		{"no label", confirms(ref(3, 4), ""), nil, api.ErrNotFound},
		{"no label of the Id, and a long note", confirms(ref(9, 4), long), nil, api.ErrNotFound},
		{"no true label", confirms(trueRef(3), ""), nil, api.ErrNotFound},
		{"the Id 0", confirms(api.Ref{}, ""), nil, api.ErrNotFound},
		{"a true label", confirms(trueRef(7), ""), nil, api.ErrState},
		{"a true label, and a long note", confirms(trueRef(7), long), nil, api.ErrState},
		{"a long note", confirms(ref(7, 4), long), nil, api.ErrArg},
	})
	// the former true label is behind its successor, and the Id 0 of empty slots is no data set
	behind := changed(func(t *api.Table) { slices.Reverse(t.Labels) })
	check(t, behind, []edit{
		{"a successor", confirms(ref(7, 4), "n"), func(t *api.Table) {
			t.Labels[3] = api.Label{}
			t.Labels[1].Unit, t.Labels[1].Note = 0, "n"
		}, api.OK},
	})
}

func TestNote(t *testing.T) { // P8.3
	long := strings.Repeat("x", 401)
	check(t, example(), []edit{
		{"a true label", notes(trueRef(7), "n"), func(t *api.Table) { t.Labels[0].Note = "n" }, api.OK},
		{"a tentative label", notes(ref(3, 9), "\x00\xff"), func(t *api.Table) { t.Labels[3].Note = "\x00\xff" }, api.OK},
		{"no note", notes(ref(7, 4), ""), func(t *api.Table) { t.Labels[2].Note = "" }, api.OK},
		{"the same note", notes(ref(7, 4), "new"), func(t *api.Table) {}, api.OK},
		{"the longest note", notes(trueRef(7), long[1:]), func(t *api.Table) { t.Labels[0].Note = long[1:] }, api.OK},
		{"no label", notes(trueRef(9), long), nil, api.ErrNotFound},
		{"the Id 0", notes(api.Ref{}, ""), nil, api.ErrNotFound},
		{"a long note", notes(trueRef(7), long), nil, api.ErrArg},
	})
}

func TestRemove(t *testing.T) { // P8.3
	check(t, example(), []edit{
		{"a true label", removes(trueRef(7)), func(t *api.Table) { t.Labels[0] = api.Label{} }, api.OK},
		{"a successor", removes(ref(7, 4)), func(t *api.Table) { t.Labels[2] = api.Label{} }, api.OK},
		{"a tentative label", removes(ref(3, 9)), func(t *api.Table) { t.Labels[3] = api.Label{} }, api.OK},
		{"no label", removes(ref(7, 9)), nil, api.ErrNotFound},
		{"no true label", removes(trueRef(3)), nil, api.ErrNotFound},
		{"the Id 0", removes(api.Ref{}), nil, api.ErrNotFound},
	})
}

func TestInvalidTables(t *testing.T) { // Errors: ErrArg comes first
	calls := []func(t api.Table) (api.Table, api.Errno){
		func(t api.Table) (api.Table, api.Errno) { return contents.Create(t, ref(1, 1), "", "", 1) },
		extends(ref(3, 9), 1), extends(trueRef(99), 1), releases(ref(3, 9), 1), releases(trueRef(99), 1), replaces(ref(3, 9), runs(13, 2)...), replaces(trueRef(99)), confirms(ref(3, 9), ""), confirms(trueRef(99), ""), notes(ref(3, 9), ""), notes(trueRef(99), ""), removes(ref(3, 9)), removes(trueRef(99)),
	}
	for what, x := range invalid() {
		for i, f := range calls {
			got, e := f(x)
			if !equal(got, api.Table{}) || e != api.ErrArg {
				t.Errorf("%s, call %d: %v, error %d", what, i, got, e)
			}
		}
	}
}
