package extent_test

import (
	"math"
	"math/rand"
	"slices"
	"testing"

	"dasd/api"
	"dasd/extent"
)

// runs returns the runs of pairs of numbers.
func runs(l ...int) []api.Run {
	var out []api.Run
	for pair := range slices.Chunk(l, 2) {
		out = append(out, api.Run{From: pair[0], Count: pair[1]})
	}
	return out
}

// in reports whether a track exists and is in a run, as the definition says it.
func in(r api.Run, track int) bool {
	if track < 0 || track > 127 || track < r.From || r.Count < 1 {
		return false
	}
	// The difference can be greater than the greatest int.
	return uint64(track)-uint64(r.From) < uint64(r.Count)
}

// sequence returns the sequence of a list, as the definition says it.
func sequence(l []api.Run) []int {
	var out []int
	for _, r := range l {
		for track := range 128 {
			if in(r, track) {
				out = append(out, track)
			}
		}
	}
	return out
}

// existing reports whether runs contain existing tracks only, and each of them at least one.
func existing(l []api.Run) bool {
	return !slices.ContainsFunc(l, func(r api.Run) bool {
		return r.Count < 1 || r.Count > 128 || r.From < 0 || r.From > 128-r.Count
	})
}

// normal reports whether runs are a set in its normal form, as the definition says it.
func normal(l []api.Run) bool {
	if !existing(l) {
		return false
	}
	for i := 1; i < len(l); i++ {
		if l[i].From <= l[i-1].From+l[i-1].Count {
			return false
		}
	}
	return true
}

// joined reports whether a list contains existing tracks only, and no run continues the one before.
func joined(l []api.Run) bool {
	if !existing(l) {
		return false
	}
	for i := 1; i < len(l); i++ {
		if l[i].From == l[i-1].From+l[i-1].Count {
			return false
		}
	}
	return true
}

// extremes contains numbers around all bounds.
func extremes() []int {
	return []int{math.MinInt, math.MinInt + 1, math.MinInt + 127, math.MinInt + 128, math.MinInt + 129, -1000, -129, -128, -127, -1, 0, 1, 126, 127, 128, 129, 1000, math.MaxInt - 128, math.MaxInt - 127, math.MaxInt - 126, math.MaxInt - 1, math.MaxInt}
}

// samples contains lists of runs: none, all single ones with numbers around the bounds, all short ones of small numbers, and random ones that overlap and touch each other.
func samples() [][]api.Run {
	list := [][]api.Run{nil, {}}
	for _, from := range extremes() {
		for _, count := range extremes() {
			list = append(list, runs(from, count), runs(5, 2, from, count, 7, 1))
		}
	}
	small := []api.Run{}
	for from := -1; from <= 3; from++ {
		for count := -1; count <= 3; count++ {
			small = append(small, api.Run{From: from, Count: count})
		}
	}
	for _, a := range small {
		for _, b := range small {
			list = append(list, []api.Run{a, b}, []api.Run{{From: a.From + 125, Count: a.Count}, {From: b.From + 125, Count: b.Count}})
		}
	}
	random := rand.New(rand.NewSource(6))
	for range 1500 {
		list = append(list, randomList(random))
	}
	return list
}

// randomList returns runs most of which lie close together.
func randomList(random *rand.Rand) []api.Run {
	span := []int{6, 20, 140}[random.Intn(3)]
	shift := []int{-3, 0, 50, 118}[random.Intn(4)]
	var l []api.Run
	for range random.Intn(9) {
		l = append(l, api.Run{From: random.Intn(span) + shift, Count: random.Intn(6) - 1})
		if random.Intn(4) == 0 {
			last := l[len(l)-1]
			l = append(l, api.Run{From: last.From + last.Count, Count: random.Intn(4)})
		}
		if random.Intn(20) == 0 {
			l[len(l)-1].Count = extremes()[random.Intn(len(extremes()))]
		}
	}
	return l
}

// same checks runs.
func same(t *testing.T, what string, l []api.Run, got, want []api.Run) {
	t.Helper()
	if !slices.Equal(got, want) {
		t.Errorf("%s of %v: %v, not %v", what, l, got, want)
	}
}

func TestNormal(t *testing.T) { // P5.1
	for _, x := range []struct{ l, want []api.Run }{
		{nil, nil},
		{runs(5, 2, 3, 2, 9, 1, -1, 2), runs(0, 1, 3, 4, 9, 1)}, // the example of the chapter
		{runs(7, 1), runs(7, 1)},
		{runs(7, 1, 7, 1), runs(7, 1)},
		{runs(7, 1, 8, 1), runs(7, 2)},
		{runs(7, 1, 9, 1), runs(7, 1, 9, 1)},
		{runs(9, 1, 7, 1), runs(7, 1, 9, 1)},
		{runs(9, 1, 7, 1, 8, 1), runs(7, 3)},
		{runs(2, 9, 4, 2), runs(2, 9)},
		{runs(7, 0), nil},
		{runs(7, -1), nil},
		{runs(-1, 1), nil},
		{runs(-1, 2), runs(0, 1)},
		{runs(127, 1), runs(127, 1)},
		{runs(127, 2), runs(127, 1)},
		{runs(128, 1), nil},
		{runs(0, 128), runs(0, 128)},
		{runs(1, 127, 0, 1), runs(0, 128)},
		{runs(-1, 130), runs(0, 128)},
		{runs(0, math.MaxInt), runs(0, 128)},
		{runs(127, math.MaxInt), runs(127, 1)},
		{runs(128, math.MaxInt), nil},
		{runs(math.MaxInt, math.MaxInt), nil},
		{runs(-1, math.MaxInt), runs(0, 128)},
		{runs(-math.MaxInt+3, math.MaxInt), runs(0, 3)},
		{runs(-math.MaxInt, math.MaxInt), nil},
		{runs(math.MinInt, math.MaxInt), nil},
		{runs(math.MinInt, math.MinInt), nil},
		{runs(-1, math.MinInt), nil},
		{runs(5, math.MinInt), nil},
	} {
		same(t, "Normal", x.l, extent.Normal(x.l...), x.want)
	}
	for _, l := range samples() {
		got := extent.Normal(l...)
		want := sequence(l)
		slices.Sort(want)
		if !normal(got) || !slices.Equal(sequence(got), slices.Compact(want)) {
			t.Errorf("%v: %v", l, got)
		}
		same(t, "Normal again", l, extent.Normal(got...), got)
	}
}

func TestValid(t *testing.T) { // P5.1
	for _, x := range []struct {
		l    []api.Run
		want bool
	}{
		{nil, true},
		{[]api.Run{}, true},
		{runs(0, 128), true},
		{runs(0, 1, 2, 1, 127, 1), true},
		{runs(3, 2, 6, 1), true},
		{runs(3, 2, 5, 1), false},
		{runs(3, 2, 4, 1), false},
		{runs(6, 1, 3, 2), false},
		{runs(3, 2, 3, 2), false},
		{runs(3, 0), false},
		{runs(3, 2, 0, 0), false},
		{runs(3, -1), false},
		{runs(-1, 2), false},
		{runs(127, 2), false},
		{runs(128, 1), false},
		{runs(-1, 1), false},
		{runs(0, 129), false},
		{runs(0, math.MaxInt), false},
	} {
		if extent.Valid(x.l...) != x.want {
			t.Errorf("%v: %v", x.l, !x.want)
		}
	}
	valid := 0
	for _, l := range samples() {
		if extent.Valid(l...) != normal(l) {
			t.Errorf("%v: %v", l, !normal(l))
		}
		if normal(l) {
			valid++
		}
	}
	if valid < 100 {
		t.Errorf("only %d samples are valid", valid)
	}
}

func TestContains(t *testing.T) { // P5.2
	for _, l := range samples() {
		tracks := sequence(l)
		for track := -3; track < 132; track++ {
			if extent.Contains(l, track) != slices.Contains(tracks, track) {
				t.Errorf("%d in %v: %v", track, l, !slices.Contains(tracks, track))
			}
		}
		for _, track := range extremes() {
			if extent.Contains(l, track) != slices.Contains(tracks, track) {
				t.Errorf("%d in %v: %v", track, l, !slices.Contains(tracks, track))
			}
		}
	}
}

// setsOf checks Union, Common and Minus of two lists.
func setsOf(t *testing.T, a, b []api.Run) {
	t.Helper()
	inA, inB := sequence(a), sequence(b)
	for _, x := range []struct {
		what string
		got  []api.Run
		want func(x, y bool) bool
	}{
		{"union", extent.Union(a, b), func(x, y bool) bool { return x || y }},
		{"common part", extent.Common(a, b), func(x, y bool) bool { return x && y }},
		{"difference", extent.Minus(a, b), func(x, y bool) bool { return x && !y }},
	} {
		var want []int
		for track := range 128 {
			if x.want(slices.Contains(inA, track), slices.Contains(inB, track)) {
				want = append(want, track)
			}
		}
		if !normal(x.got) || !slices.Equal(sequence(x.got), want) {
			t.Errorf("%s of %v and %v: %v", x.what, a, b, x.got)
		}
	}
}

func TestUnionCommonMinus(t *testing.T) { // P5.2
	a, b := runs(4, 3, 10, 2, 5, 1), runs(12, 1, 6, 2, -5, 6)
	same(t, "union", a, extent.Union(a, b), runs(0, 1, 4, 4, 10, 3))
	same(t, "common part", a, extent.Common(a, b), runs(6, 1))
	same(t, "difference", a, extent.Minus(a, b), runs(4, 2, 10, 2))
	same(t, "difference", b, extent.Minus(b, a), runs(0, 1, 7, 1, 12, 1))
	all := runs(math.MinInt, math.MaxInt, -1, math.MaxInt)
	same(t, "union", all, extent.Union(all, a), runs(0, 128))
	same(t, "difference", all, extent.Minus(all, a), runs(0, 4, 7, 3, 12, 116))
	list := samples()
	random := rand.New(rand.NewSource(7))
	for _, a := range list {
		setsOf(t, a, nil)
		setsOf(t, nil, a)
		setsOf(t, a, a)
		setsOf(t, a, list[random.Intn(len(list))])
	}
}

func TestSizeDisjoint(t *testing.T) { // P5.3
	for _, x := range []struct {
		l        []api.Run
		size     int
		disjoint bool
	}{
		{nil, 0, true},
		{runs(3, 2), 2, true},
		{runs(3, 2, 5, 1), 3, true},
		{runs(5, 1, 3, 2), 3, true},
		{runs(3, 2, 4, 1), 3, false},
		{runs(3, 2, 3, 2), 4, false},
		{runs(3, 2, 9, 1, 2, 2), 5, false},
		{runs(3, 0, 3, -1, 3, 0), 0, true},
		{runs(-9, 9, -9, 9), 0, true},
		{runs(128, 9, 128, 9), 0, true},
		{runs(126, 9, 128, 9), 2, true},
		{runs(-9, 10, 0, 1), 2, false},
		{runs(0, math.MaxInt, 0, math.MaxInt), 256, false},
		{runs(0, math.MaxInt, math.MaxInt, math.MaxInt), 128, true},
	} {
		if n := extent.Size(x.l...); n != x.size {
			t.Errorf("size of %v: %d", x.l, n)
		}
		if extent.Disjoint(x.l...) != x.disjoint {
			t.Errorf("%v disjoint: %v", x.l, !x.disjoint)
		}
	}
	for _, l := range samples() {
		tracks := sequence(l)
		if n := extent.Size(l...); n != len(tracks) {
			t.Errorf("size of %v: %d", l, n)
		}
		slices.Sort(tracks)
		disjoint := len(slices.Compact(slices.Clone(tracks))) == len(tracks)
		if extent.Disjoint(l...) != disjoint {
			t.Errorf("%v disjoint: %v", l, !disjoint)
		}
	}
}

// found checks a result of At or Index.
func found(t *testing.T, what string, l []api.Run, argument, n int, ok bool, want int, wanted bool) {
	t.Helper()
	if n != want || ok != wanted {
		t.Errorf("%s %d of %v: %d, %v, not %d, %v", what, argument, l, n, ok, want, wanted)
	}
}

func TestAtIndex(t *testing.T) { // P5.4
	l := runs(5, 2, 7, 1, 3, 2)
	n, ok := extent.At(l, 3) // the example of the chapter
	found(t, "index", l, 3, n, ok, 3, true)
	l = runs(9, 2, -1, 3, 8, 3)
	i, ok := extent.Index(l, 10) // the first one of two
	found(t, "track", l, 10, i, ok, 1, true)
	i, ok = extent.Index(l, 8)
	found(t, "track", l, 8, i, ok, 4, true)
	for _, l := range samples() {
		tracks := sequence(l)
		for i, track := range tracks {
			n, ok := extent.At(l, i)
			found(t, "index", l, i, n, ok, track, true)
		}
		for _, i := range append(extremes(), len(tracks)) {
			if i < 0 || i >= len(tracks) {
				n, ok := extent.At(l, i)
				found(t, "index", l, i, n, ok, 0, false)
			}
		}
		for track := range 128 {
			i, ok := extent.Index(l, track)
			found(t, "track", l, track, i, ok, max(slices.Index(tracks, track), 0), slices.Contains(tracks, track))
		}
		for _, track := range extremes() {
			if track < 0 || track > 127 {
				i, ok := extent.Index(l, track)
				found(t, "track", l, track, i, ok, 0, false)
			}
		}
	}
}

func TestJoin(t *testing.T) { // P5.5
	for _, x := range []struct{ l, want []api.Run }{
		{nil, nil},
		{runs(5, 2, 7, 1, 3, 2), runs(5, 3, 3, 2)}, // the example of the chapter
		{runs(5, 2), runs(5, 2)},
		{runs(5, 2, 5, 2), runs(5, 2, 5, 2)},
		{runs(5, 2, 6, 2), runs(5, 2, 6, 2)},
		{runs(5, 2, 8, 1), runs(5, 2, 8, 1)},
		{runs(5, 2, 4, 1), runs(5, 2, 4, 1)},
		{runs(5, 1, 6, 1, 7, 1, 6, 1, 7, 1), runs(5, 3, 6, 2)},
		{runs(5, 0, 5, -3, -1, 1, 128, 1), nil},
		{runs(5, 2, 7, 0, 7, 1), runs(5, 3)}, // a run without tracks separates nothing
		{runs(5, 2, 128, 1, 7, 1), runs(5, 3)},
		{runs(7, 0, 7, 1), runs(7, 1)},
		{runs(126, 9, 127, 9), runs(126, 2, 127, 1)},
		{runs(126, 9, 128, 1, 0, 1), runs(126, 2, 0, 1)},
		{runs(0, 1, -5, 7), runs(0, 1, 0, 2)},
		{runs(-5, 7, 2, 1), runs(0, 3)},
		{runs(0, 5, 5, math.MaxInt), runs(0, 128)},
	} {
		same(t, "Join", x.l, extent.Join(x.l...), x.want)
	}
	for _, l := range samples() {
		got := extent.Join(l...)
		if !joined(got) || !slices.Equal(sequence(got), sequence(l)) {
			t.Errorf("%v: %v", l, got)
		}
		same(t, "Join again", l, extent.Join(got...), got)
	}
}

func TestCut(t *testing.T) { // P5.5
	l := runs(5, 2, 9, 0, 7, 1, 3, 2)
	for _, x := range []struct {
		n             int
		first, others []api.Run
	}{
		{math.MinInt, nil, runs(5, 3, 3, 2)},
		{-1, nil, runs(5, 3, 3, 2)},
		{0, nil, runs(5, 3, 3, 2)},
		{1, runs(5, 1), runs(6, 2, 3, 2)},
		{2, runs(5, 2), runs(7, 1, 3, 2)},
		{3, runs(5, 3), runs(3, 2)},
		{4, runs(5, 3, 3, 1), runs(4, 1)},
		{5, runs(5, 3, 3, 2), nil},
		{6, runs(5, 3, 3, 2), nil},
		{math.MaxInt, runs(5, 3, 3, 2), nil},
	} {
		first, others := extent.Cut(l, x.n)
		same(t, "first part", l, first, x.first)
		same(t, "second part", l, others, x.others)
	}
	for _, l := range samples() {
		tracks := sequence(l)
		for _, n := range []int{math.MinInt, -1, 0, 1, 2, 3, len(tracks) / 2, len(tracks) - 1, len(tracks), len(tracks) + 1, math.MaxInt} {
			first, others := extent.Cut(l, n)
			at := min(max(n, 0), len(tracks))
			if !joined(first) || !slices.Equal(sequence(first), tracks[:at]) {
				t.Errorf("first %d of %v: %v", n, l, first)
			}
			if !joined(others) || !slices.Equal(sequence(others), tracks[at:]) {
				t.Errorf("behind %d of %v: %v", n, l, others)
			}
		}
	}
}

func TestConsequences(t *testing.T) { // P5.6
	list := samples()
	random := rand.New(rand.NewSource(8))
	for _, a := range list {
		b := list[random.Intn(len(list))]
		x, y := extent.Normal(a...), extent.Normal(b...)
		if extent.Size(extent.Union(x, y)...)+extent.Size(extent.Common(x, y)...) != extent.Size(x...)+extent.Size(y...) {
			t.Errorf("sizes of %v and %v", a, b)
		}
		shuffled := slices.Clone(a)
		random.Shuffle(len(a), func(i, j int) { shuffled[i], shuffled[j] = shuffled[j], shuffled[i] })
		same(t, "other order", a, extent.Normal(shuffled...), x)
		n := random.Intn(extent.Size(a...) + 1)
		first, others := extent.Cut(a, n)
		same(t, "cut and joined", a, extent.Join(append(first, others...)...), extent.Join(a...))
	}
}

// spoil overwrites runs, and the memory behind them.
func spoil(l []api.Run) {
	l = l[:cap(l)]
	for i := range l {
		l[i] = api.Run{From: -7, Count: -7}
	}
}

func TestMemory(t *testing.T) { // Guarantees: arguments are not modified, and results are newly allocated
	for _, l := range samples() {
		a, b := slices.Clone(l), slices.Clone(l)
		extent.Valid(a...)
		extent.Size(a...)
		extent.Contains(a, 3)
		extent.Disjoint(a...)
		extent.At(a, 3)
		extent.Index(a, 3)
		for _, result := range [][]api.Run{extent.Normal(a...), extent.Join(a...), extent.Union(a, b), extent.Common(a, b), extent.Minus(a, b), extent.Minus(a, nil)} {
			spoil(result)
		}
		for _, n := range []int{-1, 0, 1, extent.Size(l...), math.MaxInt} {
			first, others := extent.Cut(a, n)
			want := slices.Clone(others)
			spoil(first)
			same(t, "second part", l, others, want)
			first, others = extent.Cut(a, n)
			want = slices.Clone(first)
			spoil(others)
			same(t, "first part", l, first, want)
		}
		same(t, "argument", l, a, l)
		same(t, "argument", l, b, l)
	}
}

// bytesRuns returns runs of bytes, two of them a run.
func bytesRuns(s []byte) []api.Run {
	var l []api.Run
	for i := 0; i+1 < len(s); i += 2 {
		l = append(l, api.Run{From: int(int8(s[i])) + 60, Count: int(int8(s[i+1]))})
	}
	return l
}

func FuzzSets(f *testing.F) { // P1, P5.1 to P5.6
	f.Add([]byte{}, []byte{1, 2}, 0)
	f.Add([]byte{200, 5, 205, 3, 0, 0}, []byte{66, 9, 67, 9}, 7)
	f.Fuzz(func(t *testing.T, x, y []byte, n int) {
		a, b := bytesRuns(x), bytesRuns(y)
		setsOf(t, a, b)
		if extent.Valid(a...) != normal(a) {
			t.Errorf("%v: %v", a, !normal(a))
		}
		first, others := extent.Cut(a, n)
		if !joined(first) || !joined(others) || !slices.Equal(append(sequence(first), sequence(others)...), sequence(a)) {
			t.Errorf("%v at %d: %v and %v", a, n, first, others)
		}
		same(t, "cut and joined", a, extent.Join(append(first, others...)...), extent.Join(a...))
		i, ok := extent.Index(a, n)
		track, there := extent.At(a, i)
		if ok && (!there || track != n) || ok != slices.Contains(sequence(a), n) {
			t.Errorf("%v: track %d has the index %d, %v", a, n, i, ok)
		}
	})
}
