package space_test

import (
	"math"
	"math/rand"
	"slices"
	"testing"

	"dasd/api"
	"dasd/extent"
	"dasd/space"
)

// runs returns the runs of pairs of numbers.
func runs(l ...int) []api.Run {
	var out []api.Run
	for pair := range slices.Chunk(l, 2) {
		out = append(out, api.Run{From: pair[0], Count: pair[1]})
	}
	return out
}

// example returns the free runs of the chapter.
func example() []api.Run { return runs(10, 4, 20, 2, 30, 3) }

// singles returns n extents of one track each: 40, 42, and so on.
func singles(n int) []api.Run {
	var l []api.Run
	for i := range n {
		l = append(l, api.Run{From: 40 + 2*i, Count: 1})
	}
	return l
}

// randomRuns returns up to most runs, which may overlap, touch each other, or have no tracks; few of them are large. Sometimes there are many small ones besides.
func randomRuns(random *rand.Rand, most int) []api.Run {
	var l []api.Run
	span := []int{16, 60, 132}[random.Intn(3)]
	for range random.Intn(most + 1) {
		l = append(l, api.Run{From: random.Intn(span) - 2, Count: random.Intn(6) - 1})
	}
	switch random.Intn(8) {
	case 0:
		l = append(l, api.Run{From: random.Intn(128), Count: math.MaxInt})
	case 1:
		l = append(l, api.Run{From: math.MinInt, Count: math.MaxInt})
	case 2:
		for range 45 {
			l = append(l, api.Run{From: random.Intn(130), Count: random.Intn(2) + 1})
		}
	}
	return l
}

// best returns the best run for n tracks, found as the definition says it; its Count is 0 if there is none.
func best(free []api.Run, n int) api.Run {
	var found api.Run
	for _, r := range extent.Normal(free...) {
		if r.Count >= n && (found.Count == 0 || r.Count < found.Count) {
			found = r
		}
	}
	return found
}

// largest returns the first of the runs with the greatest Count.
func largest(l []api.Run) api.Run {
	var found api.Run
	for _, r := range l {
		if r.Count > found.Count {
			found = r
		}
	}
	return found
}

// allocated returns n tracks, chosen as the definition says it, or none.
func allocated(free []api.Run, n, most int) []api.Run {
	if r := best(free, n); r.Count > 0 {
		return runs(r.From, n)
	}
	var chosen []api.Run
	left := extent.Normal(free...)
	for ; n > 0; most-- {
		r := largest(left)
		if r.Count == 0 || most == 0 {
			return nil
		}
		left = slices.DeleteFunc(left, func(x api.Run) bool { return x == r })
		r.Count = min(r.Count, n)
		chosen = append(chosen, r)
		n -= r.Count
	}
	return chosen
}

// extended returns extents with n further tracks, track by track as the definition says it, or none.
func extended(extents, free []api.Run, n int) []api.Run {
	tracks := extent.Join(extents...)
	most := api.MaxExtents - len(tracks)
	for n > 0 {
		last, _ := extent.At(tracks, extent.Size(tracks...)-1)
		if !extent.Contains(free, last+1) || extent.Contains(tracks, last+1) {
			break
		}
		tracks = extent.Join(append(tracks, api.Run{From: last + 1, Count: 1})...)
		n--
	}
	if n == 0 {
		return tracks
	}
	further := []api.Run{}
	if most > 0 {
		further = allocated(extent.Minus(free, tracks), n, most)
	}
	if len(further) == 0 {
		return nil
	}
	return extent.Join(append(tracks, further...)...)
}

// same checks runs and an error.
func same(t *testing.T, what string, got []api.Run, e api.Errno, want []api.Run, wanted api.Errno) {
	t.Helper()
	if !slices.Equal(got, want) || e != wanted {
		t.Errorf("%s: %v, error %d, not %v, error %d", what, got, e, want, wanted)
	}
}

func TestFree(t *testing.T) { // P6.1
	for _, x := range []struct {
		first, last int
		used, want  []api.Run
	}{
		{0, 0, nil, nil},
		{0, 1, nil, runs(0, 1)},
		{5, 5, nil, nil},
		{6, 5, nil, nil},
		{0, 128, nil, runs(0, 128)},
		{0, 129, nil, runs(0, 128)},
		{-1, 128, nil, runs(0, 128)},
		{127, 128, nil, runs(127, 1)},
		{127, 127, nil, nil},
		{128, 129, nil, nil},
		{-5, 0, nil, nil},
		{-5, 1, nil, runs(0, 1)},
		{math.MinInt, math.MaxInt, nil, runs(0, 128)},
		{math.MaxInt, math.MinInt, nil, nil},
		{5, math.MinInt, nil, nil},
		{130, math.MinInt, nil, nil},
		{math.MinInt, math.MinInt, nil, nil},
		{math.MaxInt, math.MaxInt, nil, nil},
		{2, 20, runs(5, 3), runs(2, 3, 8, 12)},
		{2, 20, runs(9, 3, 5, 3, 8, 2), runs(2, 3, 12, 8)},
		{2, 20, runs(0, 4, 19, 9), runs(4, 15)},
		{2, 20, runs(2, 18), nil},
		{2, 20, runs(-5, math.MaxInt), nil},
		{2, 20, runs(7, 0, 9, -4, 20, 5, -9, 3), runs(2, 18)},
	} {
		same(t, "free tracks", space.Free(x.first, x.last, x.used...), api.OK, x.want, api.OK)
	}
	random := rand.New(rand.NewSource(9))
	for range 500 {
		used := randomRuns(random, 6)
		first, last := random.Intn(140)-5, random.Intn(140)-5
		free := space.Free(first, last, used...)
		if !extent.Valid(free...) {
			t.Errorf("free from %d to %d without %v: %v", first, last, used, free)
		}
		for track := -6; track < 136; track++ {
			want := track >= max(first, 0) && track < min(last, 128) && !extent.Contains(used, track)
			if extent.Contains(free, track) != want {
				t.Errorf("free from %d to %d without %v: %d is %v", first, last, used, track, !want)
			}
		}
	}
}

func TestBest(t *testing.T) { // P6.2
	for _, x := range []struct {
		free []api.Run
		n    int
		want api.Run
		ok   bool
	}{
		{example(), 3, api.Run{From: 30, Count: 3}, true}, // the example of the chapter
		{example(), 1, api.Run{From: 20, Count: 1}, true},
		{example(), 4, api.Run{From: 10, Count: 4}, true},
		{example(), 5, api.Run{}, false},
		{example(), 0, api.Run{}, false},
		{example(), -1, api.Run{}, false},
		{example(), math.MinInt, api.Run{}, false},
		{example(), math.MaxInt, api.Run{}, false},
		{nil, 1, api.Run{}, false},
		{nil, 0, api.Run{}, false},
		{runs(30, 3, 10, 3, 20, 3), 2, api.Run{From: 10, Count: 2}, true},
		{runs(30, 9, 10, 5, 20, 5), 4, api.Run{From: 10, Count: 4}, true},
		{runs(22, 2, 20, 2, 30, 3), 4, api.Run{From: 20, Count: 4}, true}, // two runs that touch each other are one free run
		{runs(20, 2, 22, 2, 30, 3), 2, api.Run{From: 30, Count: 2}, true},
		{runs(126, 9), 2, api.Run{From: 126, Count: 2}, true},
		{runs(126, 9), 3, api.Run{}, false},
		{runs(-3, 5), 2, api.Run{From: 0, Count: 2}, true},
		{runs(-3, 5), 3, api.Run{}, false},
		{runs(0, math.MaxInt), 128, api.Run{From: 0, Count: 128}, true},
		{runs(0, math.MaxInt), 129, api.Run{}, false},
	} {
		if r, ok := space.Best(x.free, x.n); r != x.want || ok != x.ok {
			t.Errorf("best run of %v for %d: %v, %v, not %v, %v", x.free, x.n, r, ok, x.want, x.ok)
		}
	}
	random := rand.New(rand.NewSource(10))
	for range 2000 {
		free, n := randomRuns(random, 12), random.Intn(8)+1
		want := best(free, n)
		found := want.Count > 0
		want.Count = min(want.Count, n)
		if r, ok := space.Best(free, n); r != want || ok != found {
			t.Errorf("best run of %v for %d: %v, %v, not %v, %v", free, n, r, ok, want, found)
		}
	}
}

func TestAllocate(t *testing.T) { // P6.2
	even := runs(10, 2, 20, 3, 30, 2, 40, 3)
	for _, x := range []struct {
		free    []api.Run
		n, most int
		want    []api.Run
		e       api.Errno
	}{
		{example(), 6, 2, runs(10, 4, 30, 2), api.OK}, // the examples of the chapter
		{example(), 6, 1, nil, api.ErrSpace},
		{example(), 3, 1, runs(30, 3), api.OK},
		{example(), 3, 9, runs(30, 3), api.OK},
		{example(), 5, 2, runs(10, 4, 30, 1), api.OK},
		{example(), 7, 2, runs(10, 4, 30, 3), api.OK},
		{example(), 8, 2, nil, api.ErrSpace},
		{example(), 8, 3, runs(10, 4, 30, 3, 20, 1), api.OK},
		{example(), 9, 3, runs(10, 4, 30, 3, 20, 2), api.OK},
		{example(), 9, math.MaxInt, runs(10, 4, 30, 3, 20, 2), api.OK},
		{example(), 10, 3, nil, api.ErrSpace},
		{example(), math.MaxInt, math.MaxInt, nil, api.ErrSpace},
		{even, 4, 2, runs(20, 3, 40, 1), api.OK},
		{even, 7, 3, runs(20, 3, 40, 3, 10, 1), api.OK},
		{even, 9, 4, runs(20, 3, 40, 3, 10, 2, 30, 1), api.OK},
		{runs(40, 3, 30, 2, 12, 1, 20, 3, 10, 2), 9, 4, runs(10, 3, 20, 3, 40, 3), api.OK},
		{nil, 1, 1, nil, api.ErrSpace},
		{runs(5, 0, 200, 9), 1, 16, nil, api.ErrSpace},
		{runs(-9, math.MaxInt), 128, 1, runs(0, 128), api.OK},
		{runs(-9, math.MaxInt), 129, 9, nil, api.ErrSpace},
		{example(), 0, 1, nil, api.ErrArg},
		{example(), -1, 1, nil, api.ErrArg},
		{example(), 1, 0, nil, api.ErrArg},
		{example(), 1, -1, nil, api.ErrArg},
		{example(), math.MinInt, math.MinInt, nil, api.ErrArg},
		{nil, 0, 1, nil, api.ErrArg}, // before ErrSpace
		{nil, 1, 0, nil, api.ErrArg},
	} {
		got, e := space.Allocate(x.free, x.n, x.most)
		same(t, "allocated", got, e, x.want, x.e)
	}
}

func TestManyFreeRuns(t *testing.T) { // P6.2: of equal runs the first one, however many there are
	var free, large []api.Run
	for i := range 32 {
		free = append(free, api.Run{From: 4 * i, Count: 1 + i%2})
		if i%2 == 1 {
			large = append(large, api.Run{From: 4 * i, Count: 2})
		}
	}
	slices.Reverse(free)
	for n := 1; n <= 2; n++ {
		if r, ok := space.Best(free, n); r != (api.Run{From: 4 * (n - 1), Count: n}) || !ok {
			t.Errorf("best run for %d: %v, %v", n, r, ok)
		}
	}
	for n := 2; n <= 16; n++ {
		got, e := space.Allocate(free, 2*n, n)
		same(t, "allocated", got, e, large[:n], api.OK)
		got, e = space.Allocate(free, 2*n+1, n)
		same(t, "allocated", got, e, nil, api.ErrSpace)
	}
	got, e := space.Allocate(free, 34, 18)
	same(t, "allocated", got, e, append(large, runs(0, 1, 8, 1)...), api.OK)
}

func TestAllocateAny(t *testing.T) { // P6.2, P6.6
	random := rand.New(rand.NewSource(11))
	for range 3000 {
		free, n, most := randomRuns(random, 14), random.Intn(30)+1, random.Intn(6)+1
		want := allocated(free, n, most)
		got, e := space.Allocate(free, n, most)
		if len(want) == 0 {
			same(t, "allocated", got, e, nil, api.ErrSpace)
			continue
		}
		same(t, "allocated", got, e, want, api.OK)
		if extent.Size(got...) != n || len(got) > most || !extent.Disjoint(got...) || len(extent.Minus(got, free)) > 0 {
			t.Errorf("%d tracks of %v in %d runs: %v", n, free, most, got)
		}
	}
}

func TestAllocateFails(t *testing.T) { // P6.6: only if the largest free runs that are allowed have fewer tracks
	random := rand.New(rand.NewSource(12))
	for range 500 {
		free, most := randomRuns(random, 14), random.Intn(6)+1
		left, size := extent.Normal(free...), 0
		for range most {
			r := largest(left)
			size += r.Count
			left = extent.Minus(left, []api.Run{r})
		}
		if size > 0 {
			if _, e := space.Allocate(free, size, most); e != api.OK {
				t.Errorf("%d tracks of %v in %d runs: error %d", size, free, most, e)
			}
		}
		if l, e := space.Allocate(free, size+1, most); len(l) > 0 || e != api.ErrSpace {
			t.Errorf("%d tracks of %v in %d runs: %v, error %d", size+1, free, most, l, e)
		}
	}
}

func TestExtend(t *testing.T) { // P6.3
	for _, x := range []struct {
		extents, free []api.Run
		n             int
		want          []api.Run
		e             api.Errno
	}{
		{runs(8, 2), example(), 5, runs(8, 6, 20, 1), api.OK}, // the example of the chapter
		{runs(8, 2), example(), 1, runs(8, 3), api.OK},
		{runs(8, 2), example(), 4, runs(8, 6), api.OK},
		{runs(8, 1), example(), 4, runs(8, 1, 10, 4), api.OK}, // there is a gap
		{runs(8, 1), example(), 5, runs(8, 1, 10, 4, 30, 1), api.OK},
		{runs(8, 2), example(), 9, runs(8, 6, 30, 3, 20, 2), api.OK},
		{runs(8, 2), example(), 10, nil, api.ErrSpace},
		{runs(8, 2), example(), math.MaxInt, nil, api.ErrSpace},
		{runs(8, 2), nil, 1, nil, api.ErrSpace},
		{runs(8, 1, 9, 1), example(), 1, runs(8, 3), api.OK},
		{runs(8, 2, 28, 2), example(), 1, runs(8, 2, 28, 3), api.OK}, // the last track of the sequence counts
		{runs(28, 2, 8, 2), example(), 5, runs(28, 2, 8, 6, 20, 1), api.OK},
		{runs(28, 2, 8, 2), runs(30, 5, 20, 1), 2, runs(28, 2, 8, 2, 30, 2), api.OK},
		{runs(8, 2, 5, 0, 300, 7), example(), 2, runs(8, 4), api.OK},
		{runs(126, 9), runs(127, 9, 5, 1), 1, runs(126, 2, 5, 1), api.OK},
		{runs(126, 1), runs(126, 9, 0, 1), 2, runs(126, 2, 0, 1), api.OK},
		{runs(-3, 4), runs(0, 5), 2, runs(0, 3), api.OK},
		{runs(7, 1), runs(0, math.MaxInt), 127, runs(7, 121, 0, 7), api.OK}, // 120 tracks behind, and 7 in front
		{runs(7, 1), runs(0, math.MaxInt), 126, runs(7, 121, 0, 6), api.OK},
		{runs(7, 1), runs(0, math.MaxInt), 128, nil, api.ErrSpace},
		{runs(10, 2, 12, 1), runs(10, 4, 20, 2), 2, runs(10, 4, 20, 1), api.OK},                      // own tracks are not free
		{runs(10, 1, 12, 1, 11, 1), runs(10, 4, 20, 2), 1, runs(10, 1, 12, 1, 11, 1, 13, 1), api.OK}, // the track behind is an own one, and so the smallest free run is taken
		{runs(10, 4), runs(10, 4), 1, nil, api.ErrSpace},
		{runs(10, 1, 12, 1), runs(10, 4), 1, runs(10, 1, 12, 2), api.OK},
		{runs(10, 2, 10, 2), runs(11, 3), 3, nil, api.ErrSpace},
		{runs(10, 2, 10, 2), runs(11, 3), 2, runs(10, 2, 10, 4), api.OK},
		{nil, example(), 1, nil, api.ErrArg},
		{runs(8, 0, 128, 5, -5, 5), example(), 1, nil, api.ErrArg},
		{runs(8, 2), example(), 0, nil, api.ErrArg},
		{runs(8, 2), example(), -1, nil, api.ErrArg},
		{runs(8, 2), example(), math.MinInt, nil, api.ErrArg},
		{runs(8, 2), nil, 0, nil, api.ErrArg}, // before ErrSpace
		{nil, nil, 1, nil, api.ErrArg},
	} {
		got, e := space.Extend(x.extents, x.free, x.n)
		same(t, "extended", got, e, x.want, x.e)
	}
}

func TestExtendMost(t *testing.T) { // P6.3: at most MaxExtents extents
	for _, x := range []struct {
		extents, free []api.Run
		n             int
		want          []api.Run
		e             api.Errno
	}{
		{singles(15), runs(2, 1, 4, 1), 1, append(singles(15), api.Run{From: 2, Count: 1}), api.OK},
		{singles(15), runs(2, 1, 4, 1), 2, nil, api.ErrSpace},
		{singles(14), runs(2, 1, 4, 1), 2, append(singles(14), runs(2, 1, 4, 1)...), api.OK},
		{singles(16), runs(2, 9), 1, nil, api.ErrSpace},
		{singles(16), runs(2, 9, 71, 2), 2, append(singles(15), api.Run{From: 70, Count: 3}), api.OK},
		{singles(16), runs(2, 9, 71, 2), 3, nil, api.ErrSpace},
		{singles(17), runs(2, 9), 1, nil, api.ErrSpace},
		{append(singles(15), runs(41, 1, 2, 2, 4, 1)...), runs(9, 1), 1, nil, api.ErrSpace},
		// Joined, these are 15 extents.
		{append(singles(14), runs(2, 2, 4, 1)...), runs(9, 1), 1, append(singles(14), runs(2, 3, 9, 1)...), api.OK},
	} {
		got, e := space.Extend(x.extents, x.free, x.n)
		same(t, "extended", got, e, x.want, x.e)
	}
}

func TestExtendAny(t *testing.T) { // P6.3, P6.6
	random := rand.New(rand.NewSource(13))
	ended := 0
	for range 3000 {
		extents, free, n := randomRuns(random, 5), randomRuns(random, 12), random.Intn(12)+1
		if extent.Size(extents...) == 0 {
			continue
		}
		want := extended(extents, free, n)
		got, e := space.Extend(extents, free, n)
		if len(want) == 0 {
			same(t, "extended", got, e, nil, api.ErrSpace)
			continue
		}
		same(t, "extended", got, e, want, api.OK)
		ended++
		joined, size := extent.Join(extents...), extent.Size(extents...)
		kept, added := extent.Cut(got, size)
		same(t, "the old tracks", kept, api.OK, joined, api.OK)
		if extent.Size(added...) != n || !extent.Disjoint(added...) || len(extent.Minus(added, free)) > 0 || len(extent.Common(added, extents)) > 0 {
			t.Errorf("%v with %d of %v: %v", extents, n, free, got)
		}
		kept, released, e := space.Release(got, size)
		same(t, "released again", kept, e, joined, api.OK)
		same(t, "released tracks", released, e, extent.Normal(added...), api.OK)
	}
	if ended < 500 {
		t.Errorf("only %d samples are extended", ended)
	}
}

func TestRelease(t *testing.T) { // P6.4
	l := runs(8, 2, 20, 1, 21, 2, 5, 3)
	for _, x := range []struct {
		extents     []api.Run
		keep        int
		kept, freed []api.Run
		e           api.Errno
	}{
		{l, 1, runs(8, 1), runs(5, 3, 9, 1, 20, 3), api.OK},
		{l, 2, runs(8, 2), runs(5, 3, 20, 3), api.OK},
		{l, 4, runs(8, 2, 20, 2), runs(5, 3, 22, 1), api.OK},
		{l, 7, runs(8, 2, 20, 3, 5, 2), runs(7, 1), api.OK},
		{l, 8, runs(8, 2, 20, 3, 5, 3), nil, api.OK},
		{l, 9, nil, nil, api.ErrRange},
		{l, 0, nil, nil, api.ErrRange},
		{l, -1, nil, nil, api.ErrRange},
		{l, math.MinInt, nil, nil, api.ErrRange},
		{l, math.MaxInt, nil, nil, api.ErrRange},
		{nil, 0, nil, nil, api.ErrRange},
		{nil, 1, nil, nil, api.ErrRange},
		{runs(4, 0, 128, 3), 1, nil, nil, api.ErrRange},
		{runs(-5, 6, 4, 0, 126, 9), 2, runs(0, 1, 126, 1), runs(127, 1), api.OK},
		{runs(-5, 6, 4, 0, 126, 9), 4, nil, nil, api.ErrRange},
		{runs(8, 3, 9, 3), 3, runs(8, 3), runs(11, 1), api.OK}, // a track that is kept does not become free
		{runs(8, 3, 9, 3), 1, runs(8, 1), runs(9, 3), api.OK},
		{runs(8, 3, 8, 3), 3, runs(8, 3), nil, api.OK},
	} {
		kept, freed, e := space.Release(x.extents, x.keep)
		same(t, "kept", kept, e, x.kept, x.e)
		same(t, "freed", freed, e, x.freed, x.e)
	}
	random := rand.New(rand.NewSource(14))
	for range 1000 {
		l := randomRuns(random, 6)
		for keep := range extent.Size(l...) {
			first, others := extent.Cut(l, keep+1)
			kept, freed, e := space.Release(l, keep+1)
			same(t, "kept", kept, e, first, api.OK)
			same(t, "freed", freed, e, extent.Minus(others, first), api.OK)
		}
	}
}

func TestConsolidate(t *testing.T) { // P6.4
	for _, x := range []struct {
		extents, free []api.Run
		want          api.Run
		ok            bool
	}{
		{runs(50, 1, 60, 2), example(), api.Run{From: 30, Count: 3}, true},
		{runs(50, 1, 60, 1), example(), api.Run{From: 20, Count: 2}, true},
		{runs(50, 2, 60, 3), example(), api.Run{}, false},
		{runs(50, 1, 60, 2), runs(10, 7, 30, 5), api.Run{From: 30, Count: 3}, true},
		{runs(50, 1, 60, 2), nil, api.Run{}, false},
		{runs(50, 3), example(), api.Run{}, false},
		{runs(50, 1, 51, 2), example(), api.Run{}, false}, // joined, it is one extent
		{runs(50, 1, 70, 0, 51, 2), example(), api.Run{}, false},
		{runs(50, 3, 128, 4), example(), api.Run{}, false},
		{runs(51, 2, 50, 1), example(), api.Run{From: 30, Count: 3}, true},
		{nil, example(), api.Run{}, false},
		{runs(50, 0, 128, 2), example(), api.Run{}, false},
		{runs(10, 1, 12, 2), example(), api.Run{From: 30, Count: 3}, true}, // own tracks are not free
		{runs(30, 1, 50, 2), example(), api.Run{From: 10, Count: 3}, true},
		{runs(30, 1, 11, 2), example(), api.Run{}, false},
		{runs(50, 2, 50, 2), example(), api.Run{From: 10, Count: 4}, true}, // tracks count as often as they occur
		{runs(126, math.MaxInt, 0, 1), runs(0, math.MaxInt), api.Run{From: 1, Count: 3}, true},
	} {
		if r, ok := space.Consolidate(x.extents, x.free); r != x.want || ok != x.ok {
			t.Errorf("%v among %v: %v, %v, not %v, %v", x.extents, x.free, r, ok, x.want, x.ok)
		}
	}
	random := rand.New(rand.NewSource(15))
	for range 1000 {
		extents, free := randomRuns(random, 4), randomRuns(random, 10)
		n := extent.Size(extents...)
		want := best(extent.Minus(free, extents), n)
		found := want.Count > 0 && len(extent.Join(extents...)) > 1
		if !found {
			want, n = api.Run{}, 0
		}
		want.Count = n
		if r, ok := space.Consolidate(extents, free); r != want || ok != found {
			t.Errorf("%v among %v: %v, %v, not %v, %v", extents, free, r, ok, want, found)
		}
	}
}

func TestLargestFragments(t *testing.T) { // P6.5
	for _, x := range []struct {
		free                   []api.Run
		largest, runs, percent int
	}{
		{nil, 0, 0, 0},
		{runs(3, 0, 128, 4, -2, 2), 0, 0, 0},
		{runs(3, 4), 4, 1, 0},
		{example(), 4, 3, 55},                    // 5 of 9
		{runs(1, 1, 3, 1, 5, 1), 1, 3, 66},       // 2 of 3
		{runs(1, 2, 9, 1), 2, 2, 33},             // 1 of 3
		{runs(9, 2, 7, 2, 20, 1), 4, 2, 20},      // two runs that touch each other are one free run
		{runs(9, 2, 9, 2), 2, 1, 0},              // tracks count once
		{runs(0, 99, 100, 1), 99, 2, 1},          // 1 of 100
		{runs(0, 126, 127, 1), 126, 2, 0},        // 1 of 127
		{runs(0, math.MaxInt), 128, 1, 0},        // only existing tracks count
		{runs(-5, 6, 126, 9), 2, 2, 33},          // 1 of 3
		{runs(0, 1, 2, 126), 126, 2, 0},          // 1 of 127
		{runs(0, 2, 3, 2, 6, 2, 9, 2), 2, 4, 75}, // 6 of 8
	} {
		if n := space.Largest(x.free); n != x.largest {
			t.Errorf("largest of %v: %d", x.free, n)
		}
		if n, percent := space.Fragments(x.free); n != x.runs || percent != x.percent {
			t.Errorf("fragments of %v: %d, %d, not %d, %d", x.free, n, percent, x.runs, x.percent)
		}
	}
	random := rand.New(rand.NewSource(16))
	for range 1000 {
		free := randomRuns(random, 10)
		l := extent.Normal(free...)
		size, most := extent.Size(l...), largest(l).Count
		if space.Largest(free) != most {
			t.Errorf("largest of %v: %d", free, space.Largest(free))
		}
		n, percent := space.Fragments(free)
		if n != len(l) || size > 0 && percent != (size-most)*100/size || size == 0 && percent != 0 {
			t.Errorf("fragments of %v: %d, %d", free, n, percent)
		}
	}
}

// spoil overwrites runs, and the memory behind them.
func spoil(l []api.Run) {
	l = l[:cap(l)]
	for i := range l {
		l[i] = api.Run{From: -7, Count: -7}
	}
}

func TestMemory(t *testing.T) { // Guarantees: arguments are not modified, and results are newly allocated
	random := rand.New(rand.NewSource(17))
	for range 1000 {
		// With room behind them, a careless append would write into the memory of the arguments.
		extents, free := slices.Grow(randomRuns(random, 5), 4), slices.Grow(randomRuns(random, 12), 4)
		room := [][]api.Run{extents[:cap(extents)], free[:cap(free)]}
		want := [][]api.Run{slices.Clone(room[0]), slices.Clone(room[1])}
		n := random.Intn(9) + 1
		space.Best(free, n)
		space.Consolidate(extents, free)
		space.Largest(free)
		space.Fragments(free)
		spoil(space.Free(0, 128, free...))
		l, _ := space.Allocate(free, n, 3)
		spoil(l)
		l, _ = space.Extend(extents, free, n)
		spoil(l)
		kept, freed, _ := space.Release(extents, n)
		again := slices.Clone(freed)
		spoil(kept)
		same(t, "freed", freed, api.OK, again, api.OK)
		spoil(freed)
		for i := range room {
			if !slices.Equal(room[i], want[i]) {
				t.Errorf("argument %d: %v, not %v", i, room[i], want[i])
			}
		}
	}
}

// bytesRuns returns runs of bytes, two of them a run.
func bytesRuns(s []byte) []api.Run {
	var l []api.Run
	for i := 0; i+1 < len(s); i += 2 {
		l = append(l, api.Run{From: int(int8(s[i])) + 60, Count: int(int8(s[i+1]))})
	}
	return l
}

func FuzzSpace(f *testing.F) { // P1, P6.1 to P6.6
	f.Add([]byte{}, []byte{1, 2}, 1, 1)
	f.Add([]byte{200, 5, 205, 3, 0, 0}, []byte{66, 9, 80, 9}, 7, 2)
	f.Fuzz(func(t *testing.T, x, y []byte, n, most int) {
		extents, free := bytesRuns(x), bytesRuns(y)
		got, e := space.Allocate(free, n, most)
		if n < 1 || most < 1 {
			same(t, "allocated", got, e, nil, api.ErrArg)
		} else if want := allocated(free, n, most); len(want) == 0 {
			same(t, "allocated", got, e, nil, api.ErrSpace)
		} else {
			same(t, "allocated", got, e, want, api.OK)
		}
		got, e = space.Extend(extents, free, n)
		if n < 1 || extent.Size(extents...) == 0 {
			same(t, "extended", got, e, nil, api.ErrArg)
		} else if want := extended(extents, free, n); len(want) == 0 {
			same(t, "extended", got, e, nil, api.ErrSpace)
		} else {
			same(t, "extended", got, e, want, api.OK)
		}
		space.Free(n, most, free...)
		space.Release(extents, n)
		space.Consolidate(extents, free)
		space.Fragments(free)
	})
}
