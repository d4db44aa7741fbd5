package sequential_test

import (
	"math/rand"
	"slices"
	"strings"
	"testing"

	"dasd/api"
	"dasd/sequential"
)

// randomSet returns a valid description.
func randomSet(random *rand.Rand) api.DataSet {
	for {
		x := set(random.Intn(3), 1+random.Intn(1000>>random.Intn(10)), 1+random.Intn(1024>>random.Intn(5)))
		if fit(x) {
			return x
		}
	}
}

// randomRecords returns at most most records that are allowed.
func randomRecords(random *rand.Rand, x api.DataSet, most int) []string {
	l := make([]string, random.Intn(most+1))
	for i := range l {
		data := make([]byte, x.Length)
		if random.Intn(4) > 0 {
			random.Read(data)
		}
		if x.Format != api.Fixed {
			data = data[:random.Intn(x.Length>>random.Intn(10)+1)]
		}
		l[i] = string(data)
	}
	return l
}

func TestGroups(t *testing.T) { // P13.2 to P13.5: in whichever groups records are appended
	random := rand.New(rand.NewSource(13))
	for range 600 {
		x := randomSet(random)
		w, e := sequential.Format(x, 1)
		p, ok := sectors{}.with(w)
		if e != api.OK || !ok {
			t.Fatalf("%v: %v, error %d", x, w, e)
		}
		var all []string
		for number := range 12 {
			group := randomRecords(random, x, 6)
			given := slices.Clone(group)
			all = append(all, given...)
			want := built(x, number, all)
			if n, e := sequential.Need(x, p, group...); n != len(want) || e != api.OK {
				t.Fatalf("%v: %d sectors, error %d, not %d", x, n, e, len(want))
			}
			w, e := sequential.Append(x, p, number, group...)
			if e != api.OK || !slices.Equal(w, changed(p, want)) || !slices.Equal(group, given) || len(group) == 1 && len(w) > 20 {
				t.Fatalf("%v, %q: %v, error %d", x, group, w, e)
			}
			if p, ok = p.with(w); !ok || !slices.Equal(p, want) {
				t.Fatalf("%v, %q: %q, not %q", x, all, p, want)
			}
			clear(w)
		}
		checkContent(t, random, x, p, all)
	}
}

// checkContent checks what the functions that read say of sectors with records.
func checkContent(t *testing.T, random *rand.Rand, x api.DataSet, p sectors, records []string) {
	t.Helper()
	given := slices.Clone(p)
	w, e := sequential.Build(x, 11, records...)
	if e != api.OK || !slices.Equal(w, changed(nil, p)) {
		t.Fatalf("%v, %q: %v, error %d", x, records, w, e)
	}
	blocks, e := sequential.Blocks(x, p)
	if e != api.OK || !slices.Equal(blocks, packed(x, records)) {
		t.Fatalf("%v, %q: %q, error %d", x, records, blocks, e)
	}
	l, e := sequential.Records(x, p)
	if e != api.OK || !slices.Equal(l, records) {
		t.Fatalf("%v: %q, error %d, not %q", x, l, e, records)
	}
	clear(l)
	clear(blocks)
	key, n := "", 0
	for ; ; n++ {
		k, s, e := sequential.Next(x, p, key)
		if e == api.ErrNotFound {
			break
		}
		if e != api.OK || n >= len(records) || k != placeOf(n+1) || s != records[n] {
			t.Fatalf("%v, %q: %q, %q, error %d", x, records, k, s, e)
		}
		key = k
	}
	if n != len(records) {
		t.Fatalf("%v: %d records, not %d", x, n, len(records))
	}
	for range 5 {
		n := random.Intn(len(records) + 3)
		s, e := sequential.Get(x, p, placeOf(n))
		if found := n >= 1 && n <= len(records); found && (s != records[n-1] || e != api.OK) || !found && (s != "" || e != api.ErrNotFound) {
			t.Fatalf("%v, %d: %q, error %d", x, n, s, e)
		}
	}
	if !slices.Equal(p, given) {
		t.Fatalf("%v: the sectors have changed", x)
	}
}

func TestFewChanges(t *testing.T) { // P13.5: appending one record changes at most 20 sectors
	long := strings.Repeat("x", 1000)
	for format := range 3 {
		for block := 32; block <= api.MaxBlock; block += 31 {
			for _, length := range []int{1, block / 2, block - 8, block, 1000} {
				x := set(format, length, block)
				if !fit(x) {
					continue
				}
				p := built(x, 0, nil)
				for number := range 5 {
					w, e := sequential.Append(x, p, number, long[:length])
					if e != api.OK || len(w) > 20 {
						t.Errorf("%v: %d sectors, error %d", x, len(w), e)
					}
					p, _ = p.with(w)
				}
			}
		}
	}
}

// smallSets returns descriptions with small records.
func smallSets() []api.DataSet {
	return []api.DataSet{set(api.Fixed, 1, 1), set(api.Fixed, 1, 2), set(api.Fixed, 2, 5), set(api.Variable, 2, 10), set(api.Variable, 2, 15), set(api.Spanned, 2, 32)}
}

// smallLists returns all lists of at most most records of bytes a and zeros.
func smallLists(x api.DataSet, most int) [][]string {
	var records []string
	for _, s := range []string{"", "a", "\x00", "aa", "a\x00", "\x00a", "\x00\x00"} {
		if allowed(x, s) {
			records = append(records, s)
		}
	}
	lists := [][]string{nil}
	for from := 0; from < len(lists); from++ {
		for _, s := range records {
			if len(lists[from]) < most {
				lists = append(lists, append(slices.Clone(lists[from]), s))
			}
		}
	}
	return lists
}

func TestSmall(t *testing.T) { // P13.1 to P13.4: all short lists, appended to each other
	for _, x := range smallSets() {
		lists := smallLists(x, 3)
		for _, before := range lists {
			p := built(x, 1, before)
			if l, e := sequential.Records(x, p); !slices.Equal(l, before) || e != api.OK {
				t.Errorf("%v, %q: %q, error %d", x, before, l, e)
			}
			for _, added := range lists {
				if len(before)+len(added) > 4 {
					break
				}
				want := built(x, 2, slices.Concat(before, added))
				if w, e := sequential.Append(x, p, 2, added...); e != api.OK || !slices.Equal(w, changed(p, want)) {
					t.Errorf("%v, %q and %q: %v, error %d", x, before, added, w, e)
				}
			}
		}
	}
}

// checkReading checks that sectors which can be read are those of their records, and returns whether they can be read.
func checkReading(t *testing.T, x api.DataSet, p sectors) bool {
	t.Helper()
	number, count, size, e := sequential.Head(p)
	if e != api.OK {
		checkErrors(t, x, p, e)
		return false
	}
	records, e := sequential.Records(x, p)
	if e != api.OK {
		checkErrors(t, x, p, e)
		return false
	}
	want := built(x, number, records)
	if count != len(records) || size != len(streamOf(packed(x, records)...)) || len(p) < len(want) || !slices.Equal(p[:len(want)], want) {
		t.Errorf("%v, %q: %q", x, p, records)
	}
	return true
}

func TestDamage(t *testing.T) { // P13.2, P11: each byte of the sectors; what can be read is what Build returns
	for _, x := range smallSets() {
		found := map[string]bool{}
		lists := smallLists(x, 3)
		for _, records := range lists {
			p := built(x, 1, records)
			found[strings.Join(p, "")] = true
		}
		for _, records := range lists[len(lists)-9:] {
			p := built(x, 1, records)
			for i := range p {
				for at := range 128 {
					for _, b := range []byte{0, 1, 2, 3, 4, 5, 6, 8, 9, 10, 11, 12, 14, 16, 32, 'a', 127, 128, 255, p[i][at] + 1, p[i][at] - 1} {
						q := slices.Clone(p)
						q[i] = q[i][:at] + string([]byte{b}) + q[i][at+1:]
						got, e := sequential.Records(x, q)
						ok := checkReading(t, x, q)
						if known := found[strings.Join(q, "")]; ok != (e == api.OK) || known && !ok {
							t.Errorf("%v, %q: %q, error %d", x, q, got, e)
						}
					}
				}
			}
		}
	}
}

func FuzzRecords(f *testing.F) { // P1, P13.2, P11: what can be read is what Build returns
	f.Add(0, 3, 6, headOf(9, 2, 8), filled("\x06\x00abcdef"), "abc", "")
	f.Add(1, 4, 14, headOf(0, 2, 16), filled("\x0e\x00\x00\x0e\x00\x00\x00\x06\x00\x00ab\x00\x04\x00\x00"), "", placeOf(1))
	f.Add(2, 40, 32, headOf(9, 1, 45), filled("\x20\x00\x00\x20\x00\x00\x00\x1c\x01\x00abcdefghijklmnopqrstuvwx\x09\x00\x00\x09\x00\x00\x00\x05\x02\x00y"), "z", placeOf(0))
	f.Add(-1, 0, 0, "", "", "", "x")
	f.Fuzz(func(t *testing.T, format, length, block int, a, b, record, key string) {
		x := set(format, length, block)
		p := sectors{a, b}
		if !fit(x) {
			checkErrors(t, x, p, api.ErrArg)
			return
		}
		w, e := sequential.Append(x, p, 3, record)
		if !allowed(x, record) {
			if e != api.ErrRange || len(w) > 0 {
				t.Errorf("%v, %q: %v, error %d", x, record, w, e)
			}
			return
		}
		if ok := checkReading(t, x, p); ok != (e == api.OK) {
			t.Errorf("%v, %q: %v, error %d", x, record, w, e)
		}
		if e != api.OK {
			return
		}
		l, _ := sequential.Records(x, p)
		before := built(x, 3, l)
		if !slices.Equal(w, changed(before, built(x, 3, append(slices.Clone(l), record)))) {
			t.Errorf("%v, %q and %q: %v", x, l, record, w)
		}
		n := 0
		for n < len(l) && placeOf(n+1) <= key {
			n++
		}
		k, s, e := sequential.Next(x, p, key)
		if n < len(l) && (k != placeOf(n+1) || s != l[n] || e != api.OK) || n == len(l) && (k != "" || s != "" || e != api.ErrNotFound) {
			t.Errorf("%v, %q: next %q, %q, error %d", x, key, k, s, e)
		}
		s, e = sequential.Get(x, p, key)
		if found := n > 0 && placeOf(n) == key; found && (s != l[n-1] || e != api.OK) || !found && (s != "" || e != api.ErrNotFound) {
			t.Errorf("%v, %q: %q, error %d", x, key, s, e)
		}
	})
}
