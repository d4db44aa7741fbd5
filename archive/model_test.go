package archive_test

import (
	"encoding/binary"
	"hash/crc32"
	"math/rand"
	"slices"
	"strings"

	"dasd/api"
)

// The functions of this file say once more, step by step, what the definitions say.

// summed returns bytes and their sum.
func summed(s string) string {
	sum := crc32.Checksum([]byte(s), crc32.MakeTable(crc32.Castagnoli))
	return string(binary.LittleEndian.AppendUint32([]byte(s), sum))
}

// frameOf returns the frame with a byte of marks and with data.
func frameOf(number int, marks byte, data string) string {
	s := binary.LittleEndian.AppendUint16(nil, uint16(number))
	s = append(s, marks, byte(len(data)))
	s = append(s, data...)
	return summed(string(append(s, make([]byte, 60-len(s))...)))
}

// framesOf returns the frames of items.
func framesOf(items ...string) []string {
	var l []string
	for _, item := range items {
		for at := 0; at < len(item); at += 56 {
			marks := byte(0)
			if at == 0 {
				marks |= 1
			}
			if at+56 >= len(item) {
				marks |= 2
			}
			l = append(l, frameOf(len(l), marks, item[at:min(at+56, len(item))]))
		}
	}
	return l
}

// number returns the encoding of a number.
func number(n int) string { return string(binary.AppendUvarint(nil, uint64(n))) }

// text returns the encoding of a text.
func text(s string) string { return number(len(s)) + s }

// truth returns the encoding of a truth value.
func truth(b bool) string {
	if b {
		return "\x01"
	}
	return "\x00"
}

// firstItem returns the first item of an archive with a number of pairs.
func firstItem(a api.Archive, count int) string {
	d := a.Set
	s := number(d.Id) + number(d.Org) + number(d.Format) + number(d.Length) + number(d.Block)
	s += number(d.KeyAt) + number(d.KeyLength) + number(d.Interval) + number(d.Area) + number(d.FreeInterval) + number(d.FreeArea)
	s += number(d.Base) + number(d.AltAt) + number(d.AltLength) + truth(d.Unique) + number(d.Class)
	s += text(d.Volume) + text(d.Owner) + number(d.Created) + number(d.Expires) + truth(d.Archived)
	return s + number(a.Number) + number(count)
}

// firstOf returns the archive without pairs and the number of pairs of a first item.
func firstOf(item string) (api.Archive, int, bool) {
	a, count, left := api.Archive{}, 0, []byte(item)
	take := func() int {
		n, used := binary.Uvarint(left)
		if used <= 0 || n > api.MaxNumber {
			left = nil
			return 0
		}
		left = left[used:]
		return int(n)
	}
	cut := func() string {
		n := min(take(), len(left))
		s := string(left[:n])
		left = left[n:]
		return s
	}
	d, l := &a.Set, numbersOf(&a)
	for _, n := range l[:14] {
		*n = take()
	}
	d.Unique, d.Class = take() == 1, take()
	d.Volume, d.Owner = cut(), cut()
	d.Created, d.Expires = take(), take()
	d.Archived, a.Number = take() == 1, take()
	count = take()
	if firstItem(a, count) != item || len(d.Volume) > 31 || len(d.Owner) > 31 || count > 1024 {
		return api.Archive{}, 0, false
	}
	return a, count, true
}

// pairItem returns the item of a pair.
func pairItem(p api.Pair) string { return text(p.Key) + text(p.Record) }

// encoded returns the frames of an archive, one by one.
func encoded(a api.Archive) []string {
	items := []string{firstItem(a, len(a.Pairs))}
	for _, p := range a.Pairs {
		items = append(items, pairItem(p))
	}
	return framesOf(items...)
}

// numbersOf returns the places of all integer fields of an archive.
func numbersOf(a *api.Archive) []*int {
	d := &a.Set
	return []*int{&d.Id, &d.Org, &d.Format, &d.Length, &d.Block, &d.KeyAt, &d.KeyLength, &d.Interval, &d.Area, &d.FreeInterval, &d.FreeArea, &d.Base, &d.AltAt, &d.AltLength, &d.Class, &d.Created, &d.Expires, &a.Number}
}

// same reports whether two archives are equal.
func same(a, b api.Archive) bool {
	x, y := numbersOf(&a), numbersOf(&b)
	for i := range x {
		if *x[i] != *y[i] {
			return false
		}
	}
	c, d := a.Set, b.Set
	return c.Unique == d.Unique && c.Archived == d.Archived && c.Volume == d.Volume && c.Owner == d.Owner && slices.Equal(a.Pairs, b.Pairs)
}

// parsed is a frame that was read.
type parsed struct {
	number int
	marks  byte
	data   string
}

// parse returns the frame that 64 bytes are.
func parse(s string) (parsed, bool) {
	if len(s) != 64 || summed(s[:60]) != s || s[2] > 3 || s[3] < 1 || s[3] > 56 {
		return parsed{}, false
	}
	end := 4 + int(s[3])
	return parsed{int(binary.LittleEndian.Uint16([]byte(s))), s[2], s[4:end]}, strings.Trim(s[end:60], "\x00") == ""
}

// saved are the items that are there, in the order of their first frames, and whether the frame 0 begins the first of them.
func saved(s string) ([]string, bool) {
	frames, most := map[int]parsed{}, 0
	for ; len(s) >= 64; s = s[64:] {
		f, ok := parse(s[:64])
		if _, twice := frames[f.number]; ok && !twice {
			frames[f.number], most = f, max(most, f.number)
		}
	}
	var items []string
	zero := false
	for from := range most + 1 {
		var item strings.Builder
		for at := from; ; at++ {
			f, ok := frames[at]
			if !ok || (f.marks&1 == 1) != (at == from) {
				break
			}
			item.WriteString(f.data)
			if f.marks&2 == 2 {
				items = append(items, item.String())
				zero = zero || from == 0
				break
			}
		}
	}
	return items, zero
}

// someText returns a text of at most most bytes.
func someText(random *rand.Rand, most int) string {
	data := make([]byte, random.Intn(most>>random.Intn(6)+1))
	if random.Intn(8) > 0 {
		random.Read(data)
	}
	return string(data)
}

// someArchive returns a valid archive with at most most pairs.
func someArchive(random *rand.Rand, most int) api.Archive {
	var a api.Archive
	bits := random.Intn(41)
	for _, n := range numbersOf(&a) {
		*n = random.Intn(api.MaxNumber+1) >> bits
	}
	d := &a.Set
	d.Unique, d.Archived = random.Intn(2) == 0, random.Intn(2) == 0
	d.Volume, d.Owner = someText(random, 31), someText(random, 31)
	for range random.Intn(most + 1) {
		a.Pairs = append(a.Pairs, api.Pair{Key: someText(random, 32), Record: someText(random, 1000)})
	}
	return a
}
