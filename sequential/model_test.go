package sequential_test

import (
	"encoding/binary"
	"slices"
	"strings"

	"dasd/api"
)

// The functions of this file say once more, step by step, what the definitions say.

// set returns a description.
func set(format, length, block int) api.DataSet {
	return api.DataSet{Org: api.Sequential, Format: format, Length: length, Block: block}
}

// fit reports whether a description is valid.
func fit(x api.DataSet) bool {
	if x.Org != 0 || x.Length < 1 || x.Length > 1000 || x.Block > 1024 {
		return false
	}
	switch x.Format {
	case 0:
		return x.Block >= x.Length
	case 1:
		return x.Block >= x.Length+8
	case 2:
		return x.Block >= 32
	}
	return false
}

// allowed reports whether a record is allowed.
func allowed(x api.DataSet, record string) bool {
	return len(record) == x.Length || x.Format != 0 && len(record) < x.Length
}

// word returns two bytes, the more significant one first.
func word(n int) string { return string(binary.BigEndian.AppendUint16(nil, uint16(n))) }

// sealed returns the block of the formats Variable and Spanned with a content.
func sealed(body string) string { return word(len(body)+4) + "\x00\x00" + body }

// part returns the form of a segment with a code, or (with the code 0) of a record of the format Variable.
func part(code byte, data string) string {
	return word(len(data)+4) + string([]byte{code, 0}) + data
}

// packed returns the blocks of records.
func packed(x api.DataSet, records []string) []string {
	var l []string
	for _, record := range records {
		switch x.Format {
		case 0:
			if len(l) == 0 || len(l[len(l)-1])+len(record) > x.Block {
				l = append(l, "")
			}
			l[len(l)-1] += record
		case 1:
			if len(l) == 0 || len(l[len(l)-1])+4+len(record) > x.Block {
				l = append(l, sealed(""))
			}
			l[len(l)-1] = sealed(l[len(l)-1][4:] + part(0, record))
		case 2:
			l = spread(l, record, x.Block)
		}
	}
	return l
}

// spread puts a record behind blocks of the format Spanned.
func spread(l []string, record string, block int) []string {
	if n := len(l); n > 0 {
		room := block - len(l[n-1])
		if room >= 4+len(record) {
			l[n-1] = sealed(l[n-1][4:] + part(0, record))
			return l
		}
		if room >= 5 {
			l[n-1] = sealed(l[n-1][4:] + part(1, record[:room-4]))
			return finish(l, record[room-4:], block)
		}
	}
	if len(record)+8 <= block {
		return append(l, sealed(part(0, record)))
	}
	return finish(append(l, sealed(part(1, record[:block-8]))), record[block-8:], block)
}

// finish puts the rest of a record into blocks of its own.
func finish(l []string, rest string, block int) []string {
	for len(rest)+8 > block {
		l = append(l, sealed(part(3, rest[:block-8])))
		rest = rest[block-8:]
	}
	return append(l, sealed(part(2, rest)))
}

// streamOf returns the stream of blocks.
func streamOf(blocks ...string) string {
	s := ""
	for _, data := range blocks {
		s += string(binary.LittleEndian.AppendUint16(nil, uint16(len(data)))) + data
	}
	return s
}

// filled returns a sector that begins with a text.
func filled(s string) string { return (s + strings.Repeat("\x00", 128))[:128] }

// headOf returns a head.
func headOf(numbers ...uint64) string {
	var s []byte
	for _, n := range numbers {
		s = binary.AppendUvarint(s, n)
	}
	return filled(string(s))
}

// sectorsOf returns the sectors with a head and a stream.
func sectorsOf(number, count int, stream string) sectors {
	l := sectors{headOf(uint64(number), uint64(count), uint64(len(stream)))}
	for at := 0; at < len(stream); at += 128 {
		l = append(l, filled(stream[at:min(at+128, len(stream))]))
	}
	return l
}

// built returns the sectors of a data set.
func built(x api.DataSet, number int, records []string) sectors {
	return sectorsOf(number, len(records), streamOf(packed(x, records)...))
}

// placeOf returns the place of the n-th record.
func placeOf(n int) string { return string(binary.BigEndian.AppendUint64(nil, uint64(n))) }

// sectors are the pages of a data set; there are no others.
type sectors []string

// Page returns a sector.
func (l sectors) Page(n int) (string, api.Errno) {
	if n < 0 || n >= len(l) {
		return "", api.ErrRange
	}
	return l[n], api.OK
}

// with returns the sectors with writes; it fails if a sector is left out, or if the writes are not in increasing order.
func (l sectors) with(writes []api.SectorWrite) (sectors, bool) {
	l = slices.Clone(l)
	last := -1
	for _, w := range writes {
		if w.Sector <= last || w.Sector > len(l) || len(w.Data) != 128 {
			return nil, false
		}
		if last = w.Sector; last == len(l) {
			l = append(l, "")
		}
		l[last] = w.Data
	}
	return l, true
}

// changed returns the writes that make sectors of others: the head, and the sectors that are new or different.
func changed(before, after sectors) []api.SectorWrite {
	var writes []api.SectorWrite
	for i, s := range after {
		if i == 0 || i >= len(before) || before[i] != s {
			writes = append(writes, api.SectorWrite{Sector: i, Data: s})
		}
	}
	return writes
}

// broken are sectors of which one has an error instead, also if it does not exist.
type broken struct {
	l    sectors
	at   int
	code api.Errno
}

// Page returns a sector or the error.
func (b broken) Page(n int) (string, api.Errno) {
	if n == b.at {
		return "", b.code
	}
	return b.l.Page(n)
}
