package pages

import (
	"strings"

	"dasd/api"
	"dasd/checksum"
	"dasd/device"
)

// mostEntries is the number of sectors of a device that hold entries of an intent.
const mostEntries = dataIndex - entryIndex

// The numbers in the data of the head of an intent, of which there are headNumbers.
const (
	headNumber = iota
	headCount
	headSum
	headNumbers
)

// entry is a raw sector with the index of the sector that it is written to.
type entry struct {
	index int
	raw   string
}

// newEntry returns the entry of a sector.
func newEntry(data string, version uint32, index int) entry {
	return entry{index: index, raw: Pack(data, version, index)}
}

// head returns the content of the head of an intent.
func head(entries []entry, number uint32) string {
	var data [api.SectorSize]byte
	setNumber(data[:], headNumber, number)
	setNumber(data[:], headCount, uint32(len(entries)))
	setNumber(data[:], headSum, sum(entries))
	return Pack(string(data[:]), number, headIndex)
}

// sum returns the sum of the contents of entries, one behind the other.
func sum(entries []entry) uint32 {
	n := uint32(0)
	for _, x := range entries {
		n = checksum.Update(n, x.raw)
	}
	return n
}

// unfinished returns the entries of an unfinished intent; there are none if there is no such intent.
func unfinished(d *device.Device) ([]entry, api.Errno) {
	p := load(d, headIndex)
	if p.code == api.ErrCorrupt {
		return nil, api.OK
	}
	if p.code != api.OK {
		return nil, p.code
	}
	count := countOf(p)
	if count == 0 {
		return nil, api.OK
	}
	top := load(d, topIndex)
	if top.code == api.OK && p.version != top.version && uint64(p.version) != uint64(top.version)+1 {
		return nil, api.OK
	}
	entries, e := readEntries(d, count, p.version)
	if e != api.OK || sum(entries) != numberIn(p.data, headSum) {
		return nil, e
	}
	return entries, api.OK
}

// countOf returns the number of entries that the head of an intent says, 0 if it is no head of an intent.
func countOf(p page) int {
	count := numberIn(p.data, headCount)
	rest := p.data[numberSize*headNumbers:]
	if p.version != numberIn(p.data, headNumber) || count > mostEntries || strings.Trim(rest, "\x00") != "" {
		return 0
	}
	return int(count)
}

// readEntries returns the entries of an intent, none if one of them is not an entry.
func readEntries(d *device.Device, count int, number uint32) ([]entry, api.Errno) {
	entries := make([]entry, count)
	for i := range entries {
		raw, e := d.Read(entryIndex + i)
		if e != api.OK {
			return nil, e
		}
		index := ownIndex(raw)
		_, version, e := Unpack(raw, index)
		if e != api.OK || version != number || !placed(d, index) {
			return nil, api.OK
		}
		entries[i] = entry{index: index, raw: raw}
	}
	return entries, api.OK
}

// placed reports whether a sector may be written by an intent: the top, the map, and data sectors.
func placed(d *device.Device, index int) bool {
	return index >= topIndex && index < headIndex || index >= dataIndex && index < d.Sectors()
}
