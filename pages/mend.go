package pages

import (
	"math"

	"dasd/api"
	"dasd/device"
)

// Mend rebuilds unreadable sectors of the top and the map from the versions below them, and returns their number.
func Mend(d *device.Device, w api.Writer) (int, api.Errno) {
	if !fits(d, w) {
		return 0, api.ErrArg
	}
	s := &Store{device: d, writer: w}
	if _, e := s.Finish(); e != api.OK {
		return 0, e
	}
	v := newView(d)
	bad := v.badMaps()
	if v.top.code == api.OK && len(bad) == 0 {
		return 0, api.OK
	}
	versions, greatest := readableVersions(d)
	if greatest == math.MaxUint32 {
		return 0, api.ErrTooLarge
	}
	entries := directory(versions, bad, greatest+1)
	if e := s.run(append(s.place(entries), s.sync())); e != api.OK {
		return 0, e
	}
	return len(entries), api.OK
}

// badMaps returns the numbers of the map sectors that are not readable or, as far as the top can tell, stale.
func (v *view) badMaps() []int {
	var bad []int
	look := v.mapPage
	if v.top.code != api.OK {
		look = func(k int) page { return load(v.device, mapIndex+k) }
	}
	for k := range api.MapSectors {
		if look(k).code != api.OK {
			bad = append(bad, k)
		}
	}
	return bad
}

// readableVersions returns the versions of all sectors of a device that are readable, 0 for others and for those of the intent, and the greatest one.
func readableVersions(d *device.Device) ([]uint32, uint32) {
	versions := make([]uint32, d.Sectors())
	greatest := uint32(0)
	for index := range versions {
		if placed(d, index) {
			versions[index] = load(d, index).version
			greatest = max(greatest, versions[index])
		}
	}
	return versions, greatest
}

// directory returns new contents of map sectors and of the top, by the versions of the sectors of the device, in which it notes those of the new map sectors.
func directory(versions []uint32, maps []int, number uint32) []entry {
	var entries []entry
	for _, k := range maps {
		from := min(dataIndex+k*api.MapVersions, len(versions))
		to := min(from+api.MapVersions, len(versions))
		entries = append(entries, newEntry(numbers(versions[from:to]), number, mapIndex+k))
		versions[mapIndex+k] = number
	}
	top := numbers(versions[mapIndex : mapIndex+api.MapSectors])
	return append(entries, newEntry(top, number, topIndex))
}

// numbers returns the data of a sector that consists of numbers.
func numbers(list []uint32) string {
	var data [api.SectorSize]byte
	for i, n := range list {
		setNumber(data[:], i, n)
	}
	return string(data[:])
}
