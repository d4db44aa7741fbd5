package pages

import (
	"math"

	"dasd/api"
	"dasd/device"
)

// Where the parts of a device begin.
const (
	topIndex   = 0
	mapIndex   = topIndex + 1
	headIndex  = mapIndex + api.MapSectors
	entryIndex = headIndex + 1
	dataIndex  = api.SystemSectors
)

// page is what a sector of a device contains, or the reason why it cannot be told.
type page struct {
	data    string
	version uint32
	code    api.Errno
}

// load reads a sector by itself, whatever the others say about it. A device fails only while it is written, so behind a finished intent the code is OK or ErrCorrupt.
func load(d *device.Device, index int) page {
	raw, e := d.Read(index)
	if e != api.OK {
		return page{code: e}
	}
	data, version, e := Unpack(raw, index)
	return page{data: data, version: version, code: e}
}

// view reads the data sectors of a device by way of the top and the map. It reads each map sector once, so it serves for one call only.
type view struct {
	device *device.Device
	top    page
	maps   [api.MapSectors]page
	loaded [api.MapSectors]bool
}

// newView returns a view of a device.
func newView(d *device.Device) *view { return &view{device: d, top: load(d, topIndex)} }

// mapPage returns a map sector.
func (v *view) mapPage(k int) page {
	if !v.loaded[k] {
		v.maps[k] = v.below(v.top, k, mapIndex+k)
		v.loaded[k] = true
	}
	return v.maps[k]
}

// dataPage returns a data sector.
func (v *view) dataPage(sector int) page {
	return v.below(v.mapPage(sector/api.MapVersions), sector%api.MapVersions, dataIndex+sector)
}

// below returns the sector whose version the page above tells at the place i.
func (v *view) below(above page, i, index int) page {
	if above.code != api.OK {
		return page{code: above.code}
	}
	p := load(v.device, index)
	if p.code == api.OK && p.version != numberIn(above.data, i) {
		return page{code: api.ErrStale}
	}
	return p
}

// check returns the error that the top and the map are the reason of, for writes in increasing order of their sectors.
func (v *view) check(writes []api.SectorWrite) api.Errno {
	for _, w := range writes {
		if p := v.mapPage(w.Sector / api.MapVersions); p.code != api.OK {
			return p.code
		}
	}
	if v.top.version == math.MaxUint32 {
		return api.ErrTooLarge
	}
	return api.OK
}

// entries returns the entries of writes that have passed check, and the number of their list.
func (v *view) entries(writes []api.SectorWrite) ([]entry, uint32) {
	number := v.top.version + 1
	top := []byte(v.top.data)
	var maps [api.MapSectors][]byte
	var data []entry
	for _, w := range writes {
		k := w.Sector / api.MapVersions
		if maps[k] == nil {
			maps[k] = []byte(v.mapPage(k).data)
			setNumber(top, k, number)
		}
		setNumber(maps[k], w.Sector%api.MapVersions, number)
		data = append(data, newEntry(w.Data, number, dataIndex+w.Sector))
	}
	list := []entry{newEntry(string(top), number, topIndex)}
	for k, m := range maps {
		if m != nil {
			list = append(list, newEntry(string(m), number, mapIndex+k))
		}
	}
	return append(list, data...), number
}
