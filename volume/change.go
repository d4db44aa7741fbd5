package volume

import (
	"slices"

	"dasd/api"
	"dasd/contents"
	"dasd/space"
)

// Write writes sectors of a label, all or none of them.
func (v *Volume) Write(r api.Ref, writes ...api.SectorWrite) api.Errno {
	return v.change(r, writes, func(t api.Table) (api.Table, api.Errno) {
		_, e := find(t, r)
		return t, e
	})
}

// Create makes a tentative label with a recovery record, and writes sectors of it.
func (v *Volume) Create(r api.Ref, name, note string, tracks int, writes ...api.SectorWrite) api.Errno {
	return v.change(r, writes, func(t api.Table) (api.Table, api.Errno) {
		return contents.Create(t, r, name, note, tracks)
	})
}

// Extend gives a label further tracks.
func (v *Volume) Extend(r api.Ref, tracks int) api.Errno {
	return v.change(r, nil, func(t api.Table) (api.Table, api.Errno) { return contents.Extend(t, r, tracks) })
}

// Release takes the tracks of a label behind its first ones.
func (v *Volume) Release(r api.Ref, keep int) api.Errno {
	return v.change(r, nil, func(t api.Table) (api.Table, api.Errno) { return contents.Release(t, r, keep) })
}

// Confirm makes a tentative label the true one with a recovery record, and writes sectors of it.
func (v *Volume) Confirm(r api.Ref, note string, writes ...api.SectorWrite) api.Errno {
	confirmed := api.Ref{Id: r.Id}
	return v.change(confirmed, writes, func(t api.Table) (api.Table, api.Errno) { return contents.Confirm(t, r, note) })
}

// Note changes the recovery record of a label, and writes sectors of it.
func (v *Volume) Note(r api.Ref, note string, writes ...api.SectorWrite) api.Errno {
	return v.change(r, writes, func(t api.Table) (api.Table, api.Errno) { return contents.Note(t, r, note) })
}

// Remove removes a label.
func (v *Volume) Remove(r api.Ref) api.Errno {
	return v.change(r, nil, func(t api.Table) (api.Table, api.Errno) { return contents.Remove(t, r) })
}

// Consolidate moves a label to a single extent, and reports whether it has moved.
func (v *Volume) Consolidate(r api.Ref) (bool, api.Errno) {
	t, e := v.Table()
	if e != api.OK {
		return false, e
	}
	l, e := find(t, r)
	if e != api.OK {
		return false, e
	}
	run, ok := space.Consolidate(l.Extents, contents.Free(t))
	if !ok {
		return false, api.OK
	}
	if e := v.copyTo(run, l); e != api.OK {
		return false, e
	}
	e = v.change(r, nil, func(t api.Table) (api.Table, api.Errno) { return contents.Replace(t, r, run) })
	return e == api.OK, e
}

// change commits a change of the table, with writes of sectors of the label that r names in the new table.
func (v *Volume) change(r api.Ref, writes []api.SectorWrite, to func(t api.Table) (api.Table, api.Errno)) api.Errno {
	before, e := v.Table()
	if e != api.OK {
		return e
	}
	after, e := to(before)
	if e != api.OK {
		return e
	}
	// A label that was removed has no sectors, but then there are no writes either.
	l, _ := contents.Find(after, r)
	list, e := placed(l, writes)
	if e != api.OK {
		return e
	}
	return v.store.Commit(append(contents.Changes(before, after), list...)...)
}

// copyTo writes the sectors of a label to those of a run of as many free tracks. All of them are read first, so that nothing is written if one of them cannot be read.
func (v *Volume) copyTo(run api.Run, l api.Label) api.Errno {
	data, e := v.load(l, 0, sectorsOf(l))
	if e != api.OK {
		return e
	}
	writes := make([]api.SectorWrite, len(data))
	for i, s := range data {
		writes[i] = api.SectorWrite{Sector: run.From*api.TrackSectors + i, Data: s}
	}
	return inLists(writes, v.store.Commit)
}

// placed returns writes of sectors of a label as writes of data sectors, if they are right.
func placed(l api.Label, writes []api.SectorWrite) ([]api.SectorWrite, api.Errno) {
	sectors := make([]int, len(writes))
	for i, w := range writes {
		if len(w.Data) != api.SectorSize {
			return nil, api.ErrArg
		}
		sectors[i] = w.Sector
	}
	slices.Sort(sectors)
	if len(slices.Compact(sectors)) < len(writes) {
		return nil, api.ErrArg
	}
	list := slices.Clone(writes)
	for i, w := range writes {
		n, ok := contents.Sector(l, w.Sector)
		if !ok {
			return nil, api.ErrRange
		}
		list[i].Sector = n
	}
	return list, api.OK
}

// inLists commits writes, in their order, in lists that are as long as a list may be.
func inLists(writes []api.SectorWrite, commit func(l ...api.SectorWrite) api.Errno) api.Errno {
	for list := range slices.Chunk(writes, api.MaxCommit) {
		if e := commit(list...); e != api.OK {
			return e
		}
	}
	return api.OK
}
