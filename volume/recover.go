package volume

import (
	"strings"

	"dasd/api"
	"dasd/contents"
	"dasd/device"
	"dasd/label"
	"dasd/pages"
)

// Recover makes the table of contents of a volume readable again, and returns how many of its slots were lost.
func Recover(d *device.Device, w api.Writer, name string) (int, api.Errno) {
	t, e := contents.New(name, tracksOf(d))
	if e != api.OK {
		return 0, e
	}
	if _, e := pages.Mend(d, w); e != api.OK {
		return 0, e
	}
	s, e := pages.Open(d, w)
	if e != api.OK {
		return 0, e
	}
	found, e := survivors(s, tableSectors(t.Tracks))
	if e != api.OK {
		return 0, e
	}
	lost := collect(t, found)
	if e := inLists(differences(found, contents.Sectors(t)), s.Commit); e != api.OK {
		return 0, e
	}
	return lost, api.OK
}

// survivors returns the contents of sectors, with the empty text for each one that cannot be read.
func survivors(s *pages.Store, sectors []int) ([]string, api.Errno) {
	found := make([]string, len(sectors))
	for i, sector := range sectors {
		data, e := s.Read(sector)
		if e != api.OK && e != api.ErrCorrupt && e != api.ErrStale {
			return nil, e
		}
		found[i] = data
	}
	return found, api.OK
}

// collect puts the labels that have survived in the sectors of a table into the slots of an empty one, and returns the number of the lost slots.
func collect(t api.Table, found []string) int {
	lost := 0
	for i := range t.Labels {
		from := (i + 1) * api.TrackSectors // behind the head
		// Without all of its sectors, a slot is too short to be one.
		l, e := label.Decode(strings.Join(found[from:from+api.TrackSectors], ""), t.Tracks)
		t.Labels[i] = l
		if e != api.OK || !contents.Valid(t) {
			t.Labels[i] = api.Label{}
			lost++
		}
	}
	return lost
}

// differences returns the writes of the sectors whose contents are other ones than those that are wanted.
func differences(found, wanted []string) []api.SectorWrite {
	var writes []api.SectorWrite
	for i, data := range wanted {
		if data != found[i] {
			writes = append(writes, api.SectorWrite{Sector: i, Data: data})
		}
	}
	return writes
}
