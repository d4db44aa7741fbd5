package pages

import (
	"strings"

	"dasd/api"
)

// step is a write or a sync, which a writer does.
type step struct {
	do func(w api.Writer) api.Errno
}

// run does steps in order until one fails, and returns its error.
func (s *Store) run(steps []step) api.Errno {
	for _, x := range steps {
		if e := x.do(s.writer); e != api.OK {
			return e
		}
	}
	return api.OK
}

// write returns the write of a sector of the device.
func (s *Store) write(index int, raw string) step {
	return step{do: func(w api.Writer) api.Errno { return s.device.Write(w, index, raw) }}
}

// sync returns the sync of the device.
func (s *Store) sync() step { return step{do: s.device.Sync} }

// clear returns the write of zeros to the head, which ends an intent.
func (s *Store) clear() step { return s.write(headIndex, strings.Repeat("\x00", api.RawSize)) }

// place returns the writes of entries to their sectors.
func (s *Store) place(entries []entry) []step {
	var steps []step
	for _, x := range entries {
		steps = append(steps, s.write(x.index, x.raw))
	}
	return steps
}

// finishing returns the steps that finish an intent with the given entries.
func (s *Store) finishing(entries []entry) []step {
	return append(s.place(entries), s.sync(), s.clear(), s.sync())
}

// committing returns the steps that make a list of writes: the intent is complete on the device before the first sector changes, so that whoever finds it can finish it.
func (s *Store) committing(entries []entry, number uint32) []step {
	var steps []step
	for i, x := range entries {
		steps = append(steps, s.write(entryIndex+i, x.raw))
	}
	steps = append(steps, s.sync(), s.write(headIndex, head(entries, number)), s.sync())
	return append(steps, s.finishing(entries)...)
}
