package sequential

import (
	"strings"

	"dasd/api"
	"dasd/fixed"
	"dasd/spanned"
	"dasd/variable"
)

// sizeBytes is the number of bytes of the size before a block.
const sizeBytes = 2

// leastSpanned is the least size of blocks with spanned records.
const leastSpanned = 32

// format is a way in which records lie in blocks: which lengths and sizes of blocks fit each other, and the functions that pack and unpack.
type format struct {
	valid  func(length, block int) bool
	pack   func(length, block int, records ...string) ([]string, api.Errno)
	unpack func(length, block int, blocks ...string) ([]string, api.Errno)
}

// content is what a data set contains.
type content struct {
	records, blocks []string
	stream          string
}

// formats returns the formats, in the order of their numbers.
func formats() []format {
	return []format{
		api.Fixed:    {fixed.Valid, fixed.Pack, each(fixed.Unpack)},
		api.Variable: {variable.Valid, variable.Pack, each(variable.Unpack)},
		api.Spanned:  {validSpanned, spanned.Pack, spanned.Unpack},
	}
}

// validSpanned reports whether a greatest length of spanned records and a size of their blocks fit each other.
func validSpanned(length, block int) bool {
	return block >= leastSpanned && spanned.Valid(length, block)
}

// each makes, from a function that unpacks one block, a function that unpacks any number of them.
func each(one func(length, block int, data string) ([]string, api.Errno)) func(int, int, ...string) ([]string, api.Errno) {
	return func(length, block int, blocks ...string) ([]string, api.Errno) {
		var records []string
		for _, data := range blocks {
			l, e := one(length, block, data)
			if e != api.OK {
				return nil, e
			}
			records = append(records, l...)
		}
		return records, api.OK
	}
}

// pack returns the content with records.
func pack(x api.DataSet, records []string) (content, api.Errno) {
	if !Valid(x) {
		return content{}, api.ErrArg
	}
	blocks, e := formats()[x.Format].pack(x.Length, x.Block, records...)
	if e != api.OK {
		return content{}, e
	}
	var stream strings.Builder
	for _, block := range blocks {
		stream.Write([]byte{byte(len(block)), byte(len(block) >> 8)})
		stream.WriteString(block)
	}
	return content{records: records, blocks: blocks, stream: stream.String()}, api.OK
}

// unpack returns the records of the blocks of a stream, or false if it does not consist of blocks.
func unpack(x api.DataSet, stream string) ([]string, bool) {
	var blocks []string
	for left := stream; left != ""; {
		if len(left) < sizeBytes {
			return nil, false
		}
		end := sizeBytes + int(left[0]) + int(left[1])<<8
		if end > len(left) {
			return nil, false
		}
		blocks = append(blocks, left[sizeBytes:end])
		left = left[end:]
	}
	records, e := formats()[x.Format].unpack(x.Length, x.Block, blocks...)
	return records, e == api.OK
}

// sectors returns the sectors of the stream.
func (c content) sectors() []string {
	var l []string
	for left := c.stream; left != ""; {
		n := min(len(left), api.SectorSize)
		l = append(l, padded(left[:n]))
		left = left[n:]
	}
	return l
}

// writes returns the head with an applied number, and the sectors of the stream that are different from those of the content before.
func (c content) writes(number int, before content) []api.SectorWrite {
	old := before.sectors()
	l := []api.SectorWrite{{Sector: 0, Data: head(number, len(c.records), len(c.stream))}}
	for i, s := range c.sectors() {
		if i >= len(old) || s != old[i] {
			l = append(l, api.SectorWrite{Sector: 1 + i, Data: s})
		}
	}
	return l
}
