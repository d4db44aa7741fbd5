package volume

import (
	"strings"

	"dasd/api"
)

// labelPages are the pages of a label, each of which consists of some sectors.
type labelPages struct {
	volume  *Volume
	ref     api.Ref
	sectors int
}

// Pages returns the pages of a label, each of which consists of some sectors.
func (v *Volume) Pages(r api.Ref, sectors int) api.Pages {
	return labelPages{volume: v, ref: r, sectors: sectors}
}

// Page returns the content of a page.
func (p labelPages) Page(n int) (string, api.Errno) {
	l, e := p.volume.Label(p.ref)
	if e != api.OK {
		return "", e
	}
	if p.sectors < 1 || n < 0 || n >= sectorsOf(l)/p.sectors {
		return "", api.ErrRange
	}
	data, e := p.volume.load(l, n*p.sectors, p.sectors)
	return strings.Join(data, ""), e
}
