package archive

import (
	"dasd/api"
	"dasd/wire"
)

// visitor has a function for each kind of values of the first item, which gets the place of a value.
type visitor struct {
	number func(*int)
	truth  func(*bool)
	text   func(*string)
}

// visit visits the values of the first item of an archive with count pairs, in their order.
func visit(a *api.Archive, count *int, v visitor) {
	d := &a.Set
	for _, n := range []*int{&d.Id, &d.Org, &d.Format, &d.Length, &d.Block, &d.KeyAt, &d.KeyLength, &d.Interval, &d.Area, &d.FreeInterval, &d.FreeArea, &d.Base, &d.AltAt, &d.AltLength} {
		v.number(n)
	}
	v.truth(&d.Unique)
	v.number(&d.Class)
	v.text(&d.Volume)
	v.text(&d.Owner)
	v.number(&d.Created)
	v.number(&d.Expires)
	v.truth(&d.Archived)
	v.number(&a.Number)
	v.number(count)
}

// items returns the items of a valid archive.
func items(a api.Archive) []string {
	first, count := "", len(a.Pairs)
	visit(&a, &count, visitor{
		number: func(n *int) { first = wire.AppendNumber(first, uint64(*n)) },
		truth:  func(b *bool) { first = wire.AppendBool(first, *b) },
		text:   func(s *string) { first = wire.AppendText(first, *s) },
	})
	l := []string{first}
	for _, p := range a.Pairs {
		l = append(l, wire.AppendText(wire.AppendText("", p.Key), p.Record))
	}
	return l
}

// readFirst returns the archive of a first item, without its pairs, and their number.
func readFirst(item string) (api.Archive, int, bool) {
	var a api.Archive
	count := 0
	r := wire.NewReader(item)
	visit(&a, &count, visitor{
		number: func(n *int) { *n = r.Count(api.MaxNumber) },
		truth:  func(b *bool) { *b = r.Bool() },
		text:   func(s *string) { *s = r.Text(api.MaxName) },
	})
	return a, count, r.End() == api.OK && count <= api.MaxList
}

// readPair returns the pair of an item.
func readPair(item string) (api.Pair, bool) {
	var p api.Pair
	r := wire.NewReader(item)
	p.Key = r.Text(api.MaxKey)
	p.Record = r.Text(api.MaxLine)
	return p, r.End() == api.OK
}
