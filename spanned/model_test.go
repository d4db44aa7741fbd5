package spanned_test

import (
	"encoding/binary"
	"regexp"
	"strings"

	"dasd/spanned"
)

// The functions of this file say once more, step by step, what the definitions say.

// fit reports whether a greatest length and a block size fit each other.
func fit(length, block int) bool { return 1 <= length && length <= 1000 && 9 <= block && block <= 1024 }

// number returns two bytes, the more significant one first.
func number(n int) string { return string(binary.BigEndian.AppendUint16(nil, uint16(n))) }

// form returns the form of a segment with a code.
func form(code byte, data string) string {
	return number(len(data)+4) + string([]byte{code, 0}) + data
}

// sealed returns the block with these forms of segments.
func sealed(forms ...string) string {
	body := strings.Join(forms, "")
	return number(len(body)+4) + "\x00\x00" + body
}

// put returns blocks with a further record.
func put(block int, blocks []string, record string) []string {
	l := append([]string(nil), blocks...)
	rest, whole, last := record, byte(0), byte(0)
	part := byte(1)
	if len(l) > 0 {
		body := l[len(l)-1][4:]
		room := block - 4 - len(body)
		if room >= len(record)+4 {
			l[len(l)-1] = sealed(body, form(whole, record))
			return l
		}
		if room >= 5 {
			l[len(l)-1] = sealed(body, form(part, record[:room-4]))
			rest, part, last = record[room-4:], 3, 2
		}
	}
	for len(rest) > block-8 {
		l = append(l, sealed(form(part, rest[:block-8])))
		rest, part, last = rest[block-8:], 3, 2
	}
	return append(l, sealed(form(last, rest)))
}

// packed returns the blocks of records.
func packed(block int, records []string) []string {
	var blocks []string
	for _, record := range records {
		blocks = put(block, blocks, record)
	}
	return blocks
}

// segments returns the segments of a block; without a block there are none.
func segments(length, block int, data string) []spanned.Segment {
	if len(data) > block || len(data) < 4 || data[:4] != number(len(data))+"\x00\x00" {
		return nil
	}
	var l []spanned.Segment
	for at := 4; at < len(data); {
		if at+4 > len(data) || data[at+3] != 0 {
			return nil
		}
		end := at + int(binary.BigEndian.Uint16([]byte(data[at:])))
		if end < at+4 || end > len(data) || end-at-4 > length {
			return nil
		}
		s := spanned.Segment{Data: data[at+4 : end]}
		switch data[at+2] {
		case 0:
		case 1:
			s.After = true
		case 2:
			s.Before = true
		case 3:
			s.Before, s.After = true, true
		default:
			return nil
		}
		if s.Data == "" && (s.Before || s.After) {
			return nil
		}
		if s.Before && at != 4 || s.After && (end != len(data) || len(data) != block) {
			return nil
		}
		l = append(l, s)
		at = end
	}
	return l
}

// letter tells what a segment is: a whole record, its first part, one in the middle, or the last one.
func letter(s spanned.Segment) string {
	switch {
	case s.Before && s.After:
		return "m"
	case s.Before:
		return "l"
	case s.After:
		return "f"
	}
	return "w"
}

// sequences are the lists of segments that are records.
var sequences = regexp.MustCompile("^(w|fm*l)*$")

// joined returns the records of segments, and whether they have any.
func joined(length int, l []spanned.Segment) ([]string, bool) {
	letters := ""
	for _, s := range l {
		letters += letter(s)
	}
	if !sequences.MatchString(letters) {
		return nil, false
	}
	var records []string
	for _, s := range l {
		if !s.Before {
			records = append(records, "")
		}
		records[len(records)-1] += s.Data
	}
	for _, record := range records {
		if len(record) > length {
			return nil, false
		}
	}
	return records, true
}
