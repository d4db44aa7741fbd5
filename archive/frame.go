package archive

import (
	"strings"

	"dasd/api"
	"dasd/checksum"
)

// headBytes is the number of bytes before the data of a frame.
const headBytes = 4

// dataBytes is the greatest number of bytes of data of a frame.
const dataBytes = 56

// mostFrames is how many numbers there are for frames.
const mostFrames = 1 << 16

// The marks of a frame.
const (
	markFirst = 1 << iota
	markLast
)

// frame is what a frame with a number says: its marks and its data.
type frame struct {
	first, last bool
	data        string
}

// Frame returns a frame of an archive.
func Frame(number int, first, last bool, data string) string {
	if number < 0 || number >= mostFrames || data == "" || len(data) > dataBytes {
		return ""
	}
	marks := byte(0)
	if first {
		marks += markFirst
	}
	if last {
		marks += markLast
	}
	head := string([]byte{byte(number), byte(number >> 8), marks, byte(len(data))})
	return checksum.Seal(head + data + strings.Repeat("\x00", dataBytes-len(data)))
}

// ReadFrame returns the number, the marks and the data of a frame.
func ReadFrame(s string) (int, bool, bool, string, api.Errno) {
	if len(s) != api.FrameSize {
		return 0, false, false, "", api.ErrCorrupt
	}
	number := int(s[0]) + int(s[1])<<8
	first, last := s[2]&markFirst != 0, s[2]&markLast != 0
	data := s[headBytes : headBytes+min(int(s[3]), dataBytes)]
	// There is no frame that Frame would not make: this also finds wrong numbers of bytes, other marks, and wrong sums.
	if Frame(number, first, last, data) != s {
		return 0, false, false, "", api.ErrCorrupt
	}
	return number, first, last, data, api.OK
}

// readFrames returns the frames that damaged bytes still have, by their numbers.
func readFrames(s string) map[int]frame {
	frames := map[int]frame{}
	for left := s; len(left) >= api.FrameSize; left = left[api.FrameSize:] {
		number, first, last, data, e := ReadFrame(left[:api.FrameSize])
		if _, twice := frames[number]; e == api.OK && !twice {
			frames[number] = frame{first: first, last: last, data: data}
		}
	}
	return frames
}

// itemAt returns the bytes of the item that begins with a frame, or none if it is not there.
func itemAt(frames map[int]frame, number int) string {
	if !frames[number].first {
		return ""
	}
	var parts []string
	for {
		f, ok := frames[number]
		if !ok || f.first && len(parts) > 0 {
			return ""
		}
		parts = append(parts, f.data)
		if f.last {
			return strings.Join(parts, "")
		}
		number++
	}
}
