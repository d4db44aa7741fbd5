package pages

import (
	"dasd/api"
	"dasd/checksum"
)

// numberSize is the number of bytes of a version, an index and a sum.
const numberSize = 4

// Where the parts of a raw sector begin, behind its data.
const (
	versionAt = api.SectorSize
	indexAt   = versionAt + numberSize
	sumAt     = indexAt + numberSize
)

// Pack returns the content of a sector of a device.
func Pack(data string, version uint32, index int) string {
	var body [sumAt]byte
	copy(body[:versionAt], data)
	copy(body[versionAt:], checksum.Bytes(version))
	copy(body[indexAt:], checksum.Bytes(uint32(index)))
	return checksum.Seal(string(body[:]))
}

// Unpack returns the data and the version of the content of a sector of a device.
func Unpack(raw string, index int) (string, uint32, api.Errno) {
	if len(raw) != api.RawSize {
		return "", 0, api.ErrCorrupt
	}
	body, e := checksum.Open(raw)
	if e != api.OK || body[indexAt:] != checksum.Bytes(uint32(index)) {
		return "", 0, api.ErrCorrupt
	}
	return body[:versionAt], checksum.Number(body[versionAt:indexAt]), api.OK
}

// ownIndex returns the index that a raw sector claims to be its own.
func ownIndex(raw string) int { return int(checksum.Number(raw[indexAt:sumAt])) }

// numberIn returns the number at the place i of data that consist of numbers.
func numberIn(data string, i int) uint32 {
	return checksum.Number(data[numberSize*i : numberSize*(i+1)])
}

// setNumber changes the number at the place i of data that consist of numbers.
func setNumber(data []byte, i int, n uint32) { copy(data[numberSize*i:], checksum.Bytes(n)) }
