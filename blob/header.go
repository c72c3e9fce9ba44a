package blob

import "bringup/api"

// Indices of the numbers of the header, behind the magic one.
const (
	totalAt        = 4
	structureAt    = 8
	namesAt        = 12
	structureSumAt = 16
	namesSumAt     = 20
	headerSumAt    = 24
)

// checkHeader returns the first error that can be found without reading the structure, and its place.
func checkHeader(b []byte) (place int, e api.Errno) {
	if len(b) < headerBytes {
		return len(b), api.ErrEnd
	}
	total, structure, names := number(b, totalAt), number(b, structureAt), number(b, namesAt)
	end := headerBytes + structure
	switch {
	case number(b, 0) != magic:
		return 0, api.ErrMagic
	case number(b, headerSumAt) != Sum(b[:headerSumAt]):
		return headerSumAt, api.ErrCheck
	case total != end+names || total > api.MaxBlob || structure != aligned(structure):
		return totalAt, api.ErrRange
	case len(b) < total:
		return len(b), api.ErrEnd
	case len(b) > total:
		return total, api.ErrRange
	case number(b, structureSumAt) != Sum(b[headerBytes:end]):
		return structureSumAt, api.ErrCheck
	case number(b, namesSumAt) != Sum(b[end:]):
		return namesSumAt, api.ErrCheck
	}
	return 0, api.OK
}
