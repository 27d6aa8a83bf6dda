package impl

type NumberResult struct {
	Good  bool
	Value int64
}

type unsigned interface {
	uint8 | uint16 | uint32 | uint64
}

// sumSteps tells by four bits that leave the remainder what is to be mixed into
// the rest of it, so that a byte takes two steps and not eight.
var sumSteps = [16]uint32{
	0x00000000, 0x1db71064, 0x3b6e20c8, 0x26d930ac,
	0x76dc4190, 0x6b6b51f4, 0x4db26158, 0x5005713c,
	0xedb88320, 0xf00f9344, 0xd6d6a3e8, 0xcb61b38c,
	0x9b64c2b0, 0x86d3d2d4, 0xa00ae278, 0xbdbdf21c,
}

func PutNumber(v int64, n int64) []byte {
	switch n {
	case 1:
		return putWord(uint8(v), n)
	case 2:
		return putWord(uint16(v), n)
	case 3, 4:
		return putWord(uint32(v), n)
	case 5, 6, 7, 8:
		return putWord(uint64(v), n)
	}
	return nil
}

// putWord needs n to be at most the width of its word.
func putWord[W unsigned](word W, n int64) []byte {
	out := make([]byte, n)
	for i := range out {
		out[i] = byte(word >> (8 * i))
	}
	return out
}

func GetNumber(b []byte, at int64, n int64) NumberResult {
	// The end is held against len(b) - n, as at + n may wrap round.
	if n < 1 || n > 8 || at < 0 || at > int64(len(b))-n {
		return NumberResult{}
	}
	var word uint64
	for i, x := range b[at : at+n] {
		word |= uint64(x) << (8 * i)
	}
	return NumberResult{Good: true, Value: int64(word)}
}

func Crc(b []byte) uint32 {
	rest := ^uint32(0)
	for _, x := range b {
		rest ^= uint32(x)
		rest = rest>>4 ^ sumSteps[rest&15]
		rest = rest>>4 ^ sumSteps[rest&15]
	}
	return ^rest
}
