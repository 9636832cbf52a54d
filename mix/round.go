package mix

import (
	"math/bits"

	"medlar/api"
)

const (
	rounds   uint64 = 8
	stride   uint64 = 11400714819323198485
	turnX           = 13
	turnY           = 29
	size            = 16
	halfSize        = size / 2
)

// octets are those of a block: an array, so that a block's worth of them is copied, and never shared.
type octets [size]byte

func round(b api.Block, k uint64) api.Block {
	x, y := b[0], b[1]
	x = bits.RotateLeft64(x+y+k*stride, turnX)
	y = bits.RotateLeft64(y^x, turnY)
	return api.Block{x ^ y, y}
}

// roundBack takes a round back, its three steps in the other order: each of them left one number as it was.
func roundBack(b api.Block, k uint64) api.Block {
	x, y := b[0], b[1]
	x ^= y
	y = bits.RotateLeft64(y, -turnY) ^ x
	return api.Block{bits.RotateLeft64(x, -turnX) - y - k*stride, y}
}

func octetsOf(b api.Block) octets {
	var o octets
	for i := range size {
		o[i] = byte(b[i/halfSize] >> (8 * (i % halfSize)))
	}
	return o
}

// filled has zeros behind a text that is shorter: put behind the text itself, they would overwrite what is the caller's.
func filled(text []byte) octets {
	var o octets
	copy(o[:], text)
	return o
}

func (o octets) block() api.Block {
	var b api.Block
	for i := range size {
		b[i/halfSize] |= uint64(o[i]) << (8 * (i % halfSize))
	}
	return b
}
