package node

import (
	"math/bits"

	"medlar/api"
)

func isHeight(h int) bool { return h >= 1 && h <= api.MaxHeight }

// The functions below take heights and nodes that were checked.

func firstLeaf(h int) uint64 { return 1 << h }

func lastNode(h int) uint64 { return 2*firstLeaf(h) - 1 }

func depthOf(n uint64) int { return bits.Len64(n) - 1 }

func sideOf(n uint64) int { return int(n & 1) }

func upTo(n uint64, depth int) uint64 { return n >> (depthOf(n) - depth) }

func isAbove(a, b uint64) bool {
	return depthOf(a) <= depthOf(b) && upTo(b, depthOf(a)) == a
}

func checkBoth(h int, a, b uint64) api.Errno {
	if e := Check(h, a); e != api.OK {
		return e
	}
	return Check(h, b)
}
