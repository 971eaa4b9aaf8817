package frame

// reflected is the polynomial 1EDC6F41 with its bits turned round: the sum takes each byte's low bit first.
const reflected = 0x82f63b78

// Sum is CRC-32C.
func Sum(b []byte) uint32 { return sumOf(b) }

// sumOf is the sum of the pieces one behind the other: a frame's length and its payload don't stand side by side.
func sumOf(pieces ...[]byte) uint32 {
	sum := ^uint32(0)
	for _, piece := range pieces {
		for _, c := range piece {
			sum = shifted(sum ^ uint32(c))
		}
	}
	return ^sum
}

// shifted lets a byte fall out of the sum, bit by bit. The product stands for an if (the polynomial where the bit is 1,
// else nothing), because a branch on bits that look random is slow.
func shifted(sum uint32) uint32 {
	for range 8 {
		sum = sum>>1 ^ reflected*(sum&1)
	}
	return sum
}
