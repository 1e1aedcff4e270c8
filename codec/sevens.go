package codec

import "arboretum/api"

// mostSevens is how many digits to the base 128 a number of 64 bits may have; the last one of so many is 1.
const mostSevens = 10

// putSevens lays the sevens of n behind l.
func putSevens(l []byte, n uint64) []byte {
	for n >= 128 {
		l = append(l, byte(n)|128)
		n >>= 7
	}
	return append(l, byte(n))
}

// getSevens takes up the number whose sevens l begins with, and tells how many bytes they are.
func getSevens(l []byte) (uint64, int, api.Errno) {
	n := uint64(0)
	for i, b := range l {
		if i == mostSevens-1 && b > 1 {
			return 0, 0, api.ErrCodecForm
		}
		n |= uint64(b&127) << (7 * i)
		if b >= 128 {
			continue
		}
		if b == 0 && i > 0 { // the same number has fewer digits
			return 0, 0, api.ErrCodecForm
		}
		return n, i + 1, api.OK
	}
	return 0, 0, api.ErrCodecShort
}

// zigzag keeps numbers near 0 short, below it too.
func zigzag(n int) uint64 {
	if n < 0 {
		return ^(uint64(n) << 1) // -2 n - 1, which a signed number does not hold
	}
	return uint64(n) << 1
}

func unzigzag(z uint64) int {
	if z&1 == 1 {
		return ^int(z >> 1)
	}
	return int(z >> 1)
}
