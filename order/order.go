// Package order writes numbers as bytes, the highest byte first, for all layers whose bytes go from one to another.
package order

// Bytes: the lowest so many bytes of a number, the highest one of them first.
func Bytes(n uint64, size int) string {
	var list []byte
	for i := size - 1; i >= 0; i-- {
		list = append(list, byte(n>>(8*i)))
	}
	return string(list)
}

// Number: what bytes stand for, modulo 2^64.
func Number(s string) uint64 {
	n := uint64(0)
	for i := range len(s) {
		n = n<<8 | uint64(s[i])
	}
	return n
}
