// Package bytenum writes numbers down as bytes, the highest byte first, and reads them.
package bytenum

// In is v, a number from 0 on, in size bytes.
func In(v, size int) string {
	out := make([]byte, size)
	for i := size - 1; i >= 0; i-- {
		out[i] = byte(v)
		v >>= 8
	}
	return string(out)
}

// Value is the number that a few bytes are.
func Value(s string) int {
	v := 0
	for i := range len(s) {
		v = v<<8 | int(s[i])
	}
	return v
}
