// Package bittext writes and reads texts of the characters 0 and 1.
package bittext

import "strings"

const byteBits = 8

// IsBits tells whether nothing but 0 and 1 stands in a text.
func IsBits(s string) bool {
	for i := range len(s) {
		if s[i] != '0' && s[i] != '1' {
			return false
		}
	}
	return true
}

// Bytes packs bits into bytes; 0s fill the last one up.
func Bytes(text string) string {
	out := make([]byte, (len(text)+byteBits-1)/byteBits)
	for i := range len(text) {
		out[i/byteBits] |= (text[i] - '0') << (byteBits - 1 - i%byteBits)
	}
	return string(out)
}

// OfBytes are the bits of bytes.
func OfBytes(s string) string {
	var out Writer
	for i := range len(s) {
		out.Number(int(s[i]), byteBits)
	}
	return out.Text()
}

// IsFill tells whether bits do nothing but fill a byte up.
func IsFill(text string) bool {
	return len(text) < byteBits && strings.Trim(text, "0") == ""
}

// Fold turns whole numbers into numbers from 0 on, those near 0 into small ones.
func Fold(v int) int {
	if v >= 0 {
		return 2 * v
	}
	return -2*v - 1
}

// Unfold gives back what Fold was given.
func Unfold(f int) int {
	if f%2 == 0 {
		return f / 2
	}
	return -(f + 1) / 2
}

// RiceLength is how many bits the Rice code by k has of a number with this fold.
func RiceLength(fold, k int) int {
	return fold>>k + 1 + k
}

// Writer lays bits behind one another.
type Writer struct {
	text strings.Builder
}

// Number writes v in k bits.
func (w *Writer) Number(v, k int) {
	for i := k - 1; i >= 0; i-- {
		// The shift keeps the sign, so that a v below 0 comes out as v plus 2^k.
		w.text.WriteByte('0' + byte(v>>i&1))
	}
}

// Numbers writes each of a list in k bits.
func (w *Writer) Numbers(l []int, k int) {
	for _, v := range l {
		w.Number(v, k)
	}
}

// Rice writes the Rice code of v by k.
func (w *Writer) Rice(v, k int) {
	fold := Fold(v)
	for range fold >> k {
		w.text.WriteByte('0')
	}
	w.text.WriteByte('1')
	w.Number(fold, k) // the lowest k bits are the remainder
}

// Text is all that was written.
func (w *Writer) Text() string {
	return w.text.String()
}

// Reader reads a text of bits from its beginning on.
type Reader struct {
	text string
	at   int
}

// NewReader makes a reader of a text for which IsBits holds.
func NewReader(text string) *Reader {
	return &Reader{text: text}
}

// Taken is how many bits were read.
func (r *Reader) Taken() int {
	return r.at
}

// Number reads a number from 0 on in k bits; there is none if fewer are left.
func (r *Reader) Number(k int) (int, bool) {
	if len(r.text)-r.at < k {
		return 0, false
	}
	v := 0
	for _, bit := range []byte(r.text[r.at : r.at+k]) {
		v = 2*v + int(bit-'0')
	}
	r.at += k
	return v, true
}

// Signed reads a number in k bits, of which the highest tells whether it is below 0.
func (r *Reader) Signed(k int) (int, bool) {
	v, ok := r.Number(k)
	if ok && v >= 1<<(k-1) {
		v -= 1 << k
	}
	return v, ok
}

// Rice reads a number from its Rice code by k.
func (r *Reader) Rice(k int) (int, bool) {
	zeros := strings.IndexByte(r.text[r.at:], '1')
	if zeros < 0 {
		return 0, false
	}
	r.at += zeros + 1
	low, ok := r.Number(k)
	if !ok {
		return 0, false
	}
	return Unfold(zeros<<k + low), true
}
