package reel

import (
	"math"
	"slices"
	"strings"
	"testing"

	"reel/api"
)

func joined(s string) string { return strings.ReplaceAll(s, " ", "") }

func refusesBits(t *testing.T, w, n int, s string) {
	t.Helper()
	if l, k, e := Read(w, n, s); len(l) != 0 || k != 0 || e != api.ErrBits {
		t.Errorf("P6: Read(%d, %d, %s) = %v, %d, %d, want ErrBits", w, n, s, l, k, e)
	}
}

// readsJust holds Read against a subframe, against all that is shorter, and
// against what stands behind.
func readsJust(t *testing.T, w int, s string, want []int) {
	t.Helper()
	for _, behind := range []string{"", "0", "1", "0110"} {
		l, k, e := Read(w, len(want), s+behind)
		if !slices.Equal(l, want) || k != len(s) || e != api.OK {
			t.Errorf("P6: Read(%d, %d, %s) = %v, %d, %d, want %v, %d", w, len(want), s+behind, l, k, e, want, len(s))
		}
	}
	for k := range len(s) {
		refusesBits(t, w, len(want), s[:k])
	}
}

func TestReadExamples(t *testing.T) {
	for _, c := range []struct {
		w    int
		s    string
		want []int
	}{
		{5, "0100 0000 00001 00010 00 0000 111111", []int{1, 2, 3, 4, 5, 6, 7, 8}},
		{6, "0111 0000 000101 001010 001000 000000 00 0000 01", []int{5, 10, 9}},
		{6, "0111 0000 000101 001010 111000 000000 00 0000 01", []int{5, 10, -11}},
		{6, "0111 0000 000101 001011 000000 111111 00 0000 1", []int{5, 11, -1}},
		{4, "0000 0000 1000", []int{-8, -8}},
		{4, "0000 0011 1", []int{-8, -8}},
		{4, "0001 0010 01 10", []int{4, -8}},
		{1, "0001 0000 1 0 1", []int{-1, 0, -1}},
		{4, "0010 0000 00 1110 1 00000000000010", []int{1}},
		{4, "0010 0000 10 0000 1 0001 1 1 0010 1 01 0000 001", []int{0, -1, -1, 1}},
		{4, "0011 0001 111 00 0000 001 01", []int{-2, 0, -2}},
	} {
		readsJust(t, c.w, joined(c.s), c.want)
	}
}

// told writes short samples down by any kind, cut and parameters, the way that
// a subframe may, whether or not it is the shortest.
func told(r *ruler, kind, shift, cut, a, b, w int, l []int) string {
	s := inBits(kind, 4) + inBits(shift, 4)
	for _, v := range l[:orderByKind(kind)] {
		s += inBits(v, w-shift)
	}
	if kind == 7 {
		s += inBits(a, 6) + inBits(b, 6)
	}
	s += inBits(cut, 2)
	size := len(l) >> cut
	for from := 0; from < len(l); from += size {
		s += partOf(kind, a, b, l, from, from+size, r.below(15))
	}
	return s
}

func TestReadOfAnySubframe(t *testing.T) {
	r := ruler(6)
	for round := range 3000 {
		kind, cut := 2+round%6, round/6%4
		w, n := 1+r.below(8), 1+r.below(32)
		if !cutMay(n, orderByKind(kind), cut) {
			continue
		}
		shift, a, b := r.below(w), r.below(64)-32, r.below(64)-32
		short, want := make([]int, n), make([]int, n)
		for i := range short {
			short[i] = r.below(1<<(w-shift)) - 1<<(w-shift-1)
			want[i] = short[i] * (1 << shift)
		}
		s := told(&r, kind, shift, cut, a, b, w, short)
		l, k, e := Read(w, n, s+"1")
		if !slices.Equal(l, want) || k != len(s) || e != api.OK {
			t.Errorf("P6: Read(%d, %d, %s1) = %v, %d, %d, want %v", w, n, s, l, k, e, want)
		}
		refusesBits(t, w, n, s[:len(s)-1])
		refusesBits(t, w, n, s[:r.below(len(s))])
		refusesBits(t, w, n, s+"x")
	}
}

func TestReadOfAnyBits(t *testing.T) {
	r := ruler(7)
	read := 0
	for range 20000 {
		w, n := 1+r.below(13), 1+r.below(6)
		s := inBits(r.below(9), 4) + inBits(r.below(w+1), 4)
		for range r.below(60) {
			s += inBits(r.below(2), 1)
		}
		l, k, e := Read(w, n, s)
		if e == api.ErrBits {
			continue
		}
		read++
		if e != api.OK || len(l) != n || k > len(s) {
			t.Fatalf("P6: Read(%d, %d, %s) = %v, %d, %d", w, n, s, l, k, e)
		}
		for _, v := range l {
			if v < -(1<<(w-1)) || v >= 1<<(w-1) {
				t.Fatalf("P6: Read(%d, %d, %s) = %v, which are no samples", w, n, s, l)
			}
		}
		refusesBits(t, w, n, s[:k-1])
	}
	if read < 1000 {
		t.Errorf("only %d texts were read", read)
	}
}

func TestReadRefusesWhatIsNoSubframe(t *testing.T) {
	for _, c := range []struct {
		w, n int
		s    string
	}{
		{4, 1, "1000 0000 0000 0000"}, {4, 1, "1111 0000 0000 0000"}, // no kind
		{4, 1, "0000 0100 0000"}, {13, 1, "0000 1101 0000"}, {1, 1, "0000 0001 0"}, // the shift
		{4, 1, "0011 0000 0111 00 0000 1"}, {4, 4, "0110 0000 0000 0000 0000 0000 00 0000 1"}, {4, 2, "0111 0000 0000 0000 000000 000000 00 0000 1"}, // n is not above the order
		{4, 3, "0010 0000 01 0000 1 1 0000 1"}, {4, 6, "0010 0000 10 0000 1 0000 1 0000 1 0000 1 1 1"}, // n is no multiple
		{4, 2, "0011 0000 0111 01 0000 0000 1"}, {4, 4, "0111 0000 0000 0000 000000 000000 01 0000 0000 1 1"}, // n / 2^c is not above the order
		{4, 2, "0010 0000 00 1111 1 1"}, {4, 2, "0010 0000 01 0000 1 1111 1 000000000000000"}, // no parameter
		{4, 1, "0010 0000 00 0000 0000 0000 0000 0000 1"}, {4, 1, "0010 0000 00 0000 0000 0000 0000 0000 01"}, // 8 and -9
		{4, 2, "0011 0010 01 00 0000 001"}, {4, 2, "0011 0010 10 00 0000 01"}, // the short sample has two bits
		{4, 3, "0011 0000 0111 00 0000 001 01"},                   // 8, then 7 again
		{6, 3, "0111 0000 011111 011111 011111 011111 00 0000 1"}, // the guess itself is too great
		{4, 1, "0010 0000 00 0000 " + strings.Repeat("0", 70000) + "1"},
		{4, 1, "0010 0000 00 1110 " + strings.Repeat("0", 79000) + "1" + strings.Repeat("0", 14)},
	} {
		refusesBits(t, c.w, c.n, joined(c.s))
	}
	refusesBits(t, 4, 1, "")
	for _, s := range []string{"000000000000x", "x00000000000", "0000 0000 0000", "000000000000\x00", "000000000000\n", "00000000000é", "00000000000/", "000000000000:"} {
		refusesBits(t, 4, 1, s)
	}
}

func TestReadErrorsInTheirOrder(t *testing.T) {
	long := strings.Repeat("x", api.MaxBits+1)
	for _, c := range []struct{ w, n int }{{0, 1}, {14, 1}, {4, 0}, {4, 33}, {-1, -1}, {math.MinInt, 1}, {math.MaxInt, 1}, {4, math.MinInt}, {4, math.MaxInt}} {
		for _, s := range []string{"", "000000000000", long} {
			if l, k, e := Read(c.w, c.n, s); len(l) != 0 || k != 0 || e != api.ErrArg {
				t.Errorf("P6: Read(%d, %d, ..) = %v, %d, %d, want ErrArg", c.w, c.n, l, k, e)
			}
		}
	}
	for _, s := range []string{long, strings.Repeat("0", api.MaxBits+1)} {
		if l, k, e := Read(4, 1, s); len(l) != 0 || k != 0 || e != api.ErrLong {
			t.Errorf("P6: Read of %d characters = %v, %d, %d, want ErrLong", len(s), l, k, e)
		}
	}
	refusesBits(t, 4, 1, long[:api.MaxBits])
	if l, k, e := Read(4, 1, strings.Repeat("0", api.MaxBits)); !slices.Equal(l, []int{0}) || k != 12 || e != api.OK {
		t.Errorf("P6: Read of %d characters = %v, %d, %d", api.MaxBits, l, k, e)
	}
}
