package bittext

import "testing"

func TestFoldAndUnfold(t *testing.T) {
	for v, want := range map[int]int{0: 0, -1: 1, 1: 2, -2: 3, 2: 4, 100: 200, -100: 199} {
		if f := Fold(v); f != want {
			t.Errorf("Fold(%d) = %d, want %d", v, f, want)
		}
	}
	for v := -5000; v <= 5000; v++ {
		if u := Unfold(Fold(v)); u != v {
			t.Errorf("Unfold(Fold(%d)) = %d", v, u)
		}
	}
}

func TestRiceCodes(t *testing.T) {
	for _, c := range []struct {
		v, k int
		s    string
	}{{0, 0, "1"}, {-1, 0, "01"}, {3, 1, "00010"}, {-3, 2, "0101"}, {0, 3, "1000"}, {4, 3, "01000"}} {
		var w Writer
		w.Rice(c.v, c.k)
		if w.Text() != c.s {
			t.Errorf("Rice code of %d by %d: %s, want %s", c.v, c.k, w.Text(), c.s)
		}
		if n := RiceLength(Fold(c.v), c.k); n != len(c.s) {
			t.Errorf("RiceLength of %d by %d = %d, want %d", c.v, c.k, n, len(c.s))
		}
		in := NewReader(c.s)
		if v, ok := in.Rice(c.k); v != c.v || !ok || in.Taken() != len(c.s) {
			t.Errorf("Rice of %s by %d: %d, %v", c.s, c.k, v, ok)
		}
	}
}

func TestNumbers(t *testing.T) {
	for _, c := range []struct {
		v, k int
		s    string
	}{{0, 0, ""}, {5, 3, "101"}, {-1, 1, "1"}, {-8, 4, "1000"}, {7, 4, "0111"}, {-3, 6, "111101"}} {
		var w Writer
		w.Number(c.v, c.k)
		if w.Text() != c.s {
			t.Errorf("%d in %d bits: %s, want %s", c.v, c.k, w.Text(), c.s)
		}
	}
	if v, ok := NewReader("1101").Number(4); v != 13 || !ok {
		t.Errorf("Number of 1101: %d, %v", v, ok)
	}
	if v, ok := NewReader("1101").Signed(4); v != -3 || !ok {
		t.Errorf("Signed of 1101: %d, %v", v, ok)
	}
}

func TestNothingIsReadBehindTheEnd(t *testing.T) {
	if _, ok := NewReader("101").Number(4); ok {
		t.Error("Number reads behind the end")
	}
	if _, ok := NewReader("").Signed(1); ok {
		t.Error("Signed reads behind the end")
	}
	for _, s := range []string{"", "0", "000", "1", "0010"} {
		if _, ok := NewReader(s).Rice(2); ok {
			t.Errorf("Rice by 2 reads %q", s)
		}
	}
}

func TestIsBits(t *testing.T) {
	for s, want := range map[string]bool{"": true, "0110": true, "012": false, "0 1": false, "/": false, "1\x00": false, "0é": false} {
		if IsBits(s) != want {
			t.Errorf("IsBits(%q) is %v", s, !want)
		}
	}
}

func TestBitsAndBytes(t *testing.T) {
	for bits, want := range map[string]string{
		"": "", "1": "\x80", "00000001": "\x01", "000000001": "\x00\x80", "000000000": "\x00\x00", "0000000011111111": "\x00\xff",
		"1010010101": "\xa5\x40", "1100001110101001": "\xc3\xa9",
	} {
		s := Bytes(bits)
		if s != want {
			t.Errorf("Bytes(%s) = %q, want %q", bits, s, want)
		}
		back := OfBytes(s)
		if len(back) != 8*len(s) || back[:len(bits)] != bits || !IsFill(back[len(bits):]) {
			t.Errorf("OfBytes(%q) = %s, want %s", s, back, bits)
		}
	}
}

func TestIsFill(t *testing.T) {
	for bits, want := range map[string]bool{"": true, "0": true, "0000000": true, "00000000": false, "1": false, "0000001": false, "1000000": false, "0001000": false} {
		if IsFill(bits) != want {
			t.Errorf("IsFill(%s) is %v", bits, !want)
		}
	}
}
