package bytenum

import "testing"

func TestInAndValue(t *testing.T) {
	for _, c := range []struct {
		v, size int
		want    string
	}{
		{0, 1, "\x00"}, {165, 1, "\xa5"}, {255, 1, "\xff"},
		{0, 2, "\x00\x00"}, {1, 2, "\x00\x01"}, {258, 2, "\x01\x02"}, {65535, 2, "\xff\xff"}, {32768, 2, "\x80\x00"},
		{3932172, 4, "\x00\x3c\x00\x0c"}, {1<<32 - 1, 4, "\xff\xff\xff\xff"}, {0x01020304, 4, "\x01\x02\x03\x04"},
	} {
		if s := In(c.v, c.size); s != c.want {
			t.Errorf("In(%d, %d) = %q, want %q", c.v, c.size, s, c.want)
		}
		if v := Value(c.want); v != c.v {
			t.Errorf("Value(%q) = %d, want %d", c.want, v, c.v)
		}
	}
}
