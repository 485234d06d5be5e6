package reel

import (
	"math"
	"strings"
	"testing"

	"reel/api"
)

func rightConfig() api.Config {
	return api.Config{Channels: 1, Depth: 4, Block: 2, Rate: 8, Seek: 1, Workers: 2, Window: 2, Room: 1}
}

// silent is a sound of as many channels, with n samples each.
func silent(channels, n int) [][]int {
	sound := make([][]int, channels)
	for i := range sound {
		sound[i] = make([]int, n)
	}
	return sound
}

func TestCheckOfEachField(t *testing.T) {
	for _, f := range []struct {
		name        string
		at          func(c *api.Config) *int
		least, most int
	}{
		{"Channels", func(c *api.Config) *int { return &c.Channels }, 1, 4},
		{"Depth", func(c *api.Config) *int { return &c.Depth }, 4, 12},
		{"Block", func(c *api.Config) *int { return &c.Block }, 1, 32},
		{"Rate", func(c *api.Config) *int { return &c.Rate }, 0, 65535},
		{"Seek", func(c *api.Config) *int { return &c.Seek }, 0, 255},
		{"Workers", func(c *api.Config) *int { return &c.Workers }, 1, 8},
		{"Window", func(c *api.Config) *int { return &c.Window }, 1, 16},
		{"Room", func(c *api.Config) *int { return &c.Room }, 1, 8},
	} {
		for v, want := range map[int]api.Errno{
			f.least: api.OK, f.most: api.OK, f.least - 1: api.ErrConfig, f.most + 1: api.ErrConfig,
			math.MinInt: api.ErrConfig, math.MaxInt: api.ErrConfig,
		} {
			c := rightConfig()
			*f.at(&c) = v
			sound := silent(min(max(c.Channels, 0), 5), 3)
			if e := Check(c, sound); e != want {
				t.Errorf("P3: %s %d: %d, want %d", f.name, v, e, want)
			}
		}
	}
}

func TestCheckOfSounds(t *testing.T) {
	two := rightConfig()
	two.Channels = 2
	for i, c := range []struct {
		c     api.Config
		sound [][]int
		want  api.Errno
	}{
		{rightConfig(), [][]int{{6, 4, 1}}, api.OK}, {rightConfig(), [][]int{nil}, api.OK}, {rightConfig(), [][]int{{}}, api.OK},
		{rightConfig(), nil, api.ErrSound}, {rightConfig(), [][]int{}, api.ErrSound}, {rightConfig(), silent(2, 0), api.ErrSound},
		{rightConfig(), silent(1, 300), api.OK}, {rightConfig(), silent(1, 301), api.ErrSound},
		{rightConfig(), [][]int{{7, -8}}, api.OK}, {rightConfig(), [][]int{{7, 8}}, api.ErrSound}, {rightConfig(), [][]int{{-9, 0}}, api.ErrSound},
		{rightConfig(), [][]int{{math.MaxInt}}, api.ErrSound}, {rightConfig(), [][]int{{math.MinInt}}, api.ErrSound},
		{two, [][]int{nil, {}}, api.OK}, {two, [][]int{{1, 2}, {3}}, api.ErrSound}, {two, [][]int{{1}, {3, 2}}, api.ErrSound},
		{two, [][]int{{1}, nil}, api.ErrSound}, {two, [][]int{{1}, {8}}, api.ErrSound}, {two, silent(2, 300), api.OK}, {two, silent(3, 1), api.ErrSound},
		{api.Config{}, nil, api.ErrConfig}, {api.Config{}, [][]int{{9}}, api.ErrConfig},
	} {
		if e := Check(c.c, c.sound); e != c.want {
			t.Errorf("P3: sound %d: %d, want %d", i, e, c.want)
		}
	}
}

func TestCheckOfEachDepth(t *testing.T) {
	for depth := api.MinDepth; depth <= api.MaxDepth; depth++ {
		c := rightConfig()
		c.Depth = depth
		half := 1 << (depth - 1)
		for v, want := range map[int]api.Errno{-half: api.OK, half - 1: api.OK, -half - 1: api.ErrSound, half: api.ErrSound} {
			if e := Check(c, [][]int{{0, v}}); e != want {
				t.Errorf("P3: %d at depth %d: %d, want %d", v, depth, e, want)
			}
		}
	}
}

func TestSumExamples(t *testing.T) {
	for _, c := range []struct {
		name      string
		got, want int
	}{
		{`Eight("")`, Eight(""), 0}, {`Eight("\x01")`, Eight("\x01"), 7}, {`Eight("\x80")`, Eight("\x80"), 137},
		{`Sixteen("")`, Sixteen(""), 0}, {`Sixteen("\x01")`, Sixteen("\x01"), 32773}, {`Sixteen("\x80")`, Sixteen("\x80"), 33539},
		{`Sum("")`, Sum(""), 1}, {`Sum("a")`, Sum("a"), 6422626},
	} {
		if c.got != c.want {
			t.Errorf("P4: %s = %d, want %d", c.name, c.got, c.want)
		}
	}
}

func TestSumsOfManyBytes(t *testing.T) {
	r := ruler(4)
	texts := []string{"", "reel of sound", "é\ufffd\x00\xff\xfe", strings.Repeat("\x00", 40)}
	for i := range 256 {
		texts = append(texts, string([]byte{byte(i)}), string([]byte{byte(i), 0}), string([]byte{0, byte(i)}))
	}
	for range 300 {
		s := make([]byte, r.below(200))
		for i := range s {
			s[i] = byte(r.below(256))
		}
		texts = append(texts, string(s))
	}
	for _, s := range texts {
		if n, want := Eight(s), divided(s, "100000111"); n != want {
			t.Errorf("P4: Eight(%q) = %d, want %d", s, n, want)
		}
		if n, want := Sixteen(s), divided(s, "11000000000000101"); n != want {
			t.Errorf("P4: Sixteen(%q) = %d, want %d", s, n, want)
		}
		if n, want := Sum(s), sumOf(s); n != want {
			t.Errorf("P4: Sum(%q) = %d, want %d", s, n, want)
		}
	}
}

// sumOf takes the modulus but once: none of the texts is long enough to overflow.
func sumOf(s string) int {
	a, b := 1, 0
	for i := 0; i < len(s); i++ {
		a += int(s[i])
		b += a
	}
	return b%65521*65536 + a%65521
}

func TestSumOfLongBytes(t *testing.T) {
	for _, n := range []int{256, 257, 258, 1000, 9000, 100000} {
		s := strings.Repeat("\xff", n)
		if got, want := Sum(s), sumOf(s); got != want {
			t.Errorf("P4: the sum of %d bytes 255 = %d, want %d", n, got, want)
		}
	}
	// 256 bytes 255 and one of 240 make a just 65521, which is 0.
	if n := Sum(strings.Repeat("\xff", 256) + "\xf0"); n%65536 != 0 {
		t.Errorf("P4: a is %d, want 0", n%65536)
	}
}
