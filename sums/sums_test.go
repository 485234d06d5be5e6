package sums

import (
	"strings"
	"testing"
)

func TestKnownChecks(t *testing.T) {
	const s = "123456789"
	if n := Eight(s); n != 0xf4 {
		t.Errorf("Eight(%q) = %#x", s, n)
	}
	if n := Sixteen(s); n != 0xfee8 {
		t.Errorf("Sixteen(%q) = %#x", s, n)
	}
	if n := Sum(s); n != 0x091e01de {
		t.Errorf("Sum(%q) = %#x", s, n)
	}
}

func TestBytesAreNotRunes(t *testing.T) {
	if Sum("\xc3\xa9") != (1+0xc3+1+0xc3+0xa9)*65536+1+0xc3+0xa9 {
		t.Error("Sum takes a rune for a byte")
	}
	if Eight("\xc3\xa9") == Eight("\xe9") || Sixteen("\xff") == Sixteen("\ufffd") {
		t.Error("a rune is taken for a byte")
	}
}

func TestSeals(t *testing.T) {
	const s = "123456789"
	if sealed := SealByEight(s); sealed != s+"\xf4" || !IsSealedByEight(sealed) {
		t.Errorf("SealByEight(%q) = %q", s, sealed)
	}
	if sealed := SealBySixteen(s); sealed != s+"\xfe\xe8" || !IsSealedBySixteen(sealed) {
		t.Errorf("SealBySixteen(%q) = %q", s, sealed)
	}
	for _, broken := range []string{"", s, s + "\xf5", "0" + s[1:] + "\xf4"} {
		if IsSealedByEight(broken) {
			t.Errorf("%q is taken for sealed by Eight", broken)
		}
	}
	for _, broken := range []string{"", "\x01", s, s + "\xe8\xfe", s + "\xfe", s + "\xff\xe8", s + "\xfe\xe9"} {
		if IsSealedBySixteen(broken) {
			t.Errorf("%q is taken for sealed by Sixteen", broken)
		}
	}
}

// Wherever bytes are cut, the sum goes on behind the cut.
func TestSumOn(t *testing.T) {
	s := "123456789" + strings.Repeat("\xff", 600)
	for i := range len(s) + 1 {
		if n, want := SumOn(Sum(s[:i]), s[i:]), Sum(s); n != want {
			t.Errorf("cut at %d the sum is %d, want %d", i, n, want)
		}
	}
	if Sum("") != SumOfNothing {
		t.Errorf("the sum of nothing is %d", Sum(""))
	}
}
