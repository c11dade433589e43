package varint

import (
	"encoding/binary"
	"math"
	"strings"
	"testing"

	"stagecoach/api"
)

// edges are numbers around those at which bytes or bits are one more.
func edges() []uint64 {
	l := []uint64{0, 1, 2, 300, math.MaxUint64}
	for bit := range 64 {
		p := uint64(1) << bit
		l = append(l, p-1, p, p+1, p|0x5a5a5a5a5a5a5a5a, p*0x9e3779b97f4a7c15)
	}
	return l
}

// P1.1

func TestPutExamples(t *testing.T) {
	for n, want := range map[uint64]string{
		0: "\x00", 1: "\x01", 127: "\x7f", 128: "\x80\x01", 300: "\xac\x02",
		16383: "\xff\x7f", 16384: "\x80\x80\x01",
		1<<63 - 1:      "\xff\xff\xff\xff\xff\xff\xff\xff\x7f",
		1 << 63:        "\x80\x80\x80\x80\x80\x80\x80\x80\x80\x01",
		math.MaxUint64: "\xff\xff\xff\xff\xff\xff\xff\xff\xff\x01",
	} {
		if s := Put(n); s != want {
			t.Errorf("Put(%d): %x, want %x", n, s, want)
		}
	}
}

func TestPutIsUvarint(t *testing.T) {
	for _, n := range edges() {
		want := string(binary.AppendUvarint(nil, n))
		if s := Put(n); s != want {
			t.Errorf("Put(%d): %x, want %x", n, s, want)
		}
	}
}

func TestSizeAtEachPower(t *testing.T) {
	for size := 1; size <= 9; size++ {
		edge := uint64(1) << (7 * size)
		if a, b := Size(edge-1), Size(edge); a != size || b != size+1 {
			t.Errorf("below and at 2^%d: %d, %d", 7*size, a, b)
		}
	}
	if a, b := Size(0), Size(math.MaxUint64); a != 1 || b != 10 {
		t.Errorf("least and greatest: %d, %d", a, b)
	}
}

func TestSizeIsPutsLength(t *testing.T) {
	for _, n := range edges() {
		if size := Size(n); size != len(Put(n)) {
			t.Errorf("Size(%d): %d", n, size)
		}
	}
}

// P1.2

func TestGet(t *testing.T) {
	nine := strings.Repeat("\x80", 9)
	for _, x := range []struct {
		s  string
		at int
		n  uint64
		to int
		e  api.Errno
	}{
		{"\x00", 0, 0, 1, api.OK},
		{"\x7f", 0, 127, 1, api.OK},
		{"\xac\x02", 0, 300, 2, api.OK},
		{"\xac\x02", 1, 2, 2, api.OK},
		{"\x00\x00", 1, 0, 2, api.OK},
		{"ab\xac\x02\x00", 2, 300, 4, api.OK},
		{nine + "\x01", 0, 1 << 63, 10, api.OK},
		{strings.Repeat("\xff", 9) + "\x01", 0, math.MaxUint64, 10, api.OK},
		{"x" + nine + "\x01\x80", 1, 1 << 63, 11, api.OK},

		{"", -1, 0, 0, api.ErrArg},
		{"", 1, 0, 0, api.ErrArg},
		{"a", -1, 0, 0, api.ErrArg},
		{"a", 2, 0, 0, api.ErrArg},
		{"a", math.MinInt, 0, 0, api.ErrArg},
		{"a", math.MaxInt, 0, 0, api.ErrArg},

		{"", 0, 0, 0, api.ErrVarintShort},
		{"a", 1, 0, 0, api.ErrVarintShort},
		{"\x80", 0, 0, 0, api.ErrVarintShort},
		{"\x01\xff", 1, 0, 0, api.ErrVarintShort},
		{nine, 0, 0, 0, api.ErrVarintShort},

		{"\x80\x00", 0, 0, 0, api.ErrVarintLong},
		{"\xff\x80\x00", 0, 0, 0, api.ErrVarintLong},
		{"\x80\x00\x01", 0, 0, 0, api.ErrVarintLong},
		{nine + "\x00", 0, 0, 0, api.ErrVarintLong},
		{nine + "\x02", 0, 0, 0, api.ErrVarintLong},
		{nine + "\x7f", 0, 0, 0, api.ErrVarintLong},
		{nine + "\x80", 0, 0, 0, api.ErrVarintLong},
		{nine + "\x81\x00", 0, 0, 0, api.ErrVarintLong},
		{nine + "\xff", 0, 0, 0, api.ErrVarintLong},
		{nine + "\x80\x01", 0, 0, 0, api.ErrVarintLong},
	} {
		if n, to, e := Get(x.s, x.at); n != x.n || to != x.to || e != x.e {
			t.Errorf("Get(%x, %d): %d, %d, %d, want %d, %d, %d", x.s, x.at, n, to, e, x.n, x.to, x.e)
		}
	}
}

// P1.3

func TestZigAndZag(t *testing.T) {
	for n, want := range map[int64]uint64{
		0: 0, -1: 1, 1: 2, -2: 3, 2: 4, 63: 126, -64: 127, 64: 128,
		math.MaxInt64: math.MaxUint64 - 1, math.MinInt64: math.MaxUint64,
	} {
		if z := Zig(n); z != want {
			t.Errorf("Zig(%d): %d, want %d", n, z, want)
		}
		if z := Zag(want); z != n {
			t.Errorf("Zag(%d): %d, want %d", want, z, n)
		}
	}
}

func TestZagTurnsZigBack(t *testing.T) {
	for _, n := range edges() {
		if z := Zag(Zig(int64(n))); z != int64(n) {
			t.Errorf("Zag(Zig(%d)): %d", int64(n), z)
		}
		if z := Zig(Zag(n)); z != n {
			t.Errorf("Zig(Zag(%d)): %d", n, z)
		}
	}
}

// P1.4

func TestPutText(t *testing.T) {
	long := strings.Repeat("x", 300)
	for s, want := range map[string]string{
		"": "\x00", "hello": "\x05hello", "\x00\x80": "\x02\x00\x80", "\xe2\x82\xac": "\x03\xe2\x82\xac",
		long[:127]: "\x7f" + long[:127], long[:128]: "\x80\x01" + long[:128], long: "\xac\x02" + long,
	} {
		if b := PutText(s); b != want {
			t.Errorf("PutText(%q): %q", s, b)
		}
	}
}

func TestGetText(t *testing.T) {
	huge := Put(math.MaxUint64)
	for _, x := range []struct {
		s        string
		at, most int
		want     string
		to       int
		e        api.Errno
	}{
		{"\x00", 0, 0, "", 1, api.OK},
		{"\x03abcd", 0, 3, "abc", 4, api.OK},
		{"\x03abc", 0, math.MaxInt, "abc", 4, api.OK},
		{"zz\x02\x80\x00", 2, 9, "\x80\x00", 5, api.OK},
		{"a\x00", 1, 0, "", 2, api.OK},

		{"\x03abc", -1, 9, "", 0, api.ErrArg},
		{"\x03abc", 5, 9, "", 0, api.ErrArg},
		{"\x03abc", 4, 9, "", 0, api.ErrVarintShort},
		{"\x80", 0, 9, "", 0, api.ErrVarintShort},
		{"\x80\x00", 0, 9, "", 0, api.ErrVarintLong},

		{"\x03abcd", 0, 2, "", 0, api.ErrBig},
		{"\x01a", 0, 0, "", 0, api.ErrBig},
		{"\x00", 0, -1, "", 0, api.ErrBig},
		{"\x01a", 0, -1, "", 0, api.ErrBig},
		{"\x01a", 0, math.MinInt, "", 0, api.ErrBig},
		{huge, 0, math.MaxInt, "", 0, api.ErrBig},
		{Put(1 << 63), 0, math.MaxInt, "", 0, api.ErrBig},
		{Put(1 << 32), 0, 9, "", 0, api.ErrBig},

		{"\x03ab", 0, 3, "", 0, api.ErrVarintShort},
		{"\x01", 0, 1, "", 0, api.ErrVarintShort},
		{"abc\x02d", 3, 9, "", 0, api.ErrVarintShort},
		{Put(math.MaxInt) + "a", 0, math.MaxInt, "", 0, api.ErrVarintShort},

		// Several errors apply: Get's is first, then ErrBig.
		{"a", 2, -1, "", 0, api.ErrArg},
		{"", 0, -1, "", 0, api.ErrVarintShort},
		{"\x80\x00", 0, -1, "", 0, api.ErrVarintLong},
		{"\x03ab", 0, 2, "", 0, api.ErrBig},
	} {
		if s, to, e := GetText(x.s, x.at, x.most); s != x.want || to != x.to || e != x.e {
			t.Errorf("GetText(%q, %d, %d): %q, %d, %d, want %q, %d, %d", x.s, x.at, x.most, s, to, e, x.want, x.to, x.e)
		}
	}
}

var kept string

func TestTextsAreNewMemory(t *testing.T) {
	s := PutText(strings.Repeat("x", 100))
	if n := testing.AllocsPerRun(10, func() { kept, _, _ = GetText(s, 0, 100) }); n < 1 {
		t.Error("the text lies within the bytes that were handed in")
	}
}

// P1.5

func TestPutIsGotWhateverStandsAround(t *testing.T) {
	around := []string{"", "\x00", "\x01", "\x7f", "\x80", "\xff", "\x80\x00", strings.Repeat("\xff", 12)}
	for _, n := range edges() {
		for _, ahead := range around {
			for _, behind := range around {
				s := ahead + Put(n) + behind
				if m, to, e := Get(s, len(ahead)); m != n || to != len(s)-len(behind) || e != api.OK {
					t.Fatalf("%x at %d: %d, %d, %d, want %d", s, len(ahead), m, to, e, n)
				}
			}
		}
	}
}

func TestTextsAreGotWhateverStandsAround(t *testing.T) {
	long := strings.Repeat("\x80", 20000)
	for _, text := range []string{"", "a", "\x00", long[:127], long[:128], long} {
		for _, behind := range []string{"", "\x00", "\xff"} {
			s := "\x81" + PutText(text) + behind
			got, to, e := GetText(s, 1, len(text))
			if got != text || to != len(s)-len(behind) || e != api.OK {
				t.Errorf("a text of %d: one of %d, %d, %d", len(text), len(got), to, e)
			}
		}
	}
}

func TestNoOtherBytesAreANumbers(t *testing.T) {
	check := func(s string) {
		n, to, e := Get(s, 0)
		if e == api.OK && Put(n) != s[:to] {
			t.Errorf("%x was got as %d", s, n)
		}
		if e != api.OK && (n != 0 || to != 0) {
			t.Errorf("%x: beside an error: %d, %d", s, n, to)
		}
	}
	for n := range 1 << 16 {
		short := string([]byte{byte(n), byte(n >> 8)})
		check(short)
		check("\x80" + short)
		check(strings.Repeat("\x80", 8) + short)
		check(strings.Repeat("\xff", 9) + short)
	}
}

func TestLessHaveNoMoreBytes(t *testing.T) {
	l := edges()
	for _, a := range l {
		for _, b := range l {
			if a < b && (Size(a) > Size(b) || len(Put(a)) > len(Put(b))) {
				t.Errorf("%d has more bytes than %d", a, b)
			}
		}
	}
}
