package crc

import (
	"hash/crc32"
	"math"
	"runtime"
	"strings"
	"testing"

	"stagecoach/api"
	"stagecoach/varint"
)

// plainSum is the sum as the chapter's words say it, a step a bit.
func plainSum(s string) uint32 {
	c := uint32(math.MaxUint32)
	for _, b := range []byte(s) {
		c ^= uint32(b)
		for range 8 {
			lost := c & 1
			c >>= 1
			if lost == 1 {
				c ^= 0xedb88320
			}
		}
	}
	return ^c
}

// texts are some of many lengths and bytes.
func texts() []string {
	l := []string{"", "\x00", "\x00\x00", "\xff", "a", "123456789", "\xff\xff\xff\xff", "\xe2\x82\xac", "\x80\x00\x80"}
	n := uint32(1)
	for _, size := range []int{2, 3, 4, 5, 15, 16, 17, 127, 128, 300, 5000} {
		b := make([]byte, size)
		for i := range b {
			n = n*1664525 + 1013904223
			b[i] = byte(n >> 24)
		}
		l = append(l, string(b), strings.Repeat("\x00", size), strings.Repeat("\xff", size))
	}
	return l
}

// sums are some, with those at which one bit is 1, or 0.
func sums() []uint32 {
	l := []uint32{0, 1, 0xcbf43926, 0xedb88320, math.MaxUint32}
	for bit := range 32 {
		l = append(l, 1<<bit, ^(uint32(1) << bit))
	}
	return l
}

// turned is bytes with one bit turned over.
func turned(s string, bit int) string {
	b := []byte(s)
	b[bit/8] ^= 1 << (bit % 8)
	return string(b)
}

// P2.1

func TestSumExamples(t *testing.T) {
	for s, want := range map[string]uint32{
		"": 0, "123456789": 0xcbf43926, "a": 0xe8b7be43, "\x00": 0xd202ef8d,
		"\xff": 0xff000000, "\xff\xff\xff\xff": 0xffffffff,
		"The quick brown fox jumps over the lazy dog": 0x414fa339,
	} {
		if n := Sum(s); n != want {
			t.Errorf("Sum(%q): %08x, want %08x", s, n, want)
		}
	}
}

func TestSumOfEachByte(t *testing.T) {
	for n := range 256 {
		for _, s := range []string{string([]byte{byte(n)}), string([]byte{'x', byte(n)}), string([]byte{byte(n), 0, 'x'})} {
			if sum, want := Sum(s), plainSum(s); sum != want {
				t.Errorf("Sum(%x): %08x, want %08x", s, sum, want)
			}
		}
	}
}

func TestSumIsCrc32(t *testing.T) {
	for _, s := range texts() {
		n := Sum(s)
		if want := crc32.ChecksumIEEE([]byte(s)); n != want {
			t.Errorf("Sum of %d bytes: %08x, want %08x", len(s), n, want)
		}
		if want := plainSum(s); n != want {
			t.Errorf("Sum of %d bytes: %08x, and by the words %08x", len(s), n, want)
		}
	}
}

func TestMoreOfNoBytes(t *testing.T) {
	for _, sum := range sums() {
		if n := More(sum, ""); n != sum {
			t.Errorf("More(%08x, nothing): %08x", sum, n)
		}
	}
}

func TestMoreBehindNothing(t *testing.T) {
	for _, s := range texts() {
		if a, b := More(Sum(""), s), Sum(s); a != b {
			t.Errorf("%d bytes: %08x, and by Sum %08x", len(s), a, b)
		}
	}
}

func TestMoreGoesOnWhereverBytesAreCut(t *testing.T) {
	for _, s := range texts() {
		want := Sum(s)
		for i := 0; i <= len(s); i += 1 + i/40 {
			if n := More(Sum(s[:i]), s[i:]); n != want {
				t.Fatalf("%d bytes cut at %d: %08x, want %08x", len(s), i, n, want)
			}
		}
	}
}

func TestMoreByteByByte(t *testing.T) {
	for _, s := range texts() {
		sum := Sum("")
		for i := range len(s) {
			sum = More(sum, s[i:i+1])
		}
		if want := Sum(s); sum != want {
			t.Errorf("%d bytes: %08x, want %08x", len(s), sum, want)
		}
	}
}

func TestMoreOfAnySum(t *testing.T) {
	for _, sum := range sums() {
		for _, s := range texts() {
			if n, want := More(sum, s), crc32.Update(sum, crc32.IEEETable, []byte(s)); n != want {
				t.Errorf("More(%08x, %d bytes): %08x, want %08x", sum, len(s), n, want)
			}
		}
	}
}

// P2.2

func TestFrameExamples(t *testing.T) {
	for s, want := range map[string]string{
		"":          "\x00\x00\x00\x00\x00",
		"a":         "\x01a\x43\xbe\xb7\xe8",
		"\x00":      "\x01\x00\x8d\xef\x02\xd2",
		"123456789": "\x09123456789\x26\x39\xf4\xcb",
	} {
		if f := Frame(s); f != want {
			t.Errorf("Frame(%q): %x, want %x", s, f, want)
		}
	}
}

func TestFrameIsTextAndSum(t *testing.T) {
	for _, s := range texts() {
		n := plainSum(s)
		want := varint.PutText(s) + string([]byte{byte(n), byte(n >> 8), byte(n >> 16), byte(n >> 24)})
		if f := Frame(s); f != want {
			t.Errorf("Frame of %d bytes: %x, want %x", len(s), f, want)
		}
	}
}

func TestCut(t *testing.T) {
	a := "\x01a\x43\xbe\xb7\xe8"
	for _, x := range []struct {
		s        string
		at, most int
		want     string
		to       int
		e        api.Errno
	}{
		{a, 0, 1, "a", 6, api.OK},
		{a, 0, math.MaxInt, "a", 6, api.OK},
		{"\x00\x00\x00\x00\x00", 0, 0, "", 5, api.OK},
		{"zz" + a + a, 2, 9, "a", 8, api.OK},
		{"zz" + a + a, 8, 9, "a", 14, api.OK},

		// GetText's errors.
		{a, -1, 9, "", 0, api.ErrArg},
		{a, math.MinInt, 9, "", 0, api.ErrArg},
		{a, 7, 9, "", 0, api.ErrArg},
		{a, math.MaxInt, 9, "", 0, api.ErrArg},
		{"", 1, 9, "", 0, api.ErrArg},
		{a, 6, 9, "", 0, api.ErrVarintShort},
		{"", 0, 9, "", 0, api.ErrVarintShort},
		{"\x80", 0, 9, "", 0, api.ErrVarintShort},
		{"\x02a", 0, 9, "", 0, api.ErrVarintShort},
		{"\x07a\x43\xbe\xb7\xe8", 0, 9, "", 0, api.ErrVarintShort},
		{"\x80\x00\x00\x00\x00\x00", 0, 9, "", 0, api.ErrVarintLong},
		{a, 0, 0, "", 0, api.ErrBig},
		{a, 0, -1, "", 0, api.ErrBig},
		{"\x00\x00\x00\x00\x00", 0, -1, "", 0, api.ErrBig},
		{"\x00\x00\x00\x00\x00", 0, math.MinInt, "", 0, api.ErrBig},
		{varint.Put(math.MaxUint64) + a, 0, math.MaxInt, "", 0, api.ErrBig},
		{varint.Put(math.MaxInt) + a, 0, math.MaxInt, "", 0, api.ErrVarintShort},

		// Three, two, one and no byte where the four stand.
		{a[:5], 0, 9, "", 0, api.ErrCrcShort},
		{a[:4], 0, 9, "", 0, api.ErrCrcShort},
		{a[:3], 0, 9, "", 0, api.ErrCrcShort},
		{a[:2], 0, 9, "", 0, api.ErrCrcShort},
		{"\x00\x00\x00\x00", 0, 9, "", 0, api.ErrCrcShort},
		{"\x00", 0, 0, "", 0, api.ErrCrcShort},
		{"zzzz\x00", 4, 0, "", 0, api.ErrCrcShort},
		{a + a[:5], 6, 9, "", 0, api.ErrCrcShort},

		// Another's sum; the right one, the highest bytes first; one that isn't turned over at its end; the right one a byte behind.
		{"\x01b\x43\xbe\xb7\xe8", 0, 9, "", 0, api.ErrCrcSum},
		{"\x01a\x00\x00\x00\x00", 0, 9, "", 0, api.ErrCrcSum},
		{"\x01a\xe8\xb7\xbe\x43", 0, 9, "", 0, api.ErrCrcSum},
		{"\x01a\xbc\x41\x48\x17", 0, 9, "", 0, api.ErrCrcSum},
		{"\x01a\x00\x43\xbe\xb7\xe8", 0, 9, "", 0, api.ErrCrcSum},
		{"\x00\xff\xff\xff\xff", 0, 9, "", 0, api.ErrCrcSum},

		// Several errors apply: GetText's come first, then ErrCrcShort.
		{"\x01b", 0, 0, "", 0, api.ErrBig},
		{"\x01b\x00\x00", 0, 9, "", 0, api.ErrCrcShort},
	} {
		if s, to, e := Cut(x.s, x.at, x.most); s != x.want || to != x.to || e != x.e {
			t.Errorf("Cut(%x, %d, %d): %q, %d, %d, want %q, %d, %d", x.s, x.at, x.most, s, to, e, x.want, x.to, x.e)
		}
	}
}

func TestCutsErrorsAreGetTexts(t *testing.T) {
	s := "\x80\x00\x7f\x03abc\x04\xff\xff\xff\xff\xff\xff\xff\xff\xff\xff\x01\x80"
	for at := -2; at <= len(s)+2; at++ {
		for _, most := range []int{-1, 0, 3, 126, 127, math.MaxInt} {
			_, _, want := varint.GetText(s, at, most)
			text, to, e := Cut(s, at, most)
			if want != api.OK && e != want {
				t.Errorf("at %d, most %d: %d, want %d", at, most, e, want)
			}
			if e != api.OK && (text != "" || to != 0) {
				t.Errorf("at %d, most %d: beside an error: %q, %d", at, most, text, to)
			}
		}
	}
}

var kept string

// heldBytes is how many bytes are still held, once what isn't is let go.
func heldBytes() int64 {
	runtime.GC()
	var m runtime.MemStats
	runtime.ReadMemStats(&m)
	return int64(m.HeapAlloc)
}

func TestTextsAreNewMemory(t *testing.T) {
	const size = 1 << 24
	before := heldBytes()
	kept, _, _ = Cut(strings.Repeat("x", size)+Frame("hello"), size, 9)
	if kept != "hello" {
		t.Fatalf("%q", kept)
	}
	if more := heldBytes() - before; more >= size {
		t.Errorf("the text holds %d bytes: it lies within those that were handed in", more)
	}
}

// P2.3

func TestWhatIsFramedIsCut(t *testing.T) {
	for _, text := range texts() {
		for _, ahead := range []string{"", "\x00", "\x81", strings.Repeat("\xff", 12)} {
			for _, behind := range []string{"", "\x00", "\xff", "\x00\x00\x00\x00"} {
				s := ahead + Frame(text) + behind
				got, to, e := Cut(s, len(ahead), len(text))
				if got != text || to != len(s)-len(behind) || e != api.OK {
					t.Errorf("a text of %d: one of %d, %d, %d", len(text), len(got), to, e)
				}
			}
		}
	}
}

func TestFramesOneBehindTheOther(t *testing.T) {
	s := "\xff\x80"
	at := len(s)
	for _, text := range texts() {
		s += Frame(text)
	}
	end := len(s)
	s += "\x80\x00"
	for _, text := range texts() {
		got, to, e := Cut(s, at, 5000)
		if got != text || to != at+len(Frame(text)) || e != api.OK {
			t.Fatalf("at %d: a text of %d, %d, %d, want one of %d", at, len(got), to, e, len(text))
		}
		at = to
	}
	if at != end {
		t.Errorf("the last ends at %d, want %d", at, end)
	}
}

func TestOneBitTurnedOver(t *testing.T) {
	for _, text := range texts() {
		if len(text) > 300 {
			continue
		}
		f := Frame(text)
		from := 8 * varint.Size(uint64(len(text)))
		for bit := from; bit < 8*len(f); bit++ {
			for _, behind := range []string{"", f} {
				got, to, e := Cut(turned(f, bit)+behind, 0, len(text))
				if got != "" || to != 0 || e != api.ErrCrcSum {
					t.Errorf("a text of %d, bit %d turned over: one of %d, %d, %d", len(text), bit-from, len(got), to, e)
				}
			}
		}
	}
}

func TestOneBitTurnedOverInALongText(t *testing.T) {
	text := strings.Repeat("stagecoach", 500)
	f := Frame(text)
	from := 8 * varint.Size(uint64(len(text)))
	for bit := from; bit < 8*len(f); bit += 61 {
		if _, _, e := Cut(turned(f, bit), 0, len(text)); e != api.ErrCrcSum {
			t.Errorf("bit %d turned over: %d", bit-from, e)
		}
	}
}
