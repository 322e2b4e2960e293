package frame_test

import (
	"hash/crc32"
	"strings"
	"testing"

	"primer/api"
	"primer/frame"
)

// bodies of ordinary and of odd bytes, and of lengths about those at which the length has a byte more.
func bodies() []string {
	return []string{
		"", "\x00", "\xff", "a", "123456789", "\x00\x00\x00\x00", "\xff\xff\xff\xff", "a body of some bytes\n",
		strings.Repeat("ab\x00", 85), strings.Repeat("\x00", 255), strings.Repeat("\x00", 256), strings.Repeat("z\xff", 200),
	}
}

// slowSum goes bit by bit, as the document tells it.
func slowSum(s string) uint32 {
	r := uint32(0xFFFFFFFF)
	for k := range len(s) {
		r ^= uint32(s[k])
		for range 8 {
			out := r & 1
			r >>= 1
			if out == 1 {
				r ^= 0xEDB88320
			}
		}
	}
	return ^r
}

func mustNotOpen(t *testing.T, s string, want api.Errno) {
	t.Helper()
	if body, err := frame.Open(s); body != "" || err != want {
		t.Errorf("%.20x, %d bytes: body of %d bytes, %d, not %d", s, len(s), len(body), err, want)
	}
}

func TestSum(t *testing.T) {
	for s, want := range map[string]uint32{
		"":          0,
		"123456789": 0xCBF43926,
		"a":         0xE8B7BE43,
		"\x00":      0xD202EF8D,
		"\xff":      0xFF000000,
	} {
		if sum := frame.Sum(s); sum != want {
			t.Errorf("%q: %08x, not %08x", s, sum, want)
		}
	}
}

func TestSumOfAllPairs(t *testing.T) {
	for a := range 256 {
		for b := range 256 {
			s := string([]byte{byte(a), byte(b), 'z'})
			if sum := frame.Sum(s); sum != slowSum(s) || sum != crc32.ChecksumIEEE([]byte(s)) {
				t.Fatalf("%x: %08x", s, sum)
			}
		}
	}
	long := strings.Repeat("a long text \x00\xff", api.MaxFrame/14)
	if frame.Sum(long) != slowSum(long) {
		t.Error("a long text")
	}
}

func TestWrap(t *testing.T) {
	for _, c := range [][2]string{
		{"", "\x00" + "\x8d\xef\x02\xd2"},
		{"a", "\x01\x01a" + "\xaa\xd3\x2d\xdd"},
	} {
		if s := frame.Wrap(c[0]); s != c[1] {
			t.Errorf("Wrap(%q): %x, not %x", c[0], s, c[1])
		}
	}
	for _, body := range bodies() {
		s := frame.Wrap(body)
		end := len(s) - 4
		sum := slowSum(s[:end])
		if s[end:] != string([]byte{byte(sum), byte(sum >> 8), byte(sum >> 16), byte(sum >> 24)}) {
			t.Errorf("%x: not its sum", s)
		}
		if got, err := frame.Open(s); got != body || err != api.OK {
			t.Errorf("%x: %x %d", s, got, err)
		}
	}
}

func TestWrapAtTheLimit(t *testing.T) {
	body := strings.Repeat("x", api.MaxFrame)
	s := frame.Wrap(body)
	if !strings.HasPrefix(s, "\x03\x10\x00\x00x") || len(s) != 4+api.MaxFrame+4 {
		t.Errorf("%.9x, %d bytes", s, len(s))
	}
	if got, err := frame.Open(s); got != body || err != api.OK {
		t.Error(len(got), err)
	}
	if s := frame.Wrap(body + "x"); s != "" {
		t.Error(len(s))
	}
}

func TestOpenErrors(t *testing.T) {
	whole := frame.Wrap("body")
	tooLong := "\x03\x10\x00\x01" + strings.Repeat("x", api.MaxFrame+1)
	for _, c := range []struct {
		s    string
		want api.Errno
	}{
		// of the length
		{"", api.ErrShort},
		{"\x01", api.ErrShort},
		{"\x08", api.ErrForm},
		{"\x80", api.ErrForm},
		{"\x01\x00" + whole, api.ErrForm},
		{"\x02\x00\x04" + whole[2:], api.ErrForm},
		{"\x07\xff\xff\xff\xff\xff\xff\xff", api.ErrForm},
		{"\x81\x01", api.ErrForm},
		{"\x81\x04" + whole[2:], api.ErrForm},
		{"\x87\x20\x00\x00\x00\x00\x00\x00", api.ErrForm},
		{"\x03\x10\x00\x01", api.ErrLong},
		{"\x07\x20\x00\x00\x00\x00\x00\x00", api.ErrLong},
		{tooLong, api.ErrLong},
		{tooLong + "sums", api.ErrLong},
		{tooLong + "sums and more", api.ErrLong},
		// of the end
		{"\x00", api.ErrShort},
		{"\x00\x8d\xef\x02", api.ErrShort},
		{"\x03\x10\x00\x00", api.ErrShort},
		{whole[:2], api.ErrShort},
		{whole[:len(whole)-1], api.ErrShort},
		{whole + "\x00", api.ErrTail},
		{whole + whole, api.ErrTail},
		{"\x01\x03" + whole[2:], api.ErrTail},
		{"\x01\x05" + whole[2:], api.ErrShort},
		// of the sum
		{"\x00\x00\x00\x00\x00", api.ErrSum},
		{"\x00\xd2\x02\xef\x8d", api.ErrSum},
		{"\x01\x04bodi" + whole[6:], api.ErrSum},
		{whole[:len(whole)-1] + "\x00", api.ErrSum},
	} {
		mustNotOpen(t, c.s, c.want)
	}
}

// patterns by which up to four bytes in a row are changed.
func patterns() [][]byte {
	var l [][]byte
	for b := 1; b < 256; b++ {
		x := byte(b)
		l = append(l, []byte{x}, []byte{x, x}, []byte{x, 0, x}, []byte{x, ^x, x, x}, []byte{1, 0, 0, x}, []byte{x, 0x83, 0xB8, 0xED}, []byte{0x20, 0x83, 0xB8, x})
	}
	return l
}

func TestSpoilt(t *testing.T) {
	for _, body := range bodies() {
		whole := frame.Wrap(body)
		for at := range len(whole) {
			for k, p := range patterns() {
				few := len(whole) > 50 && k%16 != at%16 // of long ones not all: that would take long
				if few || at+len(p) > len(whole) {
					continue
				}
				b := []byte(whole)
				for k, x := range p {
					b[at+k] ^= x
				}
				if got, err := frame.Open(string(b)); got != "" || err == api.OK {
					t.Fatalf("%x, changed at %d by %x, was opened", whole, at, p)
				}
			}
		}
	}
}

func TestCutOffOrWithMore(t *testing.T) {
	for _, body := range bodies() {
		whole := frame.Wrap(body)
		for end := range len(whole) {
			mustNotOpen(t, whole[:end], api.ErrShort)
		}
		for b := range 256 {
			mustNotOpen(t, whole+string([]byte{byte(b)}), api.ErrTail)
		}
		for _, more := range bodies() {
			mustNotOpen(t, whole+frame.Wrap(more), api.ErrTail)
		}
	}
}
