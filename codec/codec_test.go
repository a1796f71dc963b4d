package codec_test

import (
	"bytes"
	"hash/fnv"
	"math"
	"slices"
	"testing"

	"innkeeper/api"
	"innkeeper/codec"
)

// zeros returns n integers 0.
func zeros(n int) []int { return make([]int, n) }

// framed returns bytes as a frame says them, whether or not they are those of a list.
func framed(b []byte) []byte {
	return marked(append([]byte{byte(len(b) >> 16), byte(len(b) >> 8), byte(len(b))}, b...))
}

// marked returns bytes with their digest after them, which the standard library makes.
func marked(b []byte) []byte {
	h := fnv.New64a()
	h.Write(b)
	return h.Sum(slices.Clone(b))
}

// TestPut checks P4.1 for D1: the example, integers at the ends of what so many bytes can say, and numbers of integers at theirs.
func TestPut(t *testing.T) {
	full := []byte{255, 255, 255, 255, 255, 255, 255, 255, 255}
	for _, x := range []struct {
		l    []int
		want []byte
	}{
		{[]int{0, -1, 64}, []byte{6, 0, 1, 128, 1}},
		{nil, []byte{0}},
		{[]int{}, []byte{0}},
		{[]int{0}, []byte{2, 0}},
		{[]int{0, 0}, []byte{4, 0, 0}},
		{[]int{1, -1, 2, -2}, []byte{8, 2, 1, 4, 3}},
		{[]int{63, -64}, []byte{4, 126, 127}},
		{[]int{64, -65}, []byte{4, 128, 1, 129, 1}},
		{[]int{128}, []byte{2, 128, 2}},
		{[]int{8191, -8192}, []byte{4, 254, 127, 255, 127}},
		{[]int{8192, -8193}, []byte{4, 128, 128, 1, 129, 128, 1}},
		{[]int{1000000000}, []byte{2, 128, 168, 214, 185, 7}},
		{[]int{1 << 62}, []byte{2, 128, 128, 128, 128, 128, 128, 128, 128, 128, 1}},
		{[]int{1<<62 - 1}, append(append([]byte{2, 254}, full[:7]...), 127)},
		{[]int{-1 << 62}, append(append([]byte{2}, full[:8]...), 127)},
		{[]int{-1<<62 - 1}, []byte{2, 129, 128, 128, 128, 128, 128, 128, 128, 128, 1}},
		{[]int{math.MaxInt}, append(append([]byte{2, 254}, full[:8]...), 1)},
		{[]int{math.MinInt}, append(append([]byte{2}, full...), 1)},
		{zeros(63), append([]byte{126}, make([]byte, 63)...)},
		{zeros(64), append([]byte{128, 1}, make([]byte, 64)...)},
		{zeros(api.MaxInts), append([]byte{192, 62}, make([]byte, api.MaxInts)...)},
	} {
		if b, e := codec.Put(x.l); !bytes.Equal(b, x.want) || e != api.OK {
			t.Errorf("Put(%v) = %v, %v; want %v", x.l, b, e, x.want)
		}
		if l, e := codec.Get(x.want); !slices.Equal(l, x.l) || e != api.OK {
			t.Errorf("Get(%v) = %v, %v; want %v", x.want, l, e, x.l)
		}
	}
	for _, n := range []int{api.MaxInts + 1, 2 * api.MaxInts, 1000000} {
		if b, e := codec.Put(zeros(n)); len(b) > 0 || e != api.ErrLimit {
			t.Errorf("Put of %d integers = %v, %v; want ErrLimit", n, b, e)
		}
	}
}

// long returns the bytes of a list of one integer whose bytes are n times the first one, and then the last one.
func long(n int, first, last byte) []byte {
	return append(append([]byte{2}, bytes.Repeat([]byte{first}, n)...), last)
}

// TestNoList checks P4.1 for D2 with bytes that no list has.
func TestNoList(t *testing.T) {
	for _, x := range []struct {
		why string
		b   []byte
	}{
		{"nothing", nil},
		{"nothing", []byte{}},
		{"the number goes on", []byte{128}},
		{"the number goes on", []byte{129, 255}},
		{"no integer", []byte{2}},
		{"an integer goes on", []byte{2, 128}},
		{"an integer goes on", []byte{2, 255, 255, 255}},
		{"an integer goes on", bytes.Repeat([]byte{128}, 100000)},
		{"an integer too few", []byte{6, 0, 0}},
		{"an integer too few", append([]byte{192, 62}, make([]byte, api.MaxInts-1)...)},
		{"a byte after the list", []byte{0, 0}},
		{"a byte after the list", []byte{2, 0, 0}},
		{"a byte after the list", []byte{2, 128, 1, 128}},
		{"a byte too many of an integer", []byte{2, 128, 0}},
		{"a byte too many of an integer", []byte{2, 255, 0}},
		{"a byte too many of an integer", []byte{2, 129, 128, 0}},
		{"a byte too many of the first of two", []byte{4, 128, 0, 0}},
		{"a byte too many of the number", []byte{128, 0}},
		{"a byte too many of the number", []byte{130, 0, 0}},
		{"a byte too many of 64 bits", long(10, 255, 0)},
		{"a byte too many of 0", long(9, 128, 0)},
		{"a byte too many of 0", long(20, 128, 0)},
		{"65 bits", long(9, 128, 2)},
		{"65 bits", long(9, 255, 3)},
		{"70 bits", long(9, 128, 64)},
		{"70 bits", long(9, 255, 127)},
		{"71 bits", long(10, 128, 1)},
		{"many bits", long(18, 128, 2)},
		{"64 bits, and 7 of 0", long(10, 129, 0)},
		{"-1 integers", []byte{1}},
		{"-1 integers", []byte{1, 0}},
		{"-2 integers", []byte{3}},
		{"4001 integers", append([]byte{194, 62}, make([]byte, api.MaxInts+1)...)},
		{"4001 integers, and none", []byte{194, 62}},
		{"8000 integers", append([]byte{128, 125}, make([]byte, 2*api.MaxInts)...)},
		{"the greatest number of integers", append(long(9, 255, 1)[1:], 0)},
		{"the least number of integers", append(bytes.Repeat([]byte{255}, 9), 1)},
		{"half of all integers", append(bytes.Repeat([]byte{128}, 9), 1)},
	} {
		if l, e := codec.Get(x.b); len(l) > 0 || e != api.ErrForm {
			t.Errorf("Get(%v) = %v, %v; want ErrForm (%s)", x.b, l, e, x.why)
		}
	}
}

// TestFrame checks P4.1 for D3: the example, with the digest that the standard library makes, and lists whose lengths need two bytes.
func TestFrame(t *testing.T) {
	wide := slices.Repeat([]int{math.MinInt}, api.MaxInts)
	for _, x := range []struct {
		l    []int
		want []byte
	}{
		{[]int{5}, []byte{0, 0, 2, 2, 10}},
		{nil, []byte{0, 0, 1, 0}},
		{[]int{}, []byte{0, 0, 1, 0}},
		{[]int{0, -1, 64}, []byte{0, 0, 5, 6, 0, 1, 128, 1}},
		{zeros(253), append([]byte{0, 0, 255, 250, 3}, make([]byte, 253)...)},
		{zeros(254), append([]byte{0, 1, 0, 252, 3}, make([]byte, 254)...)},
		{zeros(api.MaxInts), append([]byte{0, 15, 162, 192, 62}, make([]byte, api.MaxInts)...)},
		{wide, append([]byte{0, 156, 66, 192, 62}, bytes.Repeat(long(9, 255, 1)[1:], api.MaxInts)...)},
	} {
		want := marked(x.want)
		if b, e := codec.Frame(x.l); !bytes.Equal(b, want) || e != api.OK {
			t.Errorf("Frame of %d integers = %v, %v; want %v", len(x.l), b, e, want)
		}
		if l, n, e := codec.Frames(want); len(l) != 1 || !slices.Equal(l[0], x.l) || n != len(want) || e != api.OK {
			t.Errorf("Frames of the frame of %d integers = %v, %d, %v", len(x.l), l, n, e)
		}
	}
	for _, n := range []int{api.MaxInts + 1, 1000000} {
		if b, e := codec.Frame(zeros(n)); len(b) > 0 || e != api.ErrLimit {
			t.Errorf("Frame of %d integers = %v, %v; want ErrLimit", n, b, e)
		}
	}
}

// TestFrameOf5 checks the example of D3 with the digest written out.
func TestFrameOf5(t *testing.T) {
	want := []byte{0, 0, 2, 2, 10, 0xf6, 0x16, 0x0b, 0xd9, 0x2f, 0x01, 0xa2, 0xc5}
	if b, e := codec.Frame([]int{5}); !bytes.Equal(b, want) || e != api.OK {
		t.Errorf("Frame(5) = %v, %v; want %v", b, e, want)
	}
}

// TestFrames checks P4.1 for D4: what is read ends where no whole frame of a list begins.
func TestFrames(t *testing.T) {
	five, none := framed([]byte{2, 10}), framed([]byte{0})
	for _, x := range []struct {
		why   string
		b     []byte
		want  [][]int
		taken int
	}{
		{"nothing", nil, nil, 0},
		{"nothing", []byte{}, nil, 0},
		{"a byte", []byte{0}, nil, 0},
		{"two bytes", []byte{0, 0}, nil, 0},
		{"a length", []byte{0, 0, 0}, nil, 0},
		{"a length", []byte{255, 255, 255}, nil, 0},
		{"no bytes of a list, with their digest", framed(nil), nil, 0},
		{"a frame", five, [][]int{{5}}, 13},
		{"the frame of no integers", none, [][]int{nil}, 12},
		{"two frames", slices.Concat(five, none), [][]int{{5}, nil}, 25},
		{"the same frame three times", slices.Concat(five, five, five), [][]int{{5}, {5}, {5}}, 39},
		{"a byte before a frame", append([]byte{0}, five...), nil, 0},
		{"a byte between two frames", slices.Concat(five, []byte{0}, none), [][]int{{5}}, 13},
		{"a digest that is another one's", slices.Concat(five, none[:4], five[5:]), [][]int{{5}}, 13},
		{"a digest of the list's bytes alone", slices.Concat([]byte{0, 0, 2}, marked([]byte{2, 10})), nil, 0},
		{"a digest with the lowest byte first", func() []byte { b := slices.Clone(five); slices.Reverse(b[5:]); return b }(), nil, 0},
		{"a length with the lowest byte first", marked([]byte{2, 0, 0, 2, 10}), nil, 0},
		{"a length that is too great by 65536", marked([]byte{1, 0, 2, 2, 10}), nil, 0},
		{"a length that is too great by 256", marked([]byte{0, 1, 2, 2, 10}), nil, 0},
		{"a length that is too small", marked([]byte{0, 0, 1, 2, 10}), nil, 0},
		{"a byte too many in a frame", framed([]byte{2, 10, 0}), nil, 0},
		{"a byte too few in a frame", framed([]byte{4, 10}), nil, 0},
		{"an integer with a byte too many", framed([]byte{2, 138, 0}), nil, 0},
		{"-1 integers", framed([]byte{1}), nil, 0},
		{"4001 integers", framed(append([]byte{194, 62}, make([]byte, 4001)...)), nil, 0},
		{"a frame after one of no list", slices.Concat(five, framed([]byte{2}), five), [][]int{{5}}, 13},
		{"a frame within one of no list", slices.Concat(none, framed(five), five), [][]int{nil}, 12},
		{"a length of 65536 and more", framed(make([]byte, 1<<16+5)), nil, 0},
	} {
		l, n, e := codec.Frames(x.b)
		if !sameLists(l, x.want) || n != x.taken || e != api.OK {
			t.Errorf("Frames of %s = %v, %d, %v; want %v, %d", x.why, l, n, e, x.want, x.taken)
		}
	}
}

// sameLists says whether lists of lists are equal.
func sameLists(a, b [][]int) bool { return slices.EqualFunc(a, b, slices.Equal) }

// TestMaxBytes checks P4.1 for D4 at the greatest number of bytes.
func TestMaxBytes(t *testing.T) {
	none := framed([]byte{0})
	frames := bytes.Repeat(none, api.MaxBytes/len(none))
	rest := make([]byte, api.MaxBytes-len(frames))
	if l, n, e := codec.Frames(append(frames, rest...)); len(l) != 16666 || n != 16666*12 || e != api.OK {
		t.Errorf("Frames of 200000 bytes with 16666 frames = %d lists, %d, %v", len(l), n, e)
	}
	// The last one of these frames ends exactly at the limit.
	frames = append(bytes.Repeat(none, 16665), framed(append([]byte{16}, make([]byte, 8)...))...)
	if l, n, e := codec.Frames(frames); len(frames) != api.MaxBytes || len(l) != 16666 || len(l[16665]) != 8 || n != api.MaxBytes || e != api.OK {
		t.Errorf("Frames of %d bytes = %d lists, %d, %v", len(frames), len(l), n, e)
	}
	for _, b := range [][]byte{append(frames, 0), make([]byte, api.MaxBytes+1), bytes.Repeat(none, 20000), make([]byte, 10*api.MaxBytes)} {
		if l, n, e := codec.Frames(b); len(l) > 0 || n != 0 || e != api.ErrLimit {
			t.Errorf("Frames of %d bytes = %d lists, %d, %v; want ErrLimit", len(b), len(l), n, e)
		}
	}
	if l, n, e := codec.Frames(make([]byte, api.MaxBytes)); len(l) > 0 || n != 0 || e != api.OK {
		t.Errorf("Frames of 200000 bytes 0 = %v, %d, %v; want nothing", l, n, e)
	}
}
