package codec_test

import (
	"bytes"
	"math"
	"math/big"
	"math/rand"
	"slices"
	"sort"
	"testing"

	"innkeeper/api"
	"innkeeper/codec"
)

// someInts returns n integers with few and many bytes.
func someInts(r *rand.Rand, n int) []int {
	l := make([]int, n)
	for i := range l {
		l[i] = int(r.Uint64()) >> r.Intn(64)
	}
	return l
}

// someLists returns up to n lists with up to 5 integers.
func someLists(r *rand.Rand, n int) [][]int {
	l := make([][]int, r.Intn(n+1))
	for i := range l {
		l[i] = someInts(r, r.Intn(6))
	}
	return l
}

// someBytes returns n bytes, of which many are small or have the bit with the value 128.
func someBytes(r *rand.Rand, n int) []byte {
	b := make([]byte, n)
	for i := range b {
		switch r.Intn(4) {
		case 0:
			b[i] = byte(r.Intn(4))
		case 1:
			b[i] = 128 + byte(r.Intn(2))
		default:
			b[i] = byte(r.Intn(256))
		}
	}
	return b
}

// putOf returns the bytes of a list that is not too long.
func putOf(t *testing.T, l []int) []byte {
	t.Helper()
	b, e := codec.Put(l)
	if e != api.OK {
		t.Fatalf("Put(%v) = %v", l, e)
	}
	return b
}

// framesOf returns the frames of lists, one after the other, and where each of them ends.
func framesOf(t *testing.T, lists [][]int) ([]byte, []int) {
	t.Helper()
	var b []byte
	ends := []int{0}
	for _, l := range lists {
		f, e := codec.Frame(l)
		if e != api.OK {
			t.Fatalf("Frame(%v) = %v", l, e)
		}
		b = append(b, f...)
		ends = append(ends, len(b))
	}
	return b, ends
}

// wantFrames checks what the frames of bytes are read as.
func wantFrames(t *testing.T, what string, b []byte, lists [][]int, size int) {
	t.Helper()
	if l, n, e := codec.Frames(b); !sameLists(l, lists) || n != size || e != api.OK {
		t.Fatalf("Frames(%v) = %v, %d, %v; want %v, %d (%s)", b, l, n, e, lists, size, what)
	}
}

// written returns the bytes of an integer as the chapter says them, computed with numbers of any size.
func written(n int) []byte {
	u := new(big.Int).Mul(big.NewInt(2), big.NewInt(int64(n)))
	if n < 0 {
		u.Neg(u).Sub(u, big.NewInt(1))
	}
	var b []byte
	for {
		var low big.Int
		u.DivMod(u, big.NewInt(128), &low)
		if u.Sign() == 0 {
			return append(b, byte(low.Int64()))
		}
		b = append(b, byte(low.Int64())+128)
	}
}

// writtenList returns the bytes of a list as the chapter says them.
func writtenList(l []int) []byte {
	b := written(len(l))
	for _, n := range l {
		b = append(b, written(n)...)
	}
	return b
}

// TestAgainstWritten checks P4.1 for D1 and D3, and the first half of P4.2.
func TestAgainstWritten(t *testing.T) {
	r := rand.New(rand.NewSource(4))
	for i := range 3000 {
		l := someInts(r, r.Intn(8))
		if i%100 == 0 {
			l = someInts(r, r.Intn(api.MaxInts+1))
		}
		want := writtenList(l)
		if b := putOf(t, l); !bytes.Equal(b, want) {
			t.Fatalf("Put(%v) = %v; want %v", l, b, want)
		}
		if b, e := codec.Frame(l); !bytes.Equal(b, framed(want)) || e != api.OK {
			t.Fatalf("Frame(%v) = %v, %v; want %v", l, b, e, framed(want))
		}
		if got, e := codec.Get(want); !slices.Equal(got, l) || e != api.OK {
			t.Fatalf("Get(%v) = %v, %v; want %v", want, got, e, l)
		}
	}
}

// TestEachInteger checks the first half of P4.2 for integers around each power of 2.
func TestEachInteger(t *testing.T) {
	for shift := range 64 {
		for near := -2; near <= 2; near++ {
			for _, n := range []int{1<<shift + near, -1<<shift + near} {
				l := []int{n}
				want := writtenList(l)
				if b := putOf(t, l); !bytes.Equal(b, want) {
					t.Errorf("Put(%d) = %v; want %v", n, b, want)
				}
				if got, e := codec.Get(want); !slices.Equal(got, l) || e != api.OK {
					t.Errorf("Get(%v) = %v, %v; want %d", want, got, e, n)
				}
			}
		}
	}
}

// shortLists returns, by their bytes, the lists that have up to 3 bytes.
func shortLists() map[string][]int {
	lists := map[string][]int{string(writtenList(nil)): nil}
	for n := -1 << 13; n < 1<<13; n++ {
		lists[string(writtenList([]int{n}))] = []int{n}
	}
	for a := -64; a < 64; a++ {
		for b := -64; b < 64; b++ {
			lists[string(writtenList([]int{a, b}))] = []int{a, b}
		}
	}
	return lists
}

// allBytes calls visit with all bytes up to 2 of them, and with those of 3 that begin in ways that differ.
func allBytes(visit func(b []byte)) {
	visit(nil)
	for x := range 1 << 8 {
		visit([]byte{byte(x)})
	}
	for x := range 1 << 16 {
		visit([]byte{byte(x >> 8), byte(x)})
		for _, first := range []byte{0, 1, 2, 3, 4, 5, 6, 126, 127, 128, 129, 130, 132, 192, 255} {
			visit([]byte{first, byte(x >> 8), byte(x)})
		}
	}
}

// TestAllShort checks P4.1 for D2, and both halves of P4.2, for short bytes, of which it is known which are those of lists.
func TestAllShort(t *testing.T) {
	lists := shortLists()
	found := 0
	allBytes(func(b []byte) {
		want, there := lists[string(b)]
		l, e := codec.Get(b)
		if (e == api.OK) != there || !slices.Equal(l, want) || !there && e != api.ErrForm {
			t.Fatalf("Get(%v) = %v, %v; want %v, %v", b, l, e, want, there)
		}
		if there {
			found++
		}
	})
	if found != len(lists) {
		t.Errorf("%d lists were read; want %d", found, len(lists))
	}
}

// TestReadBytes checks the second half of P4.2 for longer bytes: what is no list, often by little, and what is one.
func TestReadBytes(t *testing.T) {
	r := rand.New(rand.NewSource(42))
	read, not := 0, 0
	for range 200000 {
		b := someBytes(r, r.Intn(12))
		if r.Intn(2) == 0 {
			b = writtenList(someInts(r, r.Intn(4)))
			b[r.Intn(len(b))] = byte(r.Intn(256))
		}
		l, e := codec.Get(b)
		switch {
		case e == api.OK && !bytes.Equal(writtenList(l), b):
			t.Fatalf("Get(%v) = %v, whose bytes are %v", b, l, writtenList(l))
		case e == api.OK:
			read++
		case e != api.ErrForm || len(l) > 0:
			t.Fatalf("Get(%v) = %v, %v", b, l, e)
		default:
			not++
		}
	}
	if read < 10000 || not < 10000 {
		t.Errorf("%d bytes are those of a list, %d are not; want many of both", read, not)
	}
}

// TestTorn checks P4.3 for each byte at which frames can be cut.
func TestTorn(t *testing.T) {
	r := rand.New(rand.NewSource(43))
	cases := [][][]int{nil, {nil}, {nil, nil, nil}, {{5}, {6, 7}}, {someInts(r, 60), {1}, someInts(r, 100), nil}}
	for range 60 {
		cases = append(cases, someLists(r, 6))
	}
	for _, lists := range cases {
		b, ends := framesOf(t, lists)
		for cut := range len(b) + 1 {
			whole := sort.SearchInts(ends, cut+1) - 1
			wantFrames(t, "cut", b[:cut], lists[:whole], ends[whole])
		}
	}
}

// TestTornBehind checks P4.3 where what was cut off is still there, behind the end of what is read.
func TestTornBehind(t *testing.T) {
	b, ends := framesOf(t, [][]int{{1, 2}, {3}})
	for cut := ends[1]; cut < ends[2]; cut++ {
		torn := slices.Clone(b)[:cut]
		wantFrames(t, "cut", torn, [][]int{{1, 2}}, ends[1])
		if all := torn[:len(b)]; !bytes.Equal(all, b) {
			t.Fatalf("behind the bytes that were read there is %v now; want %v", all, b)
		}
	}
}

// TestAfterFrames checks P4.4: the rest is read as it is alone.
func TestAfterFrames(t *testing.T) {
	r := rand.New(rand.NewSource(44))
	for i := range 3000 {
		lists := someLists(r, 4)
		b, _ := framesOf(t, lists)
		rest := someBytes(r, r.Intn(30))
		switch i % 4 {
		case 1:
			rest, _ = framesOf(t, someLists(r, 4))
		case 2:
			rest, _ = framesOf(t, someLists(r, 4))
			rest = rest[:r.Intn(len(rest)+1)]
		case 3:
			more, _ := framesOf(t, someLists(r, 3))
			rest = slices.Concat(more, rest, more)
		}
		l, n, e := codec.Frames(rest)
		if e != api.OK {
			t.Fatalf("Frames(%v) = %v", rest, e)
		}
		wantFrames(t, "rest", slices.Concat(b, rest), slices.Concat(lists, l), len(b)+n)
	}
}

// TestChanged checks P4.5 for each byte of the last frame but the first three, and each other byte there.
func TestChanged(t *testing.T) {
	r := rand.New(rand.NewSource(45))
	cases := [][][]int{{nil}, {{5}}, {{5}, nil}, {nil, {0}}, {{math.MinInt, math.MaxInt}}, {{1, 2}, {3}, {0, -1, 64}}}
	for range 20 {
		cases = append(cases, append(someLists(r, 3), someInts(r, r.Intn(6))))
	}
	for _, lists := range cases {
		b, ends := framesOf(t, lists)
		last := len(lists) - 1
		for i := ends[last] + 3; i < len(b); i++ {
			for x := 1; x < 256; x++ {
				b[i] ^= byte(x)
				wantFrames(t, "changed", b, lists[:last], ends[last])
				b[i] ^= byte(x)
			}
		}
		wantFrames(t, "as it was", b, lists, len(b))
	}
}

// TestChangedBefore checks, together with P4.5, that a changed frame ends what is read, though there are whole ones after it.
func TestChangedBefore(t *testing.T) {
	lists := [][]int{{1}, {2, 3}, {4}}
	b, ends := framesOf(t, lists)
	for i := ends[1] + 3; i < ends[2]; i++ {
		b[i]++
		wantFrames(t, "changed", b, lists[:1], ends[1])
		b[i]--
	}
}

// TestBeginnings checks P4.6 among lists in the order of their bytes, where the beginning of another one would stand before it.
func TestBeginnings(t *testing.T) {
	r := rand.New(rand.NewSource(46))
	lists := [][]int{nil, {0}, {0, 0}, zeros(63), zeros(64), zeros(65), zeros(api.MaxInts)}
	for range 20000 {
		lists = append(lists, someInts(r, r.Intn(4)))
	}
	var all [][]byte
	for _, l := range lists {
		all = append(all, putOf(t, l))
	}
	slices.SortFunc(all, bytes.Compare)
	all = slices.CompactFunc(all, bytes.Equal)
	for i := range len(all) - 1 {
		if bytes.HasPrefix(all[i+1], all[i]) {
			t.Errorf("%v begins with %v", all[i+1], all[i])
		}
	}
}

// TestNoBeginning checks P4.6 from the other side: no beginning of the bytes of a list, and nothing longer, is read as a list.
func TestNoBeginning(t *testing.T) {
	r := rand.New(rand.NewSource(461))
	for range 500 {
		b := putOf(t, someInts(r, r.Intn(8)))
		for n := range len(b) {
			if l, e := codec.Get(b[:n]); len(l) > 0 || e != api.ErrForm {
				t.Fatalf("Get(%v), the beginning of %v, is %v, %v", b[:n], b, l, e)
			}
		}
		longer := append(slices.Clone(b), someBytes(r, 1+r.Intn(5))...)
		if l, e := codec.Get(longer); len(l) > 0 || e != api.ErrForm {
			t.Fatalf("Get(%v), longer than %v, is %v, %v", longer, b, l, e)
		}
	}
}

// TestTotal checks P1: every function ends for arguments of any form and size, and leaves them as they are.
func TestTotal(t *testing.T) {
	r := rand.New(rand.NewSource(1))
	for _, n := range []int{0, 1, 2, 3, 11, 12, 1000, api.MaxBytes, api.MaxBytes + 1, 3000000} {
		for _, b := range [][]byte{make([]byte, n), bytes.Repeat([]byte{128}, n), bytes.Repeat([]byte{255}, n), bytes.Repeat([]byte{192, 62}, n), someBytes(r, n)} {
			old := slices.Clone(b)
			if l, e := codec.Get(b); len(l) > 0 || (e == api.OK) != bytes.Equal(b, []byte{0}) {
				t.Errorf("Get of %d bytes = %d integers, %v", len(b), len(l), e)
			}
			if l, taken, e := codec.Frames(b); len(l) > 0 || taken != 0 || (e == api.ErrLimit) != (len(b) > api.MaxBytes) {
				t.Errorf("Frames of %d bytes = %d lists, %d, %v", len(b), len(l), taken, e)
			}
			if !bytes.Equal(b, old) {
				t.Errorf("%d bytes were changed", len(b))
			}
		}
		l := someInts(r, n)
		old := slices.Clone(l)
		b, e := codec.Put(l)
		f, other := codec.Frame(l)
		if (e == api.ErrLimit) != (n > api.MaxInts) || other != e || (len(b) == 0) != (e != api.OK) || (len(f) == 0) != (e != api.OK) {
			t.Errorf("Put and Frame of %d integers = %d bytes, %v; %d bytes, %v", n, len(b), e, len(f), other)
		}
		if !slices.Equal(l, old) {
			t.Errorf("%d integers were changed", n)
		}
	}
}

// TestOwnMemory checks that results share no memory with arguments, with each other, or with what a later call returns.
func TestOwnMemory(t *testing.T) {
	b, _ := framesOf(t, [][]int{{1, 2}, {3, 4}, nil, {5}})
	read := func() [][]int {
		l, _, _ := codec.Frames(b)
		return l
	}
	l, want := read(), [][]int{{1, 2}, {3, 4}, nil, {5}}
	for i := range l {
		l[i] = append(l[i], 7, 8, 9)
	}
	if again := read(); !sameLists(again, want) {
		t.Errorf("after what was read was changed, %v is read; want %v", again, want)
	}
	for i := range l {
		if !slices.Equal(l[i], append(slices.Clone(want[i]), 7, 8, 9)) {
			t.Errorf("list %d is %v after others were changed", i, l[i])
		}
	}
	said := []byte{4, 2, 4}
	got, _ := codec.Get(said)
	clear(said)
	if !slices.Equal(got, []int{1, 2}) {
		t.Errorf("what was read is %v after the bytes were changed", got)
	}
	one, _ := codec.Frame(want[0])
	two, _ := codec.Frame(want[0])
	clear(one[:cap(one)])
	if !bytes.Equal(two, framed([]byte{4, 2, 4})) {
		t.Errorf("a frame is %v after another one was changed", two)
	}
}
