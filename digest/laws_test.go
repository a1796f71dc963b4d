package digest_test

import (
	"fmt"
	"hash/fnv"
	"math"
	"math/rand"
	"slices"
	"strconv"
	"testing"

	"innkeeper/digest"
)

// someBytes returns n bytes, of which many are 0 or 255.
func someBytes(r *rand.Rand, n int) []byte {
	b := make([]byte, n)
	for i := range b {
		switch r.Intn(4) {
		case 0:
		case 1:
			b[i] = 255
		default:
			b[i] = byte(r.Intn(256))
		}
	}
	return b
}

// someInts returns n integers with few and many digits.
func someInts(r *rand.Rand, n int) []int {
	l := make([]int, n)
	for i := range l {
		l[i] = int(r.Uint64()) >> r.Intn(64)
	}
	return l
}

// TestAgainstLibrary checks P3.1 and the first half of P3.4 against the standard library's FNV-1a and its texts of integers.
func TestAgainstLibrary(t *testing.T) {
	r := rand.New(rand.NewSource(3))
	for range 5000 {
		b := someBytes(r, r.Intn(50))
		h := fnv.New64a()
		h.Write(b)
		if d := digest.Sum(b); d != h.Sum64() {
			t.Fatalf("Sum(%v) = %d; want %d", b, d, h.Sum64())
		}
		d, l := r.Uint64(), someInts(r, r.Intn(6))
		h = fnv.New64a()
		h.Write(numbered(d))
		for _, n := range l {
			fmt.Fprintf(h, "%d ", n)
		}
		if got := digest.Next(d, l...); got != h.Sum64() {
			t.Fatalf("Next(%d, %v) = %d; want %d", d, l, got, h.Sum64())
		}
	}
}

// TestOneByte checks P3.2 for each place of some bytes and each other byte there.
func TestOneByte(t *testing.T) {
	r := rand.New(rand.NewSource(32))
	for n := range 40 {
		b := someBytes(r, n)
		d := digest.Sum(b)
		for i := range b {
			for x := 1; x < 256; x++ {
				other := slices.Clone(b)
				other[i] ^= byte(x)
				if digest.Sum(other) == d {
					t.Fatalf("Sum(%v) = Sum(%v) = %d", b, other, d)
				}
			}
		}
	}
}

// zero are bytes whose digest is 0, so that it stays 0 with any number of bytes 0 after them.
func zero() []byte { return []byte{0xd5, 0x6b, 0xb9, 0x53, 0x42, 0x87, 0x08, 0x36} }

// TestAfter checks P3.3, with different bytes that have the same digest, and with ones that have different digests.
func TestAfter(t *testing.T) {
	r := rand.New(rand.NewSource(33))
	for n := range 300 {
		a, b := zero(), append(zero(), make([]byte, 1+n%9)...)
		after := someBytes(r, n)
		if x, y := digest.Sum(a), digest.Sum(b); x != 0 || y != 0 {
			t.Fatalf("Sum(%v) = %d, Sum(%v) = %d; want 0", a, x, b, y)
		}
		if x, y := digest.Sum(append(a, after...)), digest.Sum(append(b, after...)); x != y {
			t.Fatalf("after %v, Sum is %d and %d", after, x, y)
		}
		a, b = someBytes(r, r.Intn(20)), someBytes(r, r.Intn(20))
		same := digest.Sum(a) == digest.Sum(b)
		if x, y := digest.Sum(append(a, after...)), digest.Sum(append(b, after...)); (x == y) != same {
			t.Fatalf("after %v, Sum is %d and %d", after, x, y)
		}
	}
}

// otherDigits returns the integers whose texts differ from the one of n in exactly one digit.
func otherDigits(n int) []int {
	var l []int
	text := strconv.Itoa(n)
	for i, old := range text {
		for digit := '0'; old != '-' && digit <= '9'; digit++ {
			other := text[:i] + string(digit) + text[i+1:]
			// Texts with superfluous zeros, or of integers that are too great, are no texts of integers.
			if m, e := strconv.Atoi(other); e == nil && m != n && strconv.Itoa(m) == other {
				l = append(l, m)
			}
		}
	}
	return l
}

// digitLists returns lists of integers, some of them at the ends of what an integer can be.
func digitLists(r *rand.Rand) [][]int {
	lists := [][]int{
		{0}, {9}, {-1}, {10}, {-10}, {5, -1}, {1, 1, 1}, {0, 0, 0},
		{math.MaxInt}, {math.MinInt}, {math.MinInt, 0, math.MaxInt},
		{999999999}, {1000000000, -1000000000},
	}
	for n := range 12 {
		lists = append(lists, someInts(r, n))
	}
	return lists
}

// TestOtherDigit checks the second half of P3.4.
func TestOtherDigit(t *testing.T) {
	r := rand.New(rand.NewSource(34))
	for _, l := range digitLists(r) {
		for _, d := range []uint64{0, math.MaxUint64, r.Uint64()} {
			next := digest.Next(d, l...)
			for i, n := range l {
				for _, m := range otherDigits(n) {
					other := slices.Clone(l)
					other[i] = m
					if digest.Next(d, other...) == next {
						t.Fatalf("Next(%d, %v) = Next(%d, %v)", d, l, d, other)
					}
				}
			}
		}
	}
}

// TestOtherNumber checks P3.4 and P3.2 together: Next of two numbers that differ in one byte differs.
func TestOtherNumber(t *testing.T) {
	for shift := 0; shift < 64; shift += 8 {
		seen := map[uint64]bool{}
		for x := range uint64(256) {
			seen[digest.Next(x<<shift, 5, -1)] = true
		}
		if len(seen) != 256 {
			t.Errorf("numbers that differ in the byte %d bits up have %d digests; want 256", shift, len(seen))
		}
	}
}

// someLists returns lists of integers.
func someLists(r *rand.Rand) [][]int {
	l := make([][]int, r.Intn(6))
	for i := range l {
		l[i] = someInts(r, r.Intn(5))
	}
	return l
}

// TestFurther checks the first half of P3.5.
func TestFurther(t *testing.T) {
	r := rand.New(rand.NewSource(35))
	for range 2000 {
		l, last := someLists(r), someInts(r, r.Intn(5))
		want := digest.Next(digest.Chain(l), slices.Concat([]int{len(last)}, last)...)
		if d := digest.Chain(append(slices.Clone(l), last)); d != want {
			t.Fatalf("Chain of %v and %v = %d; want %d", l, last, d, want)
		}
	}
}

// TestChainsAfter checks the second half of P3.5, with two lists that were searched for because they have the same chain.
func TestChainsAfter(t *testing.T) {
	r := rand.New(rand.NewSource(351))
	a, b := [][]int{{2488977564293429914}}, [][]int{{1204332816920225856}}
	if x, y := digest.Chain(a), digest.Chain(b); x != 16701558913286476414 || y != x {
		t.Fatalf("Chain(%v) = %d, Chain(%v) = %d; want 16701558913286476414 for both", a, x, b, y)
	}
	for range 500 {
		after := someLists(r)
		if x, y := digest.Chain(slices.Concat(a, after)), digest.Chain(slices.Concat(b, after)); x != y {
			t.Fatalf("after %v, Chain is %d and %d", after, x, y)
		}
	}
}

// TestLastList checks P3.6.
func TestLastList(t *testing.T) {
	r := rand.New(rand.NewSource(36))
	for _, last := range digitLists(r) {
		for _, l := range [][][]int{nil, {{}}, {{1}, {2, 3}}, someLists(r)} {
			chain := digest.Chain(append(slices.Clone(l), last))
			for i, n := range last {
				for _, m := range otherDigits(n) {
					other := slices.Clone(last)
					other[i] = m
					if digest.Chain(append(slices.Clone(l), other)) == chain {
						t.Fatalf("Chain of %v and %v is the one with %v", l, last, other)
					}
				}
			}
		}
	}
}
