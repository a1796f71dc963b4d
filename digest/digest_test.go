package digest_test

import (
	"bytes"
	"math"
	"slices"
	"strconv"
	"strings"
	"testing"

	"innkeeper/digest"
)

const beginning uint64 = 14695981039346656037

// TestSum checks P3.1 for C1: the examples of the chapter, digests that the authors of FNV publish, and bytes that are no text.
func TestSum(t *testing.T) {
	for _, x := range []struct {
		b    []byte
		want uint64
	}{
		{nil, beginning},
		{[]byte{}, beginning},
		{[]byte("a"), 12638187200555641996},
		{[]byte("b"), 0xaf63df4c8601f1a5},
		{[]byte("fo"), 0x08985907b541d342},
		{[]byte("foobar"), 9625390261332436968},
		{[]byte("foobar\x00"), 0x34531ca7168b8f38},
		{[]byte{0}, 0xaf63bd4c8601b7df},
		{[]byte{0, 0}, 0x08328807b4eb6fed},
		{[]byte{0xff}, 0xaf64724c8602eb6e},
		{[]byte{0xd5, 0x6b, 0xb9, 0x53, 0x42, 0x87, 0x08, 0x36}, 0},
		{[]byte("127.0.0.1"), 0xaabafe7104d914be},
		{[]byte("chongo was here!\n"), 0x46810940eff5f915},
	} {
		if d := digest.Sum(x.b); d != x.want {
			t.Errorf("Sum(%q) = %d; want %d", x.b, d, x.want)
		}
	}
}

// numbered returns the bytes of a number of 64 bits, each written out from its place.
func numbered(d uint64) []byte {
	return []byte{byte(d >> 56), byte(d >> 48), byte(d >> 40), byte(d >> 32), byte(d >> 24), byte(d >> 16), byte(d >> 8), byte(d)}
}

// texts returns the texts of integers, each with a blank after it.
func texts(l ...int) string {
	s := ""
	for _, n := range l {
		s += strconv.FormatInt(int64(n), 10) + " "
	}
	return s
}

// TestNext checks P3.1 for C2, and the first half of P3.4, by texts that are written out.
func TestNext(t *testing.T) {
	for _, x := range []struct {
		d    uint64
		l    []int
		text string
	}{
		{97, []int{5, -1}, "\x00\x00\x00\x00\x00\x00\x00\x615 -1 "},
		{0, nil, "\x00\x00\x00\x00\x00\x00\x00\x00"},
		{0, []int{}, "\x00\x00\x00\x00\x00\x00\x00\x00"},
		{0, []int{0}, "\x00\x00\x00\x00\x00\x00\x00\x000 "},
		{0, []int{0, 0}, "\x00\x00\x00\x00\x00\x00\x00\x000 0 "},
		{1, []int{10, 100, 7}, "\x00\x00\x00\x00\x00\x00\x00\x0110 100 7 "},
		{0x0102030405060708, []int{-10}, "\x01\x02\x03\x04\x05\x06\x07\x08-10 "},
		{0x8182838485868788, []int{1}, "\x81\x82\x83\x84\x85\x86\x87\x881 "},
		{1 << 63, []int{1000000000}, "\x80\x00\x00\x00\x00\x00\x00\x001000000000 "},
		{math.MaxUint64, []int{math.MaxInt, math.MinInt}, "\xff\xff\xff\xff\xff\xff\xff\xff9223372036854775807 -9223372036854775808 "},
		{beginning, []int{1, 7}, "\xcb\xf2\x9c\xe4\x84\x22\x23\x251 7 "},
		{200, []int{233, 8364}, "\x00\x00\x00\x00\x00\x00\x00\xc8233 8364 "},
	} {
		if d, want := digest.Next(x.d, x.l...), digest.Sum([]byte(x.text)); d != want {
			t.Errorf("Next(%d, %v) = %d; want the digest %d of %q", x.d, x.l, d, want, x.text)
		}
	}
}

// TestChain checks P3.1 for C3, by the digests of the bytes that a chain consists of.
func TestChain(t *testing.T) {
	for _, x := range [][][]int{
		nil,
		{},
		{nil},
		{{}},
		{{}, {}},
		{{7}},
		{{7}, {}},
		{{7}, nil},
		{{}, {7}},
		{{7, 8}},
		{{7}, {8}},
		{{-1, 0, 12}, {math.MinInt}, {math.MaxInt, 3}, {}, {1, 2, 3, 4, 5, 6, 7, 8, 9, 10, 11}},
	} {
		want := beginning
		for _, l := range x {
			want = digest.Sum(slices.Concat(numbered(want), []byte(texts(len(l))), []byte(texts(l...))))
		}
		if d := digest.Chain(x); d != want {
			t.Errorf("Chain(%v) = %d; want %d", x, d, want)
		}
	}
	if d, want := digest.Chain([][]int{{7}, nil}), digest.Next(digest.Next(beginning, 1, 7), 0); d != want {
		t.Errorf("the chain of (7) and nothing is %d; want %d", d, want)
	}
}

// TestApart checks P3.1 where a shorter way to put lists together would make two of them one.
func TestApart(t *testing.T) {
	seen := map[uint64][][]int{}
	for _, l := range [][][]int{
		nil,
		{{}},
		{{}, {}},
		{{0}},
		{{0, 0}},
		{{0}, {0}},
		{{1, 2}},
		{{12}},
		{{1}, {2}},
		{{2}, {1}},
		{{2, 1}},
		{{1, -2}},
		{{-1, 2}},
		{{}, {1, 2}},
		{{1, 2}, {}},
		{{1, 7}},
		{{7}},
		{{1}, {1, 7}},
		{{1, 1, 7}},
		{{1, 1}, {7}},
	} {
		d := digest.Chain(l)
		if other, there := seen[d]; there {
			t.Errorf("Chain(%v) = Chain(%v) = %d", l, other, d)
		}
		seen[d] = l
	}
}

// TestTotal checks P1: every function ends for arguments of any form and size, and leaves them as they are.
func TestTotal(t *testing.T) {
	long := bytes.Repeat([]byte{0xff, 0, 0x80, '\n'}, 250000)
	many := make([]int, 100000)
	lists := make([][]int, 20000)
	for i := range many {
		many[i] = math.MinInt + i
	}
	for i := range lists {
		lists[i] = many[i : i+i%7 : i+7]
	}
	before, ints := slices.Clone(long), slices.Clone(many)
	digest.Sum(long)
	for _, d := range []uint64{0, 1, 1 << 63, math.MaxUint64} {
		digest.Next(d, many...)
		digest.Next(d)
	}
	digest.Chain(lists)
	if !bytes.Equal(long, before) || !slices.Equal(many, ints) {
		t.Error("arguments are changed")
	}
	for i, l := range lists {
		if len(l) != i%7 || (len(l) > 0 && &l[0] != &many[i]) {
			t.Fatalf("list %d is changed", i)
		}
	}
}

// TestSame checks P1 and the Rules: what a call returned depends on its arguments alone, not on earlier calls.
func TestSame(t *testing.T) {
	sum, next, chain := digest.Sum([]byte("foobar")), digest.Next(97, 5, -1), digest.Chain([][]int{{7}, {}})
	digest.Sum([]byte(strings.Repeat("x", 100)))
	digest.Next(1, 2, 3)
	digest.Chain([][]int{{1}})
	if digest.Sum([]byte("foobar")) != sum || digest.Next(97, 5, -1) != next || digest.Chain([][]int{{7}, {}}) != chain {
		t.Error("a digest is another one the second time")
	}
}
