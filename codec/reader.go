package codec

import "innkeeper/api"

const (
	// bits is how many bits of a number a byte has.
	bits = 7
	// more is set in each byte of a number but the last one.
	more = 1 << bits
)

// number returns the number of an integer. Negative ones are between the others, so that small ones have few bytes too.
func number(n int) uint64 {
	if n < 0 {
		return 2*uint64(^n) + 1
	}
	return 2 * uint64(n)
}

// integer returns the integer that has a number.
func integer(u uint64) int {
	if u%2 == 1 {
		return ^int(u / 2)
	}
	return int(u / 2)
}

// reader reads bytes from a position on; its methods panic where the bytes are not those of what is read.
type reader struct {
	b  []byte
	at int
}

// must panics with ErrForm unless what is said is true.
func must(is bool) {
	if !is {
		panic(api.ErrForm)
	}
}

// next reads a byte.
func (r *reader) next() byte {
	must(r.at < len(r.b))
	r.at++
	return r.b[r.at-1]
}

// integer reads an integer.
func (r *reader) integer() int {
	var u uint64
	for shift := 0; ; shift += bits {
		x := r.next()
		part := uint64(x % more)
		must(part<<shift>>shift == part)
		u |= part << shift
		if x < more {
			// Two forms of one integer would make two forms of one list: a last byte of 0 says nothing.
			must(x > 0 || shift == 0)
			return integer(u)
		}
	}
}

// list reads a list.
func (r *reader) list() []int {
	n := r.integer()
	must(0 <= n && n <= api.MaxInts)
	l := make([]int, n)
	for i := range l {
		l[i] = r.integer()
	}
	return l
}

// end reads that there is nothing more.
func (r *reader) end() {
	must(r.at == len(r.b))
}
