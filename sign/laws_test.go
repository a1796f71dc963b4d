package sign_test

import (
	"encoding/binary"
	"fmt"
	"hash/fnv"
	"math/big"
	"math/rand"
	"slices"
	"testing"

	"innkeeper/api"
	"innkeeper/sign"
)

// bigOf returns a number of any size.
func bigOf(n int) *big.Int { return big.NewInt(int64(n)) }

// powerOf returns a to the power of x modulo P, which math/big computes.
func powerOf(a, x int) int {
	return int(new(big.Int).Exp(bigOf(a), bigOf(x), bigOf(api.P)).Int64())
}

// reduced returns the remainder of a number modulo Q, from 0 on.
func reduced(n *big.Int) int {
	return int(new(big.Int).Mod(n, bigOf(api.Q)).Int64())
}

// challengeOf returns the challenge of integers, which the standard library computes.
func challengeOf(l ...int) int {
	h := fnv.New64a()
	nothing := h.Sum64()
	binary.Write(h, binary.BigEndian, nothing)
	for _, n := range l {
		fmt.Fprintf(h, "%d ", n)
	}
	return int(h.Sum64() % api.Q)
}

// rightOf reports whether a signature is right, as the words of the chapter say it.
func rightOf(public int, s api.Sig, message ...int) bool {
	shown := new(big.Int).Mul(bigOf(powerOf(api.G, s.S)), bigOf(powerOf(public, (api.Q-s.E)%api.Q)))
	first := int(shown.Mod(shown, bigOf(api.P)).Int64())
	return s.E == challengeOf(append([]int{first, public}, message...)...)
}

// someSecret returns a secret, often one of the first or of the last.
func someSecret(r *rand.Rand) int {
	switch r.Intn(4) {
	case 0:
		return 1 + r.Intn(9)
	case 1:
		return api.Q - 1 - r.Intn(9)
	}
	return 1 + r.Intn(api.Q-1)
}

// someElement returns an element, sometimes 1.
func someElement(r *rand.Rand) int {
	if r.Intn(10) == 0 {
		return 1
	}
	return powerOf(api.G, r.Intn(api.Q))
}

// someMessage returns a message of up to 5 integers with few and many digits.
func someMessage(r *rand.Rand) []int {
	l := make([]int, r.Intn(6))
	for i := range l {
		l[i] = int(r.Uint64()) >> r.Intn(64)
	}
	return l
}

// publicOf returns a public key.
func publicOf(t *testing.T, secret int) int {
	t.Helper()
	p, e := sign.Public(secret)
	if e != api.OK {
		t.Fatalf("Public(%d) = %v", secret, e)
	}
	return p
}

// sigOf returns a signature.
func sigOf(t *testing.T, secret, once int, message ...int) api.Sig {
	t.Helper()
	s, e := sign.Sign(secret, once, message...)
	if e != api.OK {
		t.Fatalf("Sign(%d, %d, %v) = %v", secret, once, message, e)
	}
	return s
}

// wantVerify checks whether a signature is right.
func wantVerify(t *testing.T, want bool, public int, s api.Sig, message ...int) {
	t.Helper()
	if right, e := sign.Verify(public, s, message...); right != want || e != api.OK {
		t.Fatalf("Verify(%d, %v, %v) = %v, %v; want %v", public, s, message, right, e, want)
	}
}

// TestElements checks P5.1 for E1: the elements are the squares modulo P, as math/big finds them.
func TestElements(t *testing.T) {
	r := rand.New(rand.NewSource(51))
	check := func(a int) {
		if want := 1 <= a && a < api.P && big.Jacobi(bigOf(a), bigOf(api.P)) == 1; sign.Member(a) != want {
			t.Fatalf("Member(%d) = %v; want %v", a, !want, want)
		}
	}
	for a := -2000; a <= 2000; a++ {
		check(a)
		check(api.P + a)
		check(api.Q + a)
		check(1<<31 + a)
		check(1<<32 + a)
	}
	for range 50000 {
		check(r.Intn(api.P))
		check(int(r.Uint64()))
	}
}

// TestPowers checks P5.1 for E2, and P5.2.
func TestPowers(t *testing.T) {
	r := rand.New(rand.NewSource(52))
	exp := func(a, x int) int {
		p, e := sign.Exp(a, x)
		if p != powerOf(a, x) || e != api.OK {
			t.Fatalf("Exp(%d, %d) = %d, %v; want %d", a, x, p, e, powerOf(a, x))
		}
		return p
	}
	ends := []int{0, 1, 2, api.Q / 2, api.Q - 2, api.Q - 1}
	for i := range 20000 {
		a, x, y := someElement(r), r.Intn(api.Q), r.Intn(api.Q)
		if i < len(ends)*len(ends) {
			x, y = ends[i%len(ends)], ends[i/len(ends)]
		}
		p := exp(a, x)
		if !sign.Member(p) {
			t.Fatalf("%d to the power of %d is %d, which is no element", a, x, p)
		}
		xy := reduced(new(big.Int).Mul(bigOf(x), bigOf(y)))
		if twice, once := exp(p, y), exp(a, xy); twice != once {
			t.Fatalf("%d to the power of %d and %d is %d; to that of %d it is %d", a, x, y, twice, xy, once)
		}
	}
}

// TestEachBit checks P5.1 for E2 with exponents around each power of 2.
func TestEachBit(t *testing.T) {
	for bit := range 30 {
		for near := -2; near <= 2; near++ {
			x := 1<<bit + near
			p, e := sign.Exp(api.G, x)
			if x < 0 && (p != 0 || e != api.ErrArg) || x >= 0 && (p != powerOf(api.G, x) || e != api.OK) {
				t.Errorf("Exp(4, %d) = %d, %v", x, p, e)
			}
		}
	}
}

// TestSigned checks P5.1 for E4 against math/big, and P5.3.
func TestSigned(t *testing.T) {
	r := rand.New(rand.NewSource(53))
	for range 10000 {
		secret, once, message := someSecret(r), someSecret(r), someMessage(r)
		public := publicOf(t, secret)
		if public != powerOf(api.G, secret) {
			t.Fatalf("Public(%d) = %d; want %d", secret, public, powerOf(api.G, secret))
		}
		e := challengeOf(append([]int{powerOf(api.G, once), public}, message...)...)
		want := api.Sig{E: e, S: reduced(new(big.Int).Add(bigOf(once), new(big.Int).Mul(bigOf(e), bigOf(secret))))}
		if s := sigOf(t, secret, once, message...); s != want {
			t.Fatalf("Sign(%d, %d, %v) = %v; want %v", secret, once, message, s, want)
		}
		wantVerify(t, true, public, want, message...)
	}
}

// TestOnceEach checks P5.3: the signatures of one message by one secret differ with the number used once, and all are right.
func TestOnceEach(t *testing.T) {
	seen := map[api.Sig]int{}
	for i := range 3000 {
		for _, once := range []int{1 + i, api.Q - 1 - i, api.Q/2 + i} {
			s := sigOf(t, 77, once, 1, 2, 3)
			if other, there := seen[s]; there {
				t.Fatalf("the numbers %d and %d both make %v", once, other, s)
			}
			seen[s] = once
			wantVerify(t, true, publicOf(t, 77), s, 1, 2, 3)
		}
	}
}

// TestChanged checks P5.4: with another E, S, message or key, a signature is right exactly if its words say so.
func TestChanged(t *testing.T) {
	r := rand.New(rand.NewSource(54))
	for range 5000 {
		secret, message := someSecret(r), append(someMessage(r), r.Intn(100))
		public := publicOf(t, secret)
		s := sigOf(t, secret, someSecret(r), message...)
		other := slices.Clone(message)
		other[r.Intn(len(other))] += 1 + r.Intn(9)
		key := someElement(r)
		for _, x := range []struct {
			public  int
			s       api.Sig
			message []int
		}{
			{public, api.Sig{E: r.Intn(api.Q), S: s.S}, message},
			{public, api.Sig{E: (s.E + 1) % api.Q, S: (s.S + secret) % api.Q}, message},
			{public, api.Sig{E: s.E, S: (s.S + 1) % api.Q}, message},
			{public, api.Sig{E: s.E, S: r.Intn(api.Q)}, message},
			{public, s, other},
			{public, s, message[1:]},
			{public, s, append(other, 0)},
			{key, s, message},
			{key, api.Sig{E: r.Intn(api.Q), S: r.Intn(api.Q)}, message},
		} {
			wantVerify(t, rightOf(x.public, x.s, x.message...), x.public, x.s, x.message...)
		}
		wantVerify(t, true, public, s, message...)
	}
}

// TestAgrees checks P5.4 where the challenge agrees with another S, another message or another key, each found by trying many.
func TestAgrees(t *testing.T) {
	for _, x := range []struct {
		public  int
		s       api.Sig
		message []int
	}{
		{1024, api.Sig{E: 877608114, S: 93073421}, []int{1}},
		{1024, api.Sig{E: 877608114, S: 653702552}, []int{1}},
		{1024, api.Sig{E: 877608114, S: 829554769}, []int{1}},
		{1024, api.Sig{E: 877608114, S: 1003847924}, []int{1}},
		{1024, api.Sig{E: 38522730, S: 192613657}, []int{1, 2}},
		{252882231, api.Sig{E: 38522730, S: 192613657}, []int{1, 2}},
		{1024, api.Sig{E: api.Q - 1, S: 2}, []int{794474921}},
		{1024, api.Sig{E: api.Q - 1, S: 2}, []int{968214384}},
		{1024, api.Sig{E: 0, S: 7}, []int{1820528201}},
		{1024, api.Sig{E: 0, S: 7}, []int{2001341327}},
	} {
		if !rightOf(x.public, x.s, x.message...) {
			t.Errorf("the words do not say that %v is right for %d and %v", x.s, x.public, x.message)
		}
		wantVerify(t, true, x.public, x.s, x.message...)
		wantVerify(t, false, x.public, x.s, append(x.message, 1)...)
	}
}

// TestOnce checks P5.5, with messages whose challenges differ and with ones whose challenges agree.
func TestOnce(t *testing.T) {
	r := rand.New(rand.NewSource(55))
	for range 5000 {
		secret, once := someSecret(r), someSecret(r)
		a := sigOf(t, secret, once, append(someMessage(r), 4)...)
		b := sigOf(t, secret, once, append(someMessage(r), 5)...)
		if a.E == b.E {
			t.Fatalf("two messages have the challenge %d", a.E)
		}
		inverse := new(big.Int).ModInverse(bigOf(a.E-b.E), bigOf(api.Q))
		if shown := reduced(inverse.Mul(inverse, bigOf(a.S-b.S))); shown != secret {
			t.Fatalf("%v and %v show %d; the secret is %d", a, b, shown, secret)
		}
	}
	if a, b := sigOf(t, 5, 7, 1820528201), sigOf(t, 5, 7, 2001341327); a != b {
		t.Errorf("the signatures with the challenge 0 are %v and %v", a, b)
	}
}

// TestSecrets checks P5.6: by samples, and by the order of G, which is the prime Q, so that no two exponents have the same power.
func TestSecrets(t *testing.T) {
	if !bigOf(api.P).ProbablyPrime(20) || !bigOf(api.Q).ProbablyPrime(20) || api.P != 2*api.Q+1 {
		t.Error("P and Q are not what the chapter says")
	}
	r := rand.New(rand.NewSource(56))
	seen := map[int]int{}
	see := func(secret int) {
		public := publicOf(t, secret)
		if other, there := seen[public]; there && other != secret {
			t.Fatalf("the secrets %d and %d both have the key %d", secret, other, public)
		}
		if public == 1 || !sign.Member(public) {
			t.Fatalf("the secret %d has the key %d", secret, public)
		}
		seen[public] = secret
	}
	for i := range 100000 {
		see(1 + i)
		see(api.Q - 1 - i)
		see(1 + r.Intn(api.Q-1))
	}
}
