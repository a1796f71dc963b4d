package lexer_test

import (
	"math"
	"math/rand"
	"regexp"
	"slices"
	"strconv"
	"strings"
	"testing"

	"innkeeper/api"
	"innkeeper/lexer"
)

// The chapter's words as patterns: what stands between tokens, what is as long as a token that begins there, and what each kind may be.
var (
	gap     = regexp.MustCompile(`\A(?: |\n|#[^\n]*)*`)
	longest = regexp.MustCompile(`\A(?:[a-z]+|[0-9]+(?:\.[0-9]*)?|[-{}();,+*/<=%])`)
	shapes  = [5]*regexp.Regexp{
		api.TokName:   regexp.MustCompile(`\A[a-z]+\z`),
		api.TokNumber: regexp.MustCompile(`\A(?:[0-9]|[1-9][0-9]{1,8})\z`),
		api.TokMoney:  regexp.MustCompile(`\A(?:[0-9]|[1-9][0-9]{1,8})\.[0-9]{2}\z`),
		api.TokSign:   regexp.MustCompile(`\A[-{}();,+*/<=%]\z`),
	}
)

// kindOf returns the kind of a text, or 0.
func kindOf(text string) int {
	for kind := api.TokName; kind <= api.TokSign; kind++ {
		if !shapes[kind].MatchString(text) {
			continue
		}
		if x, err := strconv.ParseFloat(text, 64); kind == api.TokMoney && (err != nil || math.Round(100*x) > api.MaxCents) {
			continue
		}
		return kind
	}
	return 0
}

// read returns what the chapter says that Tokens returns.
func read(s string) ([]api.Token, api.Errno, int) {
	if len(s) > 20000 {
		return nil, api.ErrLimit, 0
	}
	var l []api.Token
	for rest := s; ; {
		rest = rest[len(gap.FindString(rest)):]
		line := 1 + strings.Count(s[:len(s)-len(rest)], "\n")
		if rest == "" {
			return l, api.OK, 0
		}
		text := longest.FindString(rest)
		kind := kindOf(text)
		if kind == 0 {
			return nil, api.ErrSyntax, line
		}
		if len(l) == 5000 {
			return nil, api.ErrLimit, line
		}
		l = append(l, api.Token{Kind: kind, Line: line, Text: text})
		rest = rest[len(text):]
	}
}

// result is what Tokens returns.
type result struct {
	tokens []api.Token
	e      api.Errno
	line   int
}

// resultOf returns what Tokens returns, and checks P7.6, and for P1 that there are no other errors, and zero values with those.
func resultOf(t *testing.T, s string) result {
	t.Helper()
	l, e, line := lexer.Tokens(s)
	last := 1
	for _, x := range l {
		if x.Kind < 1 || x.Kind != kindOf(x.Text) || x.Line < last {
			t.Fatalf("Tokens(%.200q) has %v after line %d", s, x, last)
		}
		last = x.Line
	}
	lines := 1 + strings.Count(s, "\n")
	fine := e == api.OK && line == 0 && len(l) <= 5000
	wrong := (e == api.ErrSyntax || e == api.ErrLimit) && len(l) == 0 && 1 <= line && line <= lines && len(s) <= 20000
	long := e == api.ErrLimit && len(l) == 0 && line == 0 && len(s) > 20000
	if last > lines || !fine && !wrong && !long {
		t.Fatalf("Tokens(%.200q) = %d tokens, %v, %d", s, len(l), e, line)
	}
	return result{l, e, line}
}

// same reports whether two results are equal.
func same(a, b result) bool {
	return slices.Equal(a.tokens, b.tokens) && a.e == b.e && a.line == b.line
}

// wantSame checks what Tokens returns against the patterns.
func wantSame(t *testing.T, s string) result {
	t.Helper()
	got := resultOf(t, s)
	l, e, line := read(s)
	if want := (result{l, e, line}); !same(got, want) {
		t.Fatalf("Tokens(%.200q) = %.300v; want %.300v", s, got, want)
	}
	return got
}

// digits returns a random text of digits.
func digits(r *rand.Rand, n int) string {
	b := make([]byte, n)
	for i := range b {
		b[i] = "0011234567899"[r.Intn(13)]
	}
	return string(b)
}

// someText returns the text of a token.
func someText(r *rand.Rand) string {
	for {
		text := digits(r, 1+r.Intn(10))
		switch r.Intn(5) {
		case 0:
			text = string("{}();,+-*/<=%"[r.Intn(13)])
		case 1:
			text += "." + digits(r, 2)
		case 2, 3:
			text = ""
			for range 1 + r.Intn(6) {
				text += string(rune('a' + r.Intn(26)))
			}
		}
		if kindOf(text) > 0 {
			return text
		}
	}
}

// someTokens returns tokens that can be joined.
func someTokens(r *rand.Rand, n int) []api.Token {
	var l []api.Token
	line := 1 + r.Intn(3)
	for range n {
		text := someText(r)
		l = append(l, api.Token{Kind: kindOf(text), Line: line, Text: text})
		if r.Intn(3) == 0 {
			line += r.Intn(4)
		}
	}
	return l
}

// someComment returns a comment, with any bytes but a line feed.
func someComment(r *rand.Rand) string {
	b := []byte("#")
	for range r.Intn(12) {
		b = append(b, "a1;#$ .\t\r\x00\xff\xc3\xa9\xe2\x80\xa8"[r.Intn(16)])
	}
	return string(b)
}

// someSource returns a source; each piece of it is wrong with a chance of one in rare (0: none is).
func someSource(r *rand.Rand, n, rare int) string {
	var b strings.Builder
	for range n {
		switch r.Intn(5) {
		case 0:
			b.WriteString(strings.Repeat("\n", r.Intn(3)))
		case 1:
			b.WriteString(someComment(r) + "\n")
		}
		text := someText(r)
		if rare > 0 && r.Intn(rare) == 0 {
			text = noTokens()[r.Intn(len(noTokens()))]
		}
		b.WriteString(text)
		// Digits that follow digits may be none, so that these are apart.
		if r.Intn(2) == 0 || kindOf(text) == api.TokNumber || kindOf(text) == api.TokMoney {
			b.WriteString(strings.Repeat(" ", 1+r.Intn(2)))
		}
	}
	return b.String()
}

// TestAllShortSources checks P7.1 and P7.6: all short strings of some bytes.
func TestAllShortSources(t *testing.T) {
	fine, wrong := 0, 0
	all := []string{""}
	for range 6 {
		var longer []string
		for _, s := range all {
			if wantSame(t, s).e == api.OK {
				fine++
			} else {
				wrong++
			}
			for _, x := range "a10. \n#;$" {
				longer = append(longer, s+string(x))
			}
		}
		all = longer
	}
	if fine < 5000 || wrong < 5000 {
		t.Errorf("%d sources are right, and %d are not; want many of both", fine, wrong)
	}
}

// TestSources checks P7.1 and P7.6: random sources, some of them near the limits.
func TestSources(t *testing.T) {
	r := rand.New(rand.NewSource(71))
	seen := map[api.Errno]int{}
	for i := range 8000 {
		seen[wantSame(t, someSource(r, r.Intn(30), 60)).e]++
		b := make([]byte, r.Intn(40))
		for k := range b {
			b[k] = byte(r.Intn(256))
			if r.Intn(3) > 0 {
				b[k] = "az0019. \n#;-$"[r.Intn(13)]
			}
		}
		seen[wantSame(t, string(b)).e]++
		if i%200 == 0 {
			seen[wantSame(t, strings.Repeat("; ", 4990)+someSource(r, 20, 20)).e]++
			seen[wantSame(t, strings.Repeat(" ", 19900)+someSource(r, 15, 60)).e]++
		}
	}
	if seen[api.OK] < 1000 || seen[api.ErrSyntax] < 1000 || seen[api.ErrLimit] < 20 {
		t.Errorf("results: %v; want many of each", seen)
	}
}

// TestThereAndBack checks P7.2 and G2: tokens are read from their text, which is as long as the chapter says.
func TestThereAndBack(t *testing.T) {
	r := rand.New(rand.NewSource(72))
	errors := 0
	for i := range 5000 {
		n := r.Intn(40)
		if i%50 == 0 {
			n = 2000 + r.Intn(3001)
		}
		l := someTokens(r, n)
		var want strings.Builder
		for k, x := range l {
			// The text has each token in its line, and a blank only where two are in the same one.
			feeds := x.Line - 1 - strings.Count(want.String(), "\n")
			want.WriteString(strings.Repeat("\n", feeds))
			if k > 0 && feeds == 0 {
				want.WriteString(" ")
			}
			want.WriteString(x.Text)
		}
		s, e := lexer.Join(l)
		if want.Len() > 20000 {
			errors++
			if s != "" || e != api.ErrLimit {
				t.Fatalf("Join of %d bytes: %.60q, %v", want.Len(), s, e)
			}
			continue
		}
		if s != want.String() || e != api.OK || !same(resultOf(t, s), result{tokens: l}) {
			t.Fatalf("Join(%.300v) = %.200q, %v; want %.200q", l, s, e, want.String())
		}
	}
	if errors < 10 {
		t.Errorf("only %d texts are too long", errors)
	}
}

// TestReadAgain checks P7.2: the text of what was read is read as the same.
func TestReadAgain(t *testing.T) {
	r := rand.New(rand.NewSource(721))
	fine := 0
	for range 10000 {
		first := resultOf(t, someSource(r, r.Intn(60), 100))
		if first.e != api.OK {
			continue
		}
		fine++
		s, e := lexer.Join(first.tokens)
		if e != api.OK || !same(resultOf(t, s), first) {
			t.Fatalf("%.300v is joined to %.200q, %v", first.tokens, s, e)
		}
	}
	for _, s := range []string{strings.Repeat(";", 5000), strings.Repeat("\n", 19999) + "a", strings.Repeat("a1", 2500)} {
		first := resultOf(t, s)
		if text, e := lexer.Join(first.tokens); e != api.OK || !same(resultOf(t, text), first) {
			t.Errorf("%.60q is joined to %.60q, %v", s, text, e)
		}
	}
	// This one is read, but its text is too long, since it has a blank after each token but the last one.
	long := resultOf(t, strings.Repeat("abcdef1", 2500))
	if s, e := lexer.Join(long.tokens); len(long.tokens) != 5000 || long.e != api.OK || s != "" || e != api.ErrLimit {
		t.Errorf("%d tokens, %v, are joined to %d bytes, %v", len(long.tokens), long.e, len(s), e)
	}
	if fine < 1000 {
		t.Errorf("only %d sources are right", fine)
	}
}

// TestMoreBlanks checks P7.3: more blanks where there is a blank, and comments between a blank and a line feed, or the end, change nothing.
func TestMoreBlanks(t *testing.T) {
	r := rand.New(rand.NewSource(73))
	for range 10000 {
		s := someSource(r, r.Intn(30), 100) + "a "
		var b strings.Builder
		for i := range len(s) {
			b.WriteByte(s[i])
			if s[i] != ' ' {
				continue
			}
			b.WriteString(strings.Repeat(" ", r.Intn(4)))
			if i+1 == len(s) || s[i+1] == '\n' {
				b.WriteString(someComment(r))
			}
		}
		if first := resultOf(t, s); !same(resultOf(t, b.String()), first) {
			t.Fatalf("%q and %q differ", s, b.String())
		}
	}
}

// TestMoreFeeds checks P7.3: line feeds between tokens, and comments with one, change only lines, and those as Line is defined.
func TestMoreFeeds(t *testing.T) {
	r := rand.New(rand.NewSource(731))
	for range 10000 {
		l := someTokens(r, r.Intn(30))
		var b strings.Builder
		line, extra := 1, 0
		for i := range l {
			for ; line < l[i].Line; line++ {
				b.WriteString("\n")
			}
			for range r.Intn(3) {
				b.WriteString([]string{"\n", " \n", someComment(r) + "\n", " " + someComment(r) + "\n "}[r.Intn(4)])
				extra++
			}
			b.WriteString(" " + l[i].Text)
			l[i].Line += extra
		}
		if got := resultOf(t, b.String()); !same(got, result{tokens: l}) {
			t.Fatalf("Tokens(%q) = %v; want %v", b.String(), got, l)
		}
	}
}

// both returns what a line feed between two sources leads to, by what each of them leads to.
func both(a, b result, lines int) result {
	if a.e != api.OK {
		return a
	}
	if b.e != api.OK {
		return result{e: b.e, line: b.line + lines}
	}
	all := slices.Clone(a.tokens)
	for _, x := range b.tokens {
		x.Line += lines
		all = append(all, x)
	}
	return result{tokens: all}
}

// TestTwoSources checks P7.4, and P7.5 where the first source has an error.
func TestTwoSources(t *testing.T) {
	r := rand.New(rand.NewSource(74))
	check := func(a, b string) {
		t.Helper()
		want := both(resultOf(t, a), resultOf(t, b), 1+strings.Count(a, "\n"))
		if got := resultOf(t, a+"\n"+b); !same(got, want) {
			t.Fatalf("%.200q and %.200q are read as %.300v; want %.300v", a, b, got, want)
		}
	}
	for range 10000 {
		check(someSource(r, r.Intn(20), 100), someSource(r, r.Intn(20), 100))
		check(someSource(r, r.Intn(5), 0)+someComment(r), someSource(r, r.Intn(5), 0))
	}
	for _, ends := range []string{"", "a", "1", "1.00", "#", "# a", "1.", ";", " ", "\n"} {
		for _, begins := range []string{"", "a", "1", "00", "#", ".00", ";", " ", "\n"} {
			check(ends, begins)
		}
	}
	check(strings.Repeat(";", 2500), strings.Repeat("a\n", 2500))
	check(strings.Repeat("a", 10000), strings.Repeat("a", 9999))
}

// TestLaterLines checks P7.5: the same error, whatever stands in the lines after it.
func TestLaterLines(t *testing.T) {
	r := rand.New(rand.NewSource(75))
	wrong := 0
	for i := range 5000 {
		s := someSource(r, 10+r.Intn(20), 15)
		if i%100 == 0 {
			s = strings.Repeat("a ", 5000) + someSource(r, 3, 0)
		}
		first := resultOf(t, s)
		if first.e == api.OK || len(s) > 20000 {
			continue
		}
		wrong++
		kept := strings.Join(strings.Split(s, "\n")[:first.line], "\n")
		for _, later := range []string{"", "\n", "\n$", "\n" + someSource(r, 10, 5), "\n" + strings.Repeat(";", 5001), "\n.5\n\xff", "\n" + someComment(r)} {
			if got := resultOf(t, kept+later); len(kept+later) <= 20000 && !same(got, first) {
				t.Fatalf("%.200q: %v; and %.200q: %v", s, first, kept+later, got)
			}
		}
	}
	if wrong < 1000 {
		t.Errorf("only %d sources are wrong", wrong)
	}
	wantError(t, "$\n"+strings.Repeat(" ", 19998), api.ErrSyntax, 1)
	wantError(t, "$\n"+strings.Repeat(" ", 19999), api.ErrLimit, 0)
}

// TestAllArguments checks P1: no call panics, errors are those of the chapter and come with zero values, and there are none where arguments are right.
func TestAllArguments(t *testing.T) {
	for _, n := range []int{19999, 20000, 20001, 1000000} {
		for _, x := range []string{"a", "0", "1", ".", ";", " ", "\n", "#", "$", "\xff", "1;", "# \n"} {
			wantSame(t, strings.Repeat(x, n/len(x)))
		}
	}
	numbers := []int{math.MinInt, math.MinInt + 1, -1 << 32, -1, 0, 1, 2, 3, 4, 5, 19999, 20000, 20001, 1 << 32, math.MaxInt - 1, math.MaxInt}
	texts := append(noTokens(), "", "a", "1", "1.00", ";", " ", "\n", "#", strings.Repeat("a", 19999), strings.Repeat("a", 100000))
	for _, kind := range numbers {
		for _, line := range numbers {
			for _, text := range texts {
				s, e := lexer.Join([]api.Token{{Kind: kind, Line: line, Text: text}})
				want, f := "", api.ErrArg
				if kind > 0 && kind == kindOf(text) && line > 0 {
					f = api.ErrLimit
					if line <= 20000 && line-1+len(text) <= 20000 {
						want, f = strings.Repeat("\n", line-1)+text, api.OK
					}
				}
				if s != want || e != f {
					t.Errorf("Join of kind %d, line %d, %.60q = %.60q, %v; want %v", kind, line, text, s, e, f)
				}
			}
		}
	}
}

// TestArgumentsStay checks the document's Rules: calls change no argument, share no memory with one or with another result, and are repeatable.
func TestArgumentsStay(t *testing.T) {
	const source = "rate 12 # high\nprice 99.50;"
	first := resultOf(t, source)
	kept := result{tokens: slices.Clone(first.tokens)}
	text, _ := lexer.Join(first.tokens)
	if !slices.Equal(first.tokens, kept.tokens) {
		t.Errorf("Join left %v", first.tokens)
	}
	clear(first.tokens[:cap(first.tokens)])
	if again := resultOf(t, source); !same(again, kept) {
		t.Errorf("first %v, then %v", kept, again)
	}
	if again, e := lexer.Join(kept.tokens); again != text || e != api.OK || text != "rate 12\nprice 99.50 ;" {
		t.Errorf("first %q, then %q, %v", text, again, e)
	}
}
