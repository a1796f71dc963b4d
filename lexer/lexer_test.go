package lexer_test

import (
	"math"
	"slices"
	"strconv"
	"strings"
	"testing"

	"innkeeper/api"
	"innkeeper/lexer"
)

// The tokens of each kind, in a line.
func name(line int, s string) api.Token   { return api.Token{Kind: api.TokName, Line: line, Text: s} }
func number(line int, s string) api.Token { return api.Token{Kind: api.TokNumber, Line: line, Text: s} }
func amount(line int, s string) api.Token { return api.Token{Kind: api.TokMoney, Line: line, Text: s} }
func sign(line int, s string) api.Token   { return api.Token{Kind: api.TokSign, Line: line, Text: s} }

// wantTokens checks the tokens of a source.
func wantTokens(t *testing.T, s string, want ...api.Token) {
	t.Helper()
	if l, e, line := lexer.Tokens(s); !slices.Equal(l, want) || e != api.OK || line != 0 {
		t.Errorf("Tokens(%.60q) = %.300v, %v, %d; want %.300v", s, l, e, line, want)
	}
}

// wantError checks the error of a source, and its line.
func wantError(t *testing.T, s string, f api.Errno, at int) {
	t.Helper()
	if l, e, line := lexer.Tokens(s); len(l) > 0 || e != f || line != at {
		t.Errorf("Tokens(%.60q) = %d tokens, %v, %d; want %v, %d", s, len(l), e, line, f, at)
	}
}

// TestTokens checks P7.1 for G1.
func TestTokens(t *testing.T) {
	wantTokens(t, "rate 12 # high\nprice 99.50;", name(1, "rate"), number(1, "12"), name(2, "price"), amount(2, "99.50"), sign(2, ";"))
	wantTokens(t, "12ab", number(1, "12"), name(1, "ab"))
	wantTokens(t, "ab12", name(1, "ab"), number(1, "12"))
	wantTokens(t, "a1b2.00c", name(1, "a"), number(1, "1"), name(1, "b"), amount(1, "2.00"), name(1, "c"))
	wantTokens(t, "0x1", number(1, "0"), name(1, "x"), number(1, "1"))
	wantTokens(t, "1e5", number(1, "1"), name(1, "e"), number(1, "5"))
	wantTokens(t, "a b", name(1, "a"), name(1, "b"))
	wantTokens(t, "1 2", number(1, "1"), number(1, "2"))
	wantTokens(t, "1\n2", number(1, "1"), number(2, "2"))
	wantTokens(t, "-1", sign(1, "-"), number(1, "1"))
	wantTokens(t, "--1.00", sign(1, "-"), sign(1, "-"), amount(1, "1.00"))
	wantTokens(t, "50%", number(1, "50"), sign(1, "%"))
	wantTokens(t, "a<=b", name(1, "a"), sign(1, "<"), sign(1, "="), name(1, "b"))
	wantTokens(t, "1/2*3+4,5", number(1, "1"), sign(1, "/"), number(1, "2"), sign(1, "*"), number(1, "3"), sign(1, "+"), number(1, "4"), sign(1, ","), number(1, "5"))
	var all []api.Token
	for _, s := range "{}();,+-*/<=%" {
		wantTokens(t, string(s), sign(1, string(s)))
		all = append(all, sign(1, string(s)))
	}
	wantTokens(t, "{}();,+-*/<=%", all...)
	wantTokens(t, "{ } ( ) ; , + - * / < = %", all...)
	wantTokens(t, "abcdefghijklmnopqrstuvwxyz", name(1, "abcdefghijklmnopqrstuvwxyz"))
}

// TestBetweenTokens checks P7.1 for G1: blanks, line feeds and comments, and the lines of what stands after them.
func TestBetweenTokens(t *testing.T) {
	for _, s := range []string{"", " ", "\n", " \n \n\n  ", "#", "##", "# a 1 ; $", "#\n", "\n#\n#", "# \xff\xc3\x28 é \x00 \t \r $ \u2028 1.5 007"} {
		wantTokens(t, s)
	}
	wantTokens(t, "  a  ", name(1, "a"))
	wantTokens(t, "\n\na\n\n", name(3, "a"))
	wantTokens(t, "a\n\n\nb", name(1, "a"), name(4, "b"))
	wantTokens(t, "a # b\nc", name(1, "a"), name(2, "c"))
	wantTokens(t, "a#b", name(1, "a"))
	wantTokens(t, "a#\nb#\n#\nc", name(1, "a"), name(2, "b"), name(4, "c"))
	wantTokens(t, "ab#c\nd", name(1, "ab"), name(2, "d"))
	wantTokens(t, "ab#\ncd", name(1, "ab"), name(2, "cd"))
	wantTokens(t, "1#.50", number(1, "1"))
	wantTokens(t, "1#\n2", number(1, "1"), number(2, "2"))
	wantTokens(t, "# a # b\nc", name(2, "c"))
	wantTokens(t, "#\xff\xc3\na", name(2, "a"))
	wantTokens(t, "# \u2028 \u0085 \r \v\na", name(2, "a"))
	wantTokens(t, "a\n \n#\n # # \n\n  b", name(1, "a"), name(6, "b"))
}

// numbers are texts at the ends of what numbers can be, and amounts those of money.
func numbers() []string {
	return []string{"0", "1", "9", "10", "99", "100", "101010", "366", "123456789", "100000000", "999999999"}
}

func amounts() []string {
	return []string{"0.00", "0.01", "0.10", "0.99", "1.00", "9.99", "10.00", "99.50", "100.05", "1234567.89", "9999999.99", "10000000.00"}
}

// TestNumbers checks P7.1 and P7.6: numbers and money at the ends of what they can be.
func TestNumbers(t *testing.T) {
	for _, s := range numbers() {
		wantTokens(t, s, number(1, s))
		wantTokens(t, "("+s+")", sign(1, "("), number(1, s), sign(1, ")"))
		wantTokens(t, s+"a", number(1, s), name(1, "a"))
	}
	for _, s := range amounts() {
		wantTokens(t, s, amount(1, s))
		wantTokens(t, "a"+s+"b\n"+s, name(1, "a"), amount(1, s), name(1, "b"), amount(2, s))
	}
}

// noTokens are texts with which no token begins.
func noTokens() []string {
	return []string{
		"00", "007", "01", "000", "0123456789", "1234567890", "1000000000", "99999999999999999999", strings.Repeat("1", 14000), strings.Repeat("0", 14000),
		"1.", "0.", "12.", "1.5", "1.555", "1.0", "0.0", "1.000", "00.00", "01.00", "007.00", "00.10", "1.x", "1. 00", "1.\n00", "1.#", "1..00", "1.;",
		"10000000.01", "10000001.00", "99999999.99", "100000000.00", "999999999.99", "999999999.00", "1000000000.00", "21474836.48", "42949672.96", "184467440737095516.16", "92233720368547758.08",
		"1." + strings.Repeat("0", 14000), "0." + strings.Repeat("0", 14000), strings.Repeat("1", 14000) + ".00", "1.2.3", "1.2.33",
		".", ".5", ".50", "..", ".a",
		"A", "Z", "_", "`", "$", "!", "\"", "&", "'", ":", ">", "?", "@", "[", "\\", "]", "^", "|", "~", "\t", "\r", "\v", "\f", "\x00", "\x01", "\x1f", "\x7f",
		"é", "ä", "ß", "\u00a0", "\u2003", "\u2028", "\u0085", "\ufeff", "１", "١", "２.００", "ａ", "\ufffd", "−", "／", "\u0430", "\U0001f600",
		"\x80", "\xff", "\xc3", "\xe2\x82", "\xc3\x28", "\xc0\x80", "\xed\xa0\x80", "\xf8",
	}
}

// TestNoTokens checks P7.1 for G1: where no token begins, the error is ErrSyntax, with the line of this place.
func TestNoTokens(t *testing.T) {
	for _, s := range noTokens() {
		wantError(t, s, api.ErrSyntax, 1)
		wantError(t, "a 1 ; "+s, api.ErrSyntax, 1)
		wantError(t, "#\n\n  "+s, api.ErrSyntax, 3)
		wantError(t, "rate 1\n# $\n"+s+"\n$", api.ErrSyntax, 3)
		wantError(t, ";"+s+" a", api.ErrSyntax, 1)
		wantTokens(t, "a # "+s[:strings.IndexByte(s+"\n", '\n')], name(1, "a"))
	}
	wantError(t, "a\n10000000.01", api.ErrSyntax, 2)
	wantError(t, "1.50.50", api.ErrSyntax, 1)
	wantError(t, "1.50\n.50", api.ErrSyntax, 2)
	wantError(t, "aB", api.ErrSyntax, 1)
	wantError(t, "a\tb", api.ErrSyntax, 1)
	wantError(t, "a\r\nb", api.ErrSyntax, 1)
	wantError(t, "a\nb\nç", api.ErrSyntax, 3)
	wantError(t, "1 < 2 $ 3\n$", api.ErrSyntax, 1)
}

// TestSourceLimit checks P7.1 for G1: a source that is too long has the line 0, whatever it says.
func TestSourceLimit(t *testing.T) {
	long := strings.Repeat("a", 20000)
	wantTokens(t, long, name(1, long))
	wantTokens(t, strings.Repeat(" ", 20000))
	wantTokens(t, strings.Repeat("\n", 20000))
	wantTokens(t, strings.Repeat("#", 20000))
	wantTokens(t, strings.Repeat("\n", 19999)+";", sign(20000, ";"))
	wantTokens(t, "#"+strings.Repeat("\xff", 19998)+"\n")
	wantError(t, strings.Repeat("\n", 19999)+"$", api.ErrSyntax, 20000)
	wantError(t, strings.Repeat(" ", 19999)+"\xff", api.ErrSyntax, 1)
	for _, s := range []string{long, strings.Repeat(" ", 20000), strings.Repeat("\n", 20000), strings.Repeat("#", 20000), "$" + long[1:], strings.Repeat(";", 20000)} {
		for _, more := range []string{"a", " ", "\n", "#", "$", long} {
			wantError(t, s+more, api.ErrLimit, 0)
		}
	}
	// Bytes are counted, and not runes.
	wantTokens(t, "#"+strings.Repeat("é", 9999)+" ")
	wantError(t, "#"+strings.Repeat("é", 10000), api.ErrLimit, 0)
}

// TestTokenLimit checks P7.1 for G1: of the errors the first one counts, and a place where no token begins is not the 5001st token.
func TestTokenLimit(t *testing.T) {
	full := strings.Repeat(";", 5000)
	var want []api.Token
	for range 5000 {
		want = append(want, sign(1, ";"))
	}
	for _, s := range []string{"", " ", "\n\n", "#", " # ; a 1 $\n # ;"} {
		wantTokens(t, full+s, want...)
	}
	for _, s := range []string{"a", "1", "1.00", ";", "1.00$", "1 $", "a\n$", "12ab", "99.50.", "; 007"} {
		wantError(t, full+s, api.ErrLimit, 1)
		wantError(t, full+" \n# ;\n"+s, api.ErrLimit, 3)
	}
	for _, s := range noTokens() {
		wantError(t, full+s, api.ErrSyntax, 1)
		wantError(t, full+"\n"+s+"\n;", api.ErrSyntax, 2)
		wantError(t, full+"\n;\n"+s, api.ErrLimit, 2)
		wantError(t, "$\n"+full+";"+s, api.ErrSyntax, 1)
	}
	lines := strings.Repeat(";\n", 5000)
	wantError(t, lines+";", api.ErrLimit, 5001)
	wantError(t, lines+"1.5", api.ErrSyntax, 5001)
	wantError(t, strings.Repeat("1 ", 5001), api.ErrLimit, 1)
	wantError(t, strings.Repeat("a1", 2501), api.ErrLimit, 1)
}

// wantText checks the text of tokens, and that these are read again.
func wantText(t *testing.T, want string, l ...api.Token) {
	t.Helper()
	s, e := lexer.Join(l)
	if s != want || e != api.OK {
		t.Errorf("Join(%.300v) = %.60q, %v; want %.60q", l, s, e, want)
		return
	}
	wantTokens(t, s, l...)
}

// TestJoin checks P7.1 for G2.
func TestJoin(t *testing.T) {
	wantText(t, "")
	wantText(t, "rate 12\nprice 99.50 ;", name(1, "rate"), number(1, "12"), name(2, "price"), amount(2, "99.50"), sign(2, ";"))
	wantText(t, "12 ab", number(1, "12"), name(1, "ab"))
	wantText(t, "a", name(1, "a"))
	wantText(t, "\n\na", name(3, "a"))
	wantText(t, "\na b\n\n\nc d\ne", name(2, "a"), name(2, "b"), name(5, "c"), name(5, "d"), name(6, "e"))
	wantText(t, "1 2", number(1, "1"), number(1, "2"))
	wantText(t, "1\n2", number(1, "1"), number(2, "2"))
	wantText(t, "- 1.00 % ; ;", sign(1, "-"), amount(1, "1.00"), sign(1, "%"), sign(1, ";"), sign(1, ";"))
	for _, s := range numbers() {
		wantText(t, "\n"+s+" a\n"+s, number(2, s), name(2, "a"), number(3, s))
	}
	for _, s := range amounts() {
		wantText(t, s+" "+s, amount(1, s), amount(1, s))
	}
	for _, s := range "{}();,+-*/<=%" {
		wantText(t, string(s)+" "+string(s), sign(1, string(s)), sign(1, string(s)))
	}
}

// wantNoText checks an error of Join.
func wantNoText(t *testing.T, f api.Errno, l ...api.Token) {
	t.Helper()
	if s, e := lexer.Join(l); s != "" || e != f {
		t.Errorf("Join(%.300v) = %.60q, %v; want %v", l, s, e, f)
	}
}

// noMembers are tokens that are none, although their lines are right: with kinds that there are not, and with texts of no kind, or of another one.
func noMembers() []api.Token {
	var l []api.Token
	texts := append(noTokens(), "", " ", "\n", "#", "a b", " a", "a ", "a\n", "\na", "a#", "1 ", " 1", "1.00 ", "; ", " ;", ";;", "{}", "ab1", "1a", "a;", ";a", "1;", "-1", "+1", "-1.00", "1,00", "aé", "a\xff", "1\x00", "0x1", "1e5", "1_0")
	for _, s := range texts {
		for kind := -1; kind <= 5; kind++ {
			l = append(l, api.Token{Kind: kind, Line: 3, Text: s})
		}
	}
	for kind, texts := range [][]string{1: {"a", "abc", "z"}, 2: numbers(), 3: amounts(), 4: strings.Split("{}();,+-*/<=%", "")} {
		for _, s := range texts {
			for _, other := range []int{0, 1, 2, 3, 4, 5, -1, -kind, kind + 256, kind + 1<<32, math.MinInt, math.MaxInt} {
				if other != kind {
					l = append(l, api.Token{Kind: other, Line: 3, Text: s})
				}
			}
		}
	}
	return l
}

// TestCannotJoin checks P7.1 for G2: tokens that cannot be joined, alone and among others.
func TestCannotJoin(t *testing.T) {
	for _, bad := range noMembers() {
		wantNoText(t, api.ErrArg, bad)
		wantNoText(t, api.ErrArg, name(3, "a"), bad)
		wantNoText(t, api.ErrArg, bad, name(3, "a"))
		wantNoText(t, api.ErrArg, name(1, "a"), bad, name(4, "b"))
	}
	for _, line := range []int{0, -1, math.MinInt, math.MinInt + 1} {
		wantNoText(t, api.ErrArg, name(line, "a"))
		wantNoText(t, api.ErrArg, name(line, "a"), name(1, "a"))
		wantNoText(t, api.ErrArg, name(line, "a"), name(line, "a"))
		wantNoText(t, api.ErrArg, name(1, "a"), name(line, "a"))
	}
	wantNoText(t, api.ErrArg, name(2, "a"), name(1, "a"))
	wantNoText(t, api.ErrArg, name(1, "a"), name(3, "a"), name(2, "a"), name(3, "a"))
	wantNoText(t, api.ErrArg, name(math.MaxInt, "a"), name(math.MaxInt-1, "a"))
	many := slices.Repeat([]api.Token{sign(1, ";")}, 5001)
	wantNoText(t, api.ErrArg, many...)
	wantNoText(t, api.ErrArg, slices.Repeat(many, 100)...)
	wantText(t, strings.Repeat("; ", 4999)+";", many[:5000]...)
}

// TestTextLimit checks P7.1 for G2: texts with 20000 bytes, and with more, and that ErrArg goes before ErrLimit.
func TestTextLimit(t *testing.T) {
	long := strings.Repeat("a", 20000)
	wantText(t, long, name(1, long))
	wantText(t, "\n"+long[1:], name(2, long[1:]))
	wantText(t, long[2:]+" a", name(1, long[2:]), name(1, "a"))
	wantText(t, strings.Repeat("\n", 19999)+"a", name(20000, "a"))
	wantText(t, "a"+strings.Repeat("\n", 19998)+"b", name(1, "a"), name(19999, "b"))
	four := slices.Repeat([]api.Token{name(1, "abc")}, 5000)
	wantText(t, strings.Repeat("abc ", 4999)+"abc", four...)
	four[4999].Text = "abcd"
	wantText(t, strings.Repeat("abc ", 4999)+"abcd", four...)
	four[4999].Text = "abcde"
	for _, l := range [][]api.Token{
		{name(1, long+"a")},
		{name(2, long)},
		{name(1, long[1:]), name(1, "a")},
		{name(1, long[1:]), name(2, "a")},
		{name(20001, "a")},
		{name(20002, "a")},
		{name(1, "a"), name(20000, "b")},
		{name(10000, "a"), name(20000, "bc")},
		{name(1<<32, "a")},
		{name(1<<32+1, "a")},
		{name(math.MaxInt, "a")},
		{name(math.MaxInt-1, long), name(math.MaxInt, long)},
		{name(math.MaxInt, "a"), name(math.MaxInt, "b")},
		{name(1, long), name(math.MaxInt, long)},
		{name(1, "a"), name(math.MaxInt/2, "b"), name(math.MaxInt, "c")},
		slices.Repeat([]api.Token{name(1, long)}, 5000),
		slices.Repeat([]api.Token{name(1, "abcd")}, 5000),
		four,
	} {
		wantNoText(t, api.ErrLimit, l...)
		if len(l) < 5000 {
			wantNoText(t, api.ErrArg, append(slices.Clone(l), name(1, ""))...)
		}
		wantNoText(t, api.ErrArg, append([]api.Token{number(1, "00")}, l[1:]...)...)
		wantNoText(t, api.ErrArg, slices.Concat(l, slices.Repeat([]api.Token{l[len(l)-1]}, 5000))...)
	}
}

// TestManyNumbers checks P7.1: each number and amount of some is read as itself, and with a 0 in front as none.
func TestManyNumbers(t *testing.T) {
	for n := 0; n < 1000000000; n += 1 + n/50 {
		s := strconv.Itoa(n)
		wantTokens(t, s, number(1, s))
		wantError(t, "0"+s, api.ErrSyntax, 1)
		cents := n % 100
		s = strconv.Itoa(n/100) + "." + strconv.Itoa(cents/10) + strconv.Itoa(cents%10)
		wantTokens(t, s, amount(1, s))
		wantError(t, "0"+s, api.ErrSyntax, 1)
		wantError(t, s+"0", api.ErrSyntax, 1)
		wantError(t, s[:len(s)-1], api.ErrSyntax, 1)
	}
}
