package expression_test

import (
	"math"
	"slices"
	"strings"
	"testing"

	"bringup/api"
	"bringup/expression"
	"bringup/token"
)

// function is Primary or Value.
type function func(l []api.Token, at int) (value, next int, e api.Errno)

var both = map[string]function{"Primary": expression.Primary, "Value": expression.Value}

// tokens returns the tokens of a text.
func tokens(t *testing.T, text string) []api.Token {
	t.Helper()
	l, _, e := token.Read(text, 0)
	if e != api.OK {
		t.Fatalf("%q: error %d", text, e)
	}
	return l
}

// reads checks what a function returns for the tokens of a text, from an index on, and that the tokens stay the same.
func reads(t *testing.T, f function, l []api.Token, at, value, next int, e api.Errno) {
	t.Helper()
	before := slices.Clone(l)
	gotValue, gotNext, gotE := f(l, at)
	if gotValue != value || gotNext != next || gotE != e {
		t.Errorf("%.40v from %d on: %d, %d, error %d, not %d, %d, error %d", before, at, gotValue, gotNext, gotE, value, next, e)
	}
	if !slices.Equal(l, before) {
		t.Errorf("%.40v was changed", before)
	}
}

func number(n int) api.Token  { return api.Token{Kind: api.TokenNumber, Value: n} }
func sign(s string) api.Token { return api.Token{Kind: api.TokenSign, Text: s} }

func TestValueEndsAtTheFirstOtherToken(t *testing.T) {
	for _, end := range []string{"", "2", "(2)", ")", ": 2", "~ 2", "! 2", ", 2", ";", "= 2", "]", "}", "{", "[", "a", "&a", "a: 2", "\"s\"", "/w/"} {
		reads(t, expression.Value, tokens(t, "1 "+end), 0, 1, 1, api.OK)
		reads(t, expression.Value, tokens(t, "1 + 2 * 3 "+end), 0, 7, 5, api.OK)
		reads(t, expression.Value, tokens(t, "-1 "+end), 0, api.MaxCell, 2, api.OK)
		reads(t, expression.Value, tokens(t, "(1 - 1) "+end), 0, 0, 5, api.OK)
		reads(t, expression.Value, tokens(t, "0 ? 5 : 6 "+end), 0, 6, 5, api.OK)
		reads(t, expression.Value, tokens(t, "; 4 - 1 "+end), 1, 3, 4, api.OK)
	}
}

func TestPrimary(t *testing.T) {
	for _, end := range []string{"", "2", "(2)", ")", "+ 2", "* 2", "- 2", "< 2", "&& 2", "? 2 : 3", "? 2", ": 2", "/ 0", "+", ";", ">", "a", "\"s\""} {
		reads(t, expression.Primary, tokens(t, "7 "+end), 0, 7, 1, api.OK)
		reads(t, expression.Primary, tokens(t, "(7) "+end), 0, 7, 3, api.OK)
		reads(t, expression.Primary, tokens(t, "((7) + 1) "+end), 0, 8, 7, api.OK)
		reads(t, expression.Primary, tokens(t, "(1 + 2 * 3) "+end), 0, 7, 7, api.OK)
		reads(t, expression.Primary, tokens(t, "(0 ? 1 : 0 ? 2 : 3) "+end), 0, 3, 11, api.OK)
		reads(t, expression.Primary, tokens(t, "; (-1) "+end), 1, api.MaxCell, 5, api.OK)
	}
	for _, s := range []string{"", "-1", "~1", "!1", "+1", "- (1)", ")", "()", "(", "(1", "(1 2)", "(1;)", "(1 +)", "(1 ? 2)", "(1 : 2)", "(1 ? 2 : )", "(a)", "a", "&a", "a: 1", "\"1\"", "/w/", ";", "?", ":", "< 1"} {
		reads(t, expression.Primary, tokens(t, s), 0, 0, 0, api.ErrSyntax)
		reads(t, expression.Primary, tokens(t, "1 "+s), 1, 0, 0, api.ErrSyntax)
	}
}

func TestListsWithoutEnd(t *testing.T) {
	for name, f := range both {
		reads(t, f, []api.Token{number(5)}, 0, 5, 1, api.OK)
		reads(t, f, []api.Token{sign("("), number(5), sign(")")}, 0, 5, 3, api.OK)
		reads(t, f, []api.Token{sign("("), number(5)}, 0, 0, 0, api.ErrSyntax)
		reads(t, f, []api.Token{sign("(")}, 0, 0, 0, api.ErrSyntax)
		if t.Failed() {
			t.Fatalf("by %s", name)
		}
	}
	l := []api.Token{sign("-"), number(5), sign("+"), number(7), sign("?"), number(1), sign(":"), number(2)}
	reads(t, expression.Value, l, 0, 1, 8, api.OK)
	for n, want := range []api.Errno{api.ErrRange, api.ErrSyntax, api.OK, api.ErrSyntax, api.OK, api.ErrSyntax, api.ErrSyntax, api.ErrSyntax} {
		if _, _, e := expression.Value(l[:n], 0); e != want {
			t.Errorf("%d tokens: error %d, not %d", n, e, want)
		}
	}
}

func TestIndexes(t *testing.T) {
	l := tokens(t, "1 + (2) * 3")
	for _, f := range both {
		for _, at := range []int{-1, -2, len(l), len(l) + 1, math.MinInt, math.MaxInt} {
			reads(t, f, l, at, 0, 0, api.ErrRange)
			reads(t, f, []api.Token{number(-1)}, at, 0, 0, api.ErrRange)
		}
		for _, at := range []int{-1, 0, 1} {
			reads(t, f, nil, at, 0, 0, api.ErrRange)
			reads(t, f, []api.Token{}, at, 0, 0, api.ErrRange)
		}
		reads(t, f, l, 1, 0, 0, api.ErrSyntax)
		reads(t, f, l, 4, 0, 0, api.ErrSyntax)
		reads(t, f, l, 7, 0, 0, api.ErrSyntax)
		reads(t, f, l, 6, 3, 7, api.OK)
	}
	reads(t, expression.Value, l, 0, 7, 7, api.OK)
	reads(t, expression.Value, l, 2, 6, 7, api.OK)
	reads(t, expression.Value, l, 3, 2, 4, api.OK)
	reads(t, expression.Primary, l, 0, 1, 1, api.OK)
	reads(t, expression.Primary, l, 2, 2, 5, api.OK)
}

// TestOnlyKindsCount checks that the Text of a token is a sign only if its kind is that of signs, and that only numbers have a Value.
func TestOnlyKindsCount(t *testing.T) {
	for _, f := range both {
		reads(t, f, []api.Token{{Kind: api.TokenNumber, Text: "(", Value: 5, Position: api.Position{File: 1, Line: 2, Column: 3}}}, 0, 5, 1, api.OK)
		for kind := -1; kind <= api.TokenEnd+1; kind++ {
			other := api.Token{Kind: kind, Text: "x", Value: 5}
			if kind != api.TokenNumber {
				reads(t, f, []api.Token{other}, 0, 0, 0, api.ErrSyntax)
			}
			if kind == api.TokenNumber || kind == api.TokenSign {
				continue
			}
			for _, s := range []string{"(", "-", "+", "?", ")", ":", "&&"} {
				other.Text = s
				reads(t, f, []api.Token{other, number(1), sign(")")}, 0, 0, 0, api.ErrSyntax)
				reads(t, f, []api.Token{number(1), other, number(2)}, 0, 1, 1, api.OK)
				reads(t, f, []api.Token{sign("("), number(1), other}, 0, 0, 0, api.ErrSyntax)
			}
		}
		for _, s := range []string{"", "--", "=", "===", "&&&", "<<<", "()", "?:", "x", "5", "1", "\x00"} {
			reads(t, f, []api.Token{sign(s), number(1)}, 0, 0, 0, api.ErrSyntax)
			reads(t, f, []api.Token{number(1), sign(s), number(2)}, 0, 1, 1, api.OK)
		}
	}
}

func TestBrackets(t *testing.T) {
	for n := range 3 * api.MaxDepth {
		want, e := 6, api.OK
		if n > api.MaxDepth {
			want, e = 0, api.ErrLimit
		}
		begin, end := strings.Repeat("(", n), strings.Repeat(")", n)
		next := func(k int) int { return map[bool]int{true: k}[e == api.OK] }
		reads(t, expression.Primary, tokens(t, begin+"6"+end), 0, want, next(2*n+1), e)
		reads(t, expression.Value, tokens(t, begin+"6"+end), 0, want, next(2*n+1), e)
		reads(t, expression.Value, tokens(t, "4 + "+begin+"1"+end+" * 2"), 0, want, next(2*n+5), e)
		reads(t, expression.Value, tokens(t, "0 ? "+begin+"1"+end+" : 6"), 0, want, next(2*n+5), e)
		reads(t, expression.Value, tokens(t, strings.Repeat("-(", n)+"6"+end+"+0*(1)"), 0, (want*(1-n%2*2))&api.MaxCell, next(3*n+7), e)
	}
	// Brackets that are closed again do not count, and signs are no brackets.
	computes(t, strings.Repeat("(1) + ", 50)+"1", 51)
	computes(t, strings.Repeat("- ", 50)+"1", 1)
	computes(t, strings.Repeat("1 ? ", 50)+"5"+strings.Repeat(" : 6", 50), 5)
	computes(t, strings.Repeat("0 ? 5 : ", 50)+"6", 6)
	computes(t, "((((((1))))) + (((((1))))))", 2)
	fails(t, "((((((((1 + (2)))))))))", api.ErrLimit)
	fails(t, "((((((((1)))))))) + (((((((((1)))))))))", api.ErrLimit)
}

func TestNumbersOutOfRange(t *testing.T) {
	for _, n := range []int{-1, -5, math.MinInt, api.MaxCell + 1, 1 << 33, 1 << 40, math.MaxInt} {
		for _, f := range both {
			reads(t, f, []api.Token{number(n)}, 0, 0, 0, api.ErrRange)
			reads(t, f, []api.Token{sign("("), number(n), sign(")")}, 0, 0, 0, api.ErrRange)
			reads(t, f, []api.Token{sign("("), number(0), sign("&&"), number(n), sign(")")}, 0, 0, 0, api.ErrRange)
			reads(t, f, []api.Token{number(3), sign(";"), number(n)}, 0, 3, 1, api.OK)
		}
		reads(t, expression.Value, []api.Token{sign("-"), number(n)}, 0, 0, 0, api.ErrRange)
		reads(t, expression.Value, []api.Token{number(1), sign("/"), number(n)}, 0, 0, 0, api.ErrRange)
		reads(t, expression.Value, []api.Token{number(0), sign("?"), number(n), sign(":"), number(1)}, 0, 0, 0, api.ErrRange)
		reads(t, expression.Primary, []api.Token{number(4), sign("+"), number(n)}, 0, 4, 1, api.OK)
	}
}

func TestDivisionsByZero(t *testing.T) {
	for _, s := range []string{"1 / 0", "1 % 0", "0 / 0", "0 % 0", "1 / (2 - 2)", "1 / !5", "1 / -0", "1 % ~4294967295", "5 / (1 << 32)", "1 / 0 / 0", "(1 / 0) * 0", "-(1 % 0)", "3 - 1 / (65536 * 65536)", "4294967295 / (4294967295 + 1)",
		"0 && 1 / 0", "1 || 1 % 0", "0 ? 1 / 0 : 2", "1 ? 2 : 1 / 0", "1 ? 2 : 0 ? 3 % 0 : 4", "1 / 0 ? 1 : 2"} {
		fails(t, s, api.ErrDivide)
		reads(t, expression.Value, tokens(t, s), 0, 0, 0, api.ErrDivide)
		reads(t, expression.Primary, tokens(t, "("+s+")"), 0, 0, 0, api.ErrDivide)
	}
	computes(t, "0 / 1", 0)
	computes(t, "0 % 1", 0)
	computes(t, "8 / 4 - 4 / 2", 0)
	computes(t, "1 / 1 - 1", 0)
}

// TestOrderOfErrors puts each two errors into one expression, in both orders.
func TestOrderOfErrors(t *testing.T) {
	zero, deep := tokens(t, "(1 / 0)"), tokens(t, "(((((((((1)))))))))")
	parts := []struct {
		e    api.Errno
		part []api.Token
	}{
		{api.ErrSyntax, []api.Token{sign(")")}},
		{api.ErrSyntax, []api.Token{sign("("), number(1), sign(";"), sign(")")}},
		{api.ErrSyntax, []api.Token{sign("("), number(1), sign("?"), number(1), sign(")")}},
		{api.ErrLimit, deep[:len(deep)-1]},
		{api.ErrRange, []api.Token{number(-1)}},
		{api.ErrDivide, zero[:len(zero)-1]},
	}
	for i, a := range parts {
		for _, b := range parts[i:] {
			reads(t, expression.Value, slices.Concat(a.part, []api.Token{sign("+")}, b.part), 0, 0, 0, a.e)
			if b.e == api.ErrSyntax || b.part[0].Text != ")" {
				reads(t, expression.Value, slices.Concat(b.part, []api.Token{sign("+")}, a.part), 0, 0, 0, a.e)
			}
		}
	}
	// What comes after the expression is not looked at.
	reads(t, expression.Value, []api.Token{number(1), sign("/"), number(0), sign(")")}, 0, 0, 0, api.ErrDivide)
	reads(t, expression.Value, []api.Token{number(2), number(-1), sign("(")}, 0, 2, 1, api.OK)
}

// TestDeepNesting checks that what is nested very deeply is read as well.
func TestDeepNesting(t *testing.T) {
	const n = 1 << 16
	one := []api.Token{number(1)}
	repeat := func(s ...string) []api.Token {
		var l []api.Token
		for _, x := range s {
			if x == "1" {
				l = append(l, number(1))
			} else {
				l = append(l, sign(x))
			}
		}
		return slices.Repeat(l, n)
	}
	reads(t, expression.Value, repeat("("), 0, 0, 0, api.ErrSyntax)
	for _, f := range both {
		reads(t, f, slices.Concat(repeat("("), one, repeat(")")), 0, 0, 0, api.ErrLimit)
		reads(t, f, slices.Concat(repeat("(", "-"), one, repeat(")")), 0, 0, 0, api.ErrLimit)
		reads(t, f, slices.Concat(repeat("("), one, repeat(")")[1:]), 0, 0, 0, api.ErrSyntax)
	}
	reads(t, expression.Value, slices.Concat(repeat("-"), one), 0, 1, n+1, api.OK)
	reads(t, expression.Value, slices.Concat(repeat("1", "+"), one), 0, n+1, 2*n+1, api.OK)
	reads(t, expression.Value, slices.Concat(repeat("1", "?"), one, repeat(":", "1")), 0, 1, 4*n+1, api.OK)
	reads(t, expression.Value, slices.Concat(repeat("1", "?", "1", ":"), one), 0, 1, 4*n+1, api.OK)
	reads(t, expression.Value, slices.Concat(repeat("1", "?"), one), 0, 0, 0, api.ErrSyntax)
}
