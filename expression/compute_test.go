package expression_test

import (
	"strings"
	"testing"

	"bringup/api"
	"bringup/expression"
)

// computes checks the value of a text, and that brackets around it do not change it.
func computes(t *testing.T, text string, want int) {
	t.Helper()
	for _, s := range []string{text, "(" + text + ")", " \n( (" + text + "\n)/**/)// end"} {
		if got, e := expression.Compute(s); got != want || e != api.OK {
			t.Errorf("%.60q: %d, error %d, not %d", s, got, e, want)
		}
	}
}

// fails checks that a text has an error, and no value.
func fails(t *testing.T, text string, want api.Errno) {
	t.Helper()
	if got, e := expression.Compute(text); got != 0 || e != want {
		t.Errorf("%.60q: %d, error %d, not %d", text, got, e, want)
	}
}

func TestExamples(t *testing.T) {
	computes(t, "1 + 2 * 3 << 1", 14)
	computes(t, "(1 ? 2 : 3) - 5", 4294967293)
	computes(t, "0 - 1 > 0", 1)
	fails(t, "1 || 1 / 0", api.ErrDivide)
}

func TestNumbers(t *testing.T) {
	computes(t, "0", 0)
	computes(t, "00", 0)
	computes(t, "1", 1)
	computes(t, "017", 15)
	computes(t, "0xFf", 255)
	computes(t, "4294967295", api.MaxCell)
}

func TestSignsInFront(t *testing.T) {
	computes(t, "-0", 0)
	computes(t, "-1", 4294967295)
	computes(t, "-4294967295", 1)
	computes(t, "-2147483648", 2147483648)
	computes(t, "~0", 4294967295)
	computes(t, "~1", 4294967294)
	computes(t, "~4294967295", 0)
	computes(t, "~0x0f0f0f0f", 0xf0f0f0f0)
	computes(t, "!0", 1)
	computes(t, "!1", 0)
	computes(t, "!2", 0)
	computes(t, "!4294967295", 0)
	computes(t, "- -1", 1)
	computes(t, "--1", 1)
	computes(t, "~~5", 5)
	computes(t, "!!5", 1)
	computes(t, "-~5", 6)
	computes(t, "~-5", 4)
	computes(t, "!-5", 0)
	computes(t, "-!0", 4294967295)
	computes(t, "~!7", 4294967295)
	computes(t, "-(1 + 2)", 4294967293)
	computes(t, "1 - -1", 2)
	computes(t, "1--1", 2)
	computes(t, "2 * -3", 4294967290)
	computes(t, "6 / ~4294967292", 2)
	computes(t, "1 << !0", 2)
	computes(t, "1 ? -2 : -3", 4294967294)
}

func TestProductsAndSums(t *testing.T) {
	computes(t, "6 * 7", 42)
	computes(t, "65536 * 65536", 0)
	computes(t, "65537 * 65536", 65536)
	computes(t, "4294967295 * 4294967295", 1)
	computes(t, "4294967295 * 2", 4294967294)
	computes(t, "0 * 4294967295", 0)
	computes(t, "7 / 2", 3)
	computes(t, "1 / 2", 0)
	computes(t, "0 / 5", 0)
	computes(t, "4294967295 / 4294967295", 1)
	computes(t, "4294967295 / 2", 2147483647)
	computes(t, "-7 / 2", 2147483644)
	computes(t, "7 / -2", 0)
	computes(t, "7 % 3", 1)
	computes(t, "1 % 7", 1)
	computes(t, "6 % 3", 0)
	computes(t, "-1 % 10", 5)
	computes(t, "4294967295 % 4294967294", 1)
	computes(t, "2 + 3", 5)
	computes(t, "4294967295 + 1", 0)
	computes(t, "4294967295 + 4294967295", 4294967294)
	computes(t, "5 - 3", 2)
	computes(t, "3 - 5", 4294967294)
	computes(t, "0 - 4294967295", 1)
}

func TestShifts(t *testing.T) {
	computes(t, "1 << 0", 1)
	computes(t, "1 << 31", 2147483648)
	computes(t, "3 << 31", 2147483648)
	computes(t, "4294967295 << 4", 4294967280)
	computes(t, "4294967295 >> 0", 4294967295)
	computes(t, "4294967295 >> 31", 1)
	computes(t, "0x80000000 >> 4", 0x08000000)
	computes(t, "6 >> 1", 3)
	for _, bits := range []string{"32", "33", "63", "64", "65", "128", "256", "65536", "2147483648", "4294967264", "4294967295", "-1"} {
		computes(t, "1 << "+bits, 0)
		computes(t, "4294967295 << "+bits, 0)
		computes(t, "4294967295 >> "+bits, 0)
	}
}

func TestComparisons(t *testing.T) {
	values := []string{"0", "1", "2", "2147483647", "2147483648", "4294967294", "4294967295"}
	number := map[bool]int{true: 1}
	for i, a := range values {
		for j, b := range values {
			computes(t, a+" < "+b, number[i < j])
			computes(t, a+" > "+b, number[i > j])
			computes(t, a+" <= "+b, number[i <= j])
			computes(t, a+" >= "+b, number[i >= j])
			computes(t, a+" == "+b, number[i == j])
			computes(t, a+" != "+b, number[i != j])
			computes(t, a+" && "+b, number[i > 0 && j > 0])
			computes(t, a+" || "+b, number[i > 0 || j > 0])
		}
	}
	computes(t, "-1 > 0", 1)
	computes(t, "-1 < 1", 0)
}

func TestBits(t *testing.T) {
	computes(t, "12 & 10", 8)
	computes(t, "12 ^ 10", 6)
	computes(t, "12 | 10", 14)
	computes(t, "1 & 2", 0)
	computes(t, "1 && 2", 1)
	computes(t, "1 | 2", 3)
	computes(t, "1 || 2", 1)
	computes(t, "4294967295 & 0x12345678", 0x12345678)
	computes(t, "4294967295 ^ 0x12345678", 0xedcba987)
	computes(t, "0xf0000000 | 0x0000000f", 0xf000000f)
}

func TestChoices(t *testing.T) {
	computes(t, "1 ? 2 : 3", 2)
	computes(t, "0 ? 2 : 3", 3)
	computes(t, "4294967295 ? 2 : 3", 2)
	computes(t, "0x100 ? 2 : 3", 2)
	// The last operand may be another choice, and the one in the middle is a whole expression.
	computes(t, "1 ? 2 : 3 ? 4 : 5", 2)
	computes(t, "1 ? 0 : 3 ? 4 : 5", 0)
	computes(t, "0 ? 2 : 3 ? 4 : 5", 4)
	computes(t, "0 ? 2 : 0 ? 4 : 5", 5)
	computes(t, "1 ? 2 ? 3 : 4 : 5", 3)
	computes(t, "1 ? 0 ? 3 : 4 : 5", 4)
	computes(t, "0 ? 2 ? 3 : 4 : 5", 5)
	computes(t, "0 ? 1 : 0 ? 2 : 0 ? 3 : 4", 4)
	computes(t, "0 ? 1 ? 2 : 3 : 1 ? 4 ? 5 : 6 : 7", 5)
	computes(t, "(1 ? 0 : 3) ? 4 : 5", 5)
	computes(t, "1 ? 2 || 0 : 3", 1)
	computes(t, "0 || 0 ? 2 : 3", 3)
	computes(t, "0 ? 2 : 3 || 0", 1)
	computes(t, "1 ? 2 : 3 + 4", 2)
	computes(t, "0 ? 2 : 3 + 4", 7)
	computes(t, "1 + 1 ? 2 + 3 : 4", 5)
	computes(t, "1 - 1 ? 2 + 3 : 4", 4)
	computes(t, "5 + (0 ? 1 : 2) * 3", 11)
	computes(t, "-1 ? ~0 : !0", 4294967295)
}

// TestRows checks each row with the next one: brackets around the upper sign change nothing, and those around the lower one do.
func TestRows(t *testing.T) {
	for _, x := range []struct{ text, upper, lower string }{
		{"-1 / 2", "(-1) / 2", "-(1 / 2)"},
		{"~0 * 2", "(~0) * 2", "~(0 * 2)"},
		{"!0 * 2", "(!0) * 2", "!(0 * 2)"},
		{"!2 - 2", "(!2) - 2", "!(2 - 2)"},
		{"!2 == 1", "(!2) == 1", "!(2 == 1)"},
		{"2 + 3 * 4", "2 + (3 * 4)", "(2 + 3) * 4"},
		{"3 * 4 + 2", "(3 * 4) + 2", "3 * (4 + 2)"},
		{"9 - 9 / 3", "9 - (9 / 3)", "(9 - 9) / 3"},
		{"9 - 5 % 4", "9 - (5 % 4)", "(9 - 5) % 4"},
		{"1 << 2 + 3", "1 << (2 + 3)", "(1 << 2) + 3"},
		{"2 + 3 << 1", "(2 + 3) << 1", "2 + (3 << 1)"},
		{"64 >> 3 - 1", "64 >> (3 - 1)", "(64 >> 3) - 1"},
		{"1 < 2 << 3", "1 < (2 << 3)", "(1 < 2) << 3"},
		{"4 >> 1 >= 3", "(4 >> 1) >= 3", "4 >> (1 >= 3)"},
		{"5 <= 3 << 1", "5 <= (3 << 1)", "(5 <= 3) << 1"},
		{"5 == 3 < 4", "5 == (3 < 4)", "(5 == 3) < 4"},
		{"3 < 4 != 0", "(3 < 4) != 0", "3 < (4 != 0)"},
		{"3 > 2 == 2", "(3 > 2) == 2", "3 > (2 == 2)"},
		{"2 & 3 == 2", "2 & (3 == 2)", "(2 & 3) == 2"},
		{"2 == 2 & 2", "(2 == 2) & 2", "2 == (2 & 2)"},
		{"4 & 4 ^ 6", "(4 & 4) ^ 6", "4 & (4 ^ 6)"},
		{"1 ^ 3 & 4", "1 ^ (3 & 4)", "(1 ^ 3) & 4"},
		{"1 | 1 ^ 1", "1 | (1 ^ 1)", "(1 | 1) ^ 1"},
		{"7 ^ 1 | 1", "(7 ^ 1) | 1", "7 ^ (1 | 1)"},
		{"2 && 1 | 4", "2 && (1 | 4)", "(2 && 1) | 4"},
		{"4 | 0 && 0", "(4 | 0) && 0", "4 | (0 && 0)"},
		{"1 || 0 && 0", "1 || (0 && 0)", "(1 || 0) && 0"},
		{"0 && 0 || 1", "(0 && 0) || 1", "0 && (0 || 1)"},
		{"1 || 1 ? 0 : 5", "(1 || 1) ? 0 : 5", "1 || (1 ? 0 : 5)"},
		{"1 ? 4 : 0 || 1", "1 ? 4 : (0 || 1)", "(1 ? 4 : 0) || 1"},
	} {
		text, _ := expression.Compute(x.text)
		upper, _ := expression.Compute(x.upper)
		lower, _ := expression.Compute(x.lower)
		if text != upper || text == lower {
			t.Errorf("%s is %d, %s is %d, %s is %d", x.text, text, x.upper, upper, x.lower, lower)
		}
	}
	computes(t, "1 + 2 * 3 << 1 < 15 == 1 & 3 ^ 2 | 4 && 1 || 0 ? 8 : 9", 8)
}

func TestLeftToRight(t *testing.T) {
	computes(t, "9 - 4 - 3", 2)
	computes(t, "9 - 4 + 3", 8)
	computes(t, "100 / 10 / 5", 2)
	computes(t, "100 / 10 * 5", 50)
	computes(t, "7 * 5 % 4", 3)
	computes(t, "7 % 5 * 4", 8)
	computes(t, "100 / 7 % 5", 4)
	computes(t, "1 << 2 << 3", 32)
	computes(t, "1 << 3 >> 2", 2)
	computes(t, "256 >> 4 >> 1", 8)
	computes(t, "3 > 2 > 1", 0)
	computes(t, "3 > 2 >= 1", 1)
	computes(t, "1 < 1 < 1", 1)
	computes(t, "0 <= 0 < 1", 0)
	computes(t, "2 == 2 == 2", 0)
	computes(t, "2 == 2 != 2", 1)
	computes(t, "0 != 1 == 1", 1)
	computes(t, "3 != 3 == 0", 1)
}

func TestErrorsOfTokens(t *testing.T) {
	fails(t, "$", api.ErrCharacter)
	fails(t, "1 + $", api.ErrCharacter)
	fails(t, "1 / 0 $", api.ErrCharacter)
	fails(t, ") /*", api.ErrEnd)
	fails(t, "1 \"", api.ErrEnd)
	fails(t, "08", api.ErrSyntax)
	fails(t, "(1 + 4294967296", api.ErrRange)
	fails(t, strings.Repeat(" ", api.MaxText)+"1", api.ErrLimit)
	fails(t, strings.Repeat("-", api.MaxTokens), api.ErrLimit)
	computes(t, strings.Repeat("-", api.MaxTokens-12)+"1", 1)
}

func TestWrongTexts(t *testing.T) {
	for _, s := range []string{
		"", " ", "()", "(", ")", "(1", "1)", "((1)", "(1))", ")1(", "(1,2)", "1,", "1;", "<1>", "[1]", "{1}", "1=2", "1 = = 2",
		"-", "~", "!", "1 -", "1 +", "+1", "*1", "1 * * 2", "1 + / 2", "1 + + 2", "1 ! 2", "1 ~ 2", "1 !", "1 ~", "<< 1", "1 <<", "1 < < 2", "1 & & 2", "1 | | 2", "&& 1", "1 ! = 2", "1 > = 2",
		"?", ":", "1 ?", "1 ? 2", "1 ? 2 :", "1 ? : 2", "? 1 : 2", "1 : 2", "1 ? 2 : 3 : 4", "1 ? 2 3", "1 ? (2 : 3)", "(1 ? 2) : 3", "1 ? 2 ) : 3", "(1 ? 2 : 3", "1 ? 2 ? 3 : 4",
		"a", "1 a", "a + 1", "1 + a", "&a", "a: 1", "\"1\"", "1 \"\"", "/w/", "8 /-/ 2", "1 2", "(1) 2", "1 (2)", "(1)(2)", "1 - (", "1 - )", "#",
	} {
		fails(t, s, api.ErrSyntax)
	}
}

func TestErrorOfTheValueBeforeTheRest(t *testing.T) {
	fails(t, "1 / 0 2", api.ErrDivide)
	fails(t, "(((((((((1))))))))) a", api.ErrLimit)
	fails(t, "(((((((((1))))))))) / 0 a", api.ErrLimit)
	fails(t, "(((((((((1)))))))) a", api.ErrSyntax)
}
