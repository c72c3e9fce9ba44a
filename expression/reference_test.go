package expression_test

import (
	"math/big"
	"math/rand"
	"slices"
	"strconv"
	"strings"
	"testing"

	"bringup/api"
	"bringup/expression"
)

// signRows is the table of the chapter without its first and its last row, those that bind least tightly first.
var signRows = []string{"||", "&&", "|", "^", "&", "== !=", "< > <= >=", "<< >>", "+ -", "* / %"}

// model reads expressions once more, by calls within calls and with numbers of any size.
type model struct {
	l                                []api.Token
	at, brackets                     int
	wrong, deep, outOfRange, divided bool
}

func (m *model) kind() int {
	if m.at < len(m.l) {
		return m.l[m.at].Kind
	}
	return 0
}

// passes reads a sign, if it is one of those in a list.
func (m *model) passes(list string) string {
	if m.kind() != api.TokenSign || !slices.Contains(strings.Fields(list), m.l[m.at].Text) {
		return ""
	}
	m.at++
	return m.l[m.at-1].Text
}

func (m *model) must(s string) {
	if m.passes(s) == "" {
		m.wrong = true
	}
}

func (m *model) choice() *big.Int {
	a := m.row(0)
	if m.passes("?") == "" {
		return a
	}
	b := m.choice()
	m.must(":")
	c := m.choice()
	if a.Sign() != 0 {
		return b
	}
	return c
}

func (m *model) row(n int) *big.Int {
	if n == len(signRows) {
		return m.front()
	}
	a := m.row(n + 1)
	for {
		s := m.passes(signRows[n])
		if s == "" {
			return a
		}
		a = m.compute(s, a, m.row(n+1))
	}
}

func (m *model) front() *big.Int {
	switch m.passes("- ~ !") {
	case "-":
		return cell(new(big.Int).Neg(m.front()))
	case "~":
		return cell(new(big.Int).Not(m.front()))
	case "!":
		return truth(m.front().Sign() == 0)
	}
	return m.primary()
}

func (m *model) primary() *big.Int {
	if m.passes("(") != "" {
		m.brackets++
		v := m.choice()
		m.brackets--
		m.must(")")
		return v
	}
	if m.kind() != api.TokenNumber {
		m.wrong = true
		return new(big.Int)
	}
	v := m.l[m.at].Value
	m.at++
	m.deep = m.deep || m.brackets > api.MaxDepth
	m.outOfRange = m.outOfRange || v < 0 || v >= 1<<32
	return big.NewInt(int64(v))
}

func (m *model) compute(s string, a, b *big.Int) *big.Int {
	v := new(big.Int)
	switch s {
	case "*":
		v.Mul(a, b)
	case "/", "%":
		if b.Sign() == 0 {
			m.divided = true
		} else if s == "/" {
			v.Quo(a, b)
		} else {
			v.Rem(a, b)
		}
	case "+":
		v.Add(a, b)
	case "-":
		v.Sub(a, b)
	case "<<", ">>":
		if b.Cmp(big.NewInt(32)) < 0 && b.Sign() >= 0 {
			v.Lsh(a, uint(b.Int64()))
			if s == ">>" {
				v.Rsh(a, uint(b.Int64()))
			}
		}
	case "&":
		v.And(a, b)
	case "^":
		v.Xor(a, b)
	case "|":
		v.Or(a, b)
	default:
		return truth(holds(s, a, b))
	}
	return cell(v)
}

func holds(s string, a, b *big.Int) bool {
	switch c := a.Cmp(b); s {
	case "<":
		return c < 0
	case ">":
		return c > 0
	case "<=":
		return c <= 0
	case ">=":
		return c >= 0
	case "==":
		return c == 0
	case "!=":
		return c != 0
	case "&&":
		return a.Sign() != 0 && b.Sign() != 0
	}
	return a.Sign() != 0 || b.Sign() != 0
}

func cell(v *big.Int) *big.Int { return v.Mod(v, big.NewInt(1<<32)) }

func truth(holds bool) *big.Int {
	if holds {
		return big.NewInt(1)
	}
	return new(big.Int)
}

// expected returns what Value, or Primary, must return.
func expected(l []api.Token, at int, form func(*model) *big.Int) (int, int, api.Errno) {
	if at < 0 || at >= len(l) {
		return 0, 0, api.ErrRange
	}
	m := &model{l: l, at: at}
	v := form(m)
	switch {
	case m.wrong:
		return 0, 0, api.ErrSyntax
	case m.deep:
		return 0, 0, api.ErrLimit
	case m.outOfRange:
		return 0, 0, api.ErrRange
	case m.divided:
		return 0, 0, api.ErrDivide
	}
	return int(v.Int64()), m.at, api.OK
}

// asExpected checks Value and Primary from each of the first indexes on.
func asExpected(t *testing.T, l []api.Token, indexes int) {
	t.Helper()
	for at := range indexes {
		value, next, e := expected(l, at, (*model).choice)
		reads(t, expression.Value, l, at, value, next, e)
		value, next, e = expected(l, at, (*model).primary)
		reads(t, expression.Primary, l, at, value, next, e)
	}
}

func TestAllShortLists(t *testing.T) {
	symbols := []api.Token{number(0), number(2), number(-1), sign("("), sign(")"), sign("-"), sign("/"), sign("?"), sign(":"), {Kind: api.TokenName, Text: "a"}}
	lists := [][]api.Token{nil}
	for range 5 {
		var longer [][]api.Token
		for _, l := range lists {
			for _, s := range symbols {
				longer = append(longer, append(slices.Clip(l), s))
			}
		}
		for _, l := range longer {
			asExpected(t, l, 1)
		}
		lists = longer
	}
}

// mixed returns the tokens of an expression of some size.
func mixed(random *rand.Rand, size int) []api.Token {
	n := random.Intn(size)
	switch {
	case size <= 1:
		return []api.Token{number(numbers(random))}
	case n == 0:
		front := strings.Fields("- ~ !")
		return append([]api.Token{sign(front[random.Intn(3)])}, mixed(random, size-1)...)
	case n == 1:
		return slices.Concat([]api.Token{sign("(")}, mixed(random, size-1), []api.Token{sign(")")})
	case random.Intn(8) == 0:
		return slices.Concat(mixed(random, n), []api.Token{sign("?")}, mixed(random, size-n), []api.Token{sign(":")}, mixed(random, size-n))
	}
	row := strings.Fields(signRows[random.Intn(len(signRows))])
	return slices.Concat(mixed(random, n), []api.Token{sign(row[random.Intn(len(row))])}, mixed(random, size-n))
}

func numbers(random *rand.Rand) int {
	switch random.Intn(40) {
	case 0:
		return api.MaxCell + random.Intn(2)
	case 1:
		return int(random.Uint32())
	case 2:
		return 1 << random.Intn(32)
	}
	return random.Intn(40)
}

func TestMixedExpressions(t *testing.T) {
	random := rand.New(rand.NewSource(1))
	seen := map[api.Errno]int{}
	for range 20000 {
		l := mixed(random, 1+random.Intn(30))
		if random.Intn(4) == 0 {
			at := random.Intn(len(l))
			l = slices.Concat(l[:at], mixed(random, 1)[random.Intn(2):], l[at+random.Intn(2):])
		}
		asExpected(t, l, min(len(l), 3))
		_, _, e := expected(l, 0, (*model).choice)
		seen[e]++
	}
	for _, e := range []api.Errno{api.OK, api.ErrSyntax, api.ErrRange, api.ErrDivide} {
		if seen[e] < 300 {
			t.Errorf("error %d occurs only %d times", e, seen[e])
		}
	}
}

// written returns a text with the tokens of a list.
func written(l []api.Token) string {
	var out strings.Builder
	for _, x := range l {
		if x.Kind == api.TokenNumber {
			out.WriteString(strconv.Itoa(x.Value))
		}
		out.WriteString(x.Text + " ")
	}
	return out.String()
}

func TestComputeOfMixedExpressions(t *testing.T) {
	random := rand.New(rand.NewSource(2))
	for range 10000 {
		l := mixed(random, 1+random.Intn(20))
		value, next, e := expected(l, 0, (*model).choice)
		if e == api.OK && next < len(l) {
			value, e = 0, api.ErrSyntax
		}
		if slices.ContainsFunc(l, func(x api.Token) bool { return x.Value > api.MaxCell }) {
			value, e = 0, api.ErrRange
		}
		if got, gotE := expression.Compute(written(l)); got != value || gotE != e {
			t.Errorf("%s: %d, error %d, not %d, error %d", written(l), got, gotE, value, e)
		}
	}
}
