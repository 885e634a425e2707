package parse_test

import (
	"math/rand"
	"slices"
	"strings"
	"testing"

	"bywash/api"
	"bywash/lex"
	"bywash/parse"
)

// samples are texts that are parsed, by their rules: each alternative, each repetition with nothing, one and several, and each optional part with and without.
func samples() map[string][]string {
	exprs := []string{
		"a", "0", "1", "9223372036854775807", `""`, `"a b"`, "null", "f(a)", "f(a, b)", "f(a, b, c)", "(a)", "((a))", "f(g(a), (b))",
		"-a", "-0", "-1", "- -1", "--a", "-(1)", "-\"a\"", "-null", "-f(a)", "-(-(a))",
		"a*b", "a/b", "a%b", "a*b/c%d", "a+b", "a-b", "a+b-c+d", "a-1", "a - -1", "a*-b", "-a*-1",
		"a=b", "a!=b", "a<b", "a<=b", "a>b", "a>=b", "a+1=b*2", "(a=b)=c", "a=(b=c)",
		"not a", "not not a", "not a=b", "not (a)", "not -a", "not f(not a)",
		"a and b", "a and b and c", "not a and not b", "a=b and c<d", "a or b", "a or b or c", "a and b or c and d", "(a or b) and c", "not(a or b)",
		"and(a)", "or(a,b)", "null(a)", "a=not(b)", "-and(a)", "where", "as + by", "if(a > 1, 1 / 0, 5)",
	}
	queries := []string{
		"x", "(x)", "((x))", "where", "(x|distinct)", "(x|distinct)|distinct",
		"x|where a", "x|where a and b|where c", "x|keep a as b", "x|keep a as b,c+1 as d", "x|keep a as b,f(c,d) as e,1 as f", "x|keep as as as",
		"x|join y on a=b", "x|left y on a=b", "x|join y on a=b,c=d", "x|left (y) on a=b,c=d,e=f", "x|join (y|distinct) on a=b|distinct", "x|left ((y|where a)|where b) on a=b", "on|join on on on=on",
		"x|group:", "x|group a:", "x|group a,b:", "x|group a,b,c:count()as n", "x|group:count()as n,count(a)as m", "x|group:sum(a)as s,min(b)as t,max(c)as u", "x|group a:sum()as n", "group|group group:count(count)as count",
		"x|union y", "x|union (y|distinct)", "x|union union|union y", "x|distinct", "x|distinct|distinct|distinct",
		"x|first 0", "x|first 3 by a", "x|first 3 by a down", "x|first 3 by a,b down,c", "x|first 9223372036854775807 by a down,b down", "x|first 1 by down", "x|first 1 by down down", "x|first 1|first 2 by by",
		"x | where a > 1 | keep a * 2 as b",
	}
	texts := []string{
		"", "source x (a int) static 0..0;", "source x (a text) hourly 1..2;", "source x (a int, b text) daily 0..9223372036854775807;", "source x (a int, b text, c int) weekly 3..1;", "source source (source int) monthly 0..0;",
		"asset y daily 0..1 from x same as x do x;", "asset y hourly 0..1 from x last 3 as x, z shift 2 as w do x|union w;", "asset y weekly 0..1 from x shift -2 as x, z within as z, w all as w do (x);", "asset asset static 0..0 from from same as as do as;",
		`schedule s "0 0 * * *" makes y;`, `schedule s "" makes y, z;`, `schedule schedule "a\"b\\" makes makes, makes, y;`,
		"source x (a int) static 0..0; source x (a int) static 0..0;", "source x (a int) static 0..0; asset y static 0..0 from x same as x do x | where a; schedule s \"*\" makes y;", "schedule s \"\" makes y;asset y static 0..0 from x all as x do x;source x(a int)static 0..0;",
	}
	for _, q := range queries {
		texts = append(texts, "asset y static 0..0 from x same as x do "+q+";")
	}
	for _, x := range exprs {
		queries = append(queries, "x|keep "+x+" as a,"+x+" as b")
	}
	return map[string][]string{"expr": exprs, "query": queries, "text": texts}
}

// vocabulary is what may stand in the place of a token.
func vocabulary() []string {
	return []string{
		"a", "f", "source", "asset", "schedule", "int", "text", "hourly", "daily", "weekly", "monthly", "static", "from", "do", "as", "same", "last", "shift", "within", "all", "makes", "where", "keep", "join", "left", "on", "group", "union", "distinct", "first", "by", "count", "sum", "min", "max", "down", "or", "and", "not", "null",
		"0", "1", "7", "9223372036854775807", `""`, `"a"`, `"("`, `";"`, `"not"`, `"source"`,
		"(", ")", ",", ";", ":", "|", "+", "-", "*", "/", "%", "=", "!=", "<", "<=", ">", ">=", "..",
	}
}

// pieces returns the texts of the tokens of s.
func pieces(s string) []string {
	tokens, _, _ := lex.Lex(s)
	var l []string
	for _, token := range tokens {
		l = append(l, token.Show())
	}
	return l
}

// P14.1, P14.2: texts of each rule are parsed, with what may be between tokens and without, up to the last byte.
func TestSamples(t *testing.T) {
	for rule, l := range samples() {
		for _, s := range l {
			for _, text := range []string{s, strings.Join(pieces(s), " "), strings.Join(pieces(s), "\n"), " " + s, s + " \n\t", "# a\n" + s + "# b", strings.Join(pieces(s), "#;\n")} {
				at, e, _ := answer(rule, text)
				if at != len(text) || e != api.OK {
					t.Errorf("%s %q: %d, %d", rule, text, at, e)
				}
				agrees(t, rule, text)
			}
		}
	}
}

// P14.1, P14.2: each token missing, doubled, and each other one in its place or ahead of it; and each text cut off behind each of its tokens.
func TestChangedTokens(t *testing.T) {
	for rule, l := range samples() {
		for n, s := range l {
			tokens := pieces(s)
			for i := range tokens {
				agrees(t, rule, strings.Join(slices.Delete(slices.Clone(tokens), i, i+1), " "))
				agrees(t, rule, strings.Join(slices.Insert(slices.Clone(tokens), i, tokens[i]), " "))
				agrees(t, rule, strings.Join(tokens[:i], " "))
				agrees(t, rule, strings.Join(tokens[i:], " "))
				// All other tokens in each place of each text would take long: these take turns in the longer ones.
				for k, other := range vocabulary() {
					if len(tokens) > 12 && (n+i+k)%8 != 0 {
						continue
					}
					changed := slices.Clone(tokens)
					changed[i] = other
					agrees(t, rule, strings.Join(changed, " "))
					agrees(t, rule, strings.Join(slices.Insert(slices.Clone(tokens), i, other), " "))
				}
			}
			for _, other := range vocabulary() {
				agrees(t, rule, s+" "+other)
				agrees(t, rule, s+" # a\n"+other+"\n")
			}
		}
	}
}

// P14.1, P14.2: texts in which several tokens are changed, and texts of any tokens.
func TestRandomTokens(t *testing.T) {
	r := rand.New(rand.NewSource(14))
	words := vocabulary()
	any := func() string { return words[r.Intn(len(words))] }
	for rule, l := range samples() {
		for range 8000 {
			tokens := pieces(l[r.Intn(len(l))])
			for range 1 + r.Intn(3) {
				i := r.Intn(len(tokens) + 1)
				switch end := min(i+r.Intn(3), len(tokens)); r.Intn(4) {
				case 0:
					tokens = slices.Delete(tokens, i, end)
				case 1:
					tokens = slices.Insert(tokens, i, any())
				case 2:
					tokens = slices.Replace(tokens, i, end, any())
				case 3:
					tokens = slices.Insert(tokens, i, slices.Clone(tokens[i:end])...)
				}
			}
			agrees(t, rule, strings.Join(tokens, " "))
		}
		for range 8000 {
			var tokens []string
			for range r.Intn(8) {
				tokens = append(tokens, any())
			}
			agrees(t, rule, strings.Join(tokens, " "))
		}
	}
}

// P14.1, P14.2: the error of the lexer is told, wherever it stands, and with its offset.
func TestLexer(t *testing.T) {
	long := strings.Repeat(" ", api.MaxSource+1)
	for _, rule := range []string{"text", "query", "expr"} {
		for _, c := range []struct {
			s  string
			at int
			e  api.Errno
		}{
			{"!", 0, api.ErrToken}, {") !", 2, api.ErrToken}, {"; a ; A", 6, api.ErrToken}, {"a ) \"", 4, api.ErrToken}, {"x x 9223372036854775808", 4, api.ErrOverflow}, {"x x 01", 4, api.ErrToken}, {"| . 9223372036854775808", 2, api.ErrToken}, {"a ) b\n#!\n\"\\a\"", 9, api.ErrToken}, {strings.Repeat("(", 40) + "!", 40, api.ErrToken}, {"a" + long, 0, api.ErrMany}, {"!" + long, 0, api.ErrMany}, {long, 0, api.ErrMany}, {") " + strings.Repeat("a", 17), 2, api.ErrToken}, {") \"" + strings.Repeat("a", 65) + "\"", 2, api.ErrToken},
		} {
			at, e, none := answer(rule, c.s)
			if at != c.at || e != c.e || !none {
				t.Errorf("%s %.40q: %d, %d", rule, c.s, at, e)
			}
			agrees(t, rule, c.s)
		}
	}
	for rule, l := range samples() {
		for _, s := range l {
			for _, bad := range []string{"!", "01", "9223372036854775808", "\"", "A"} {
				agrees(t, rule, s+" "+bad)
				agrees(t, rule, ") "+s+" "+bad)
			}
		}
	}
}

// P14.1: a text of MaxSource bytes is parsed, and one more is too many.
func TestLongText(t *testing.T) {
	s := strings.Repeat("source x (a int) static 0..0;", 560)
	s += strings.Repeat(" ", api.MaxSource-len(s))
	l, at, e := parse.Parse(s)
	if len(l) != 560 || at != api.MaxSource || e != api.OK {
		t.Errorf("Parse of a long text: %d definitions, %d, %d", len(l), at, e)
	}
	l, at, e = parse.Parse(s + " ")
	if len(l) != 0 || at != 0 || e != api.ErrMany {
		t.Errorf("Parse of a longer text: %d definitions, %d, %d", len(l), at, e)
	}
	x, at, e := parse.Expr("a" + strings.Repeat("+a", 8191))
	if x.Size() != 16383 || at != 16383 || e != api.OK {
		t.Errorf("Expr of a long text: %d, %d, %d", x.Size(), at, e)
	}
	deep := strings.Repeat("-(", 15) + "a" + strings.Repeat("*a", 8000) + strings.Repeat(")", 15)
	if x, at, e = parse.Expr(deep); x.Size() != 16016 || at != len(deep) || e != api.OK {
		t.Errorf("Expr of a long and deep text: %d, %d, %d", x.Size(), at, e)
	}
	p, at, e := parse.Query("x" + strings.Repeat("|distinct", 1820))
	if p.Size() != 1821 || at != 16381 || e != api.OK {
		t.Errorf("Query of a long text: %d, %d, %d", p.Size(), at, e)
	}
}
