package parse_test

import (
	"math/rand"
	"strings"
	"testing"

	"bywash/api"
	"bywash/expr"
)

// nest is what stands around something that is deeper by 1: parentheses, a call, `not` or a minus sign.
type nest struct{ before, after string }

var nests = []nest{{"(", ")"}, {"f(", ")"}, {"f(b,", ")"}, {"not ", ""}, {"-", ""}}

// P14.2: an expr of MaxDepth levels is read, and one more is too deep, where it begins.
func TestDepth(t *testing.T) {
	for _, n := range nests {
		s := strings.Repeat(n.before, 31)
		end := strings.Repeat(n.after, 31)
		for _, a := range []string{"a", "1", `"b"`, "null", "-1", "a + b", "a or b and c", "- 9223372036854775807"} {
			within := func(x string) string { return s + x + end }
			if n.before == "-" && a == "1" {
				// The last minus sign belongs to the number.
				within = func(x string) string { return "-" + s + x + end }
			}
			at, e, _ := answer("expr", within(a))
			if at != len(within(a)) || e != api.OK {
				t.Errorf("Expr(%q): %d, %d", within(a), at, e)
			}
			agrees(t, "expr", within(a))
		}
		for _, more := range nests {
			deep := s + more.before + "^"
			switch more.before {
			case "(":
				deep = s + "^("
			case "f(b,":
				deep = s + "f(^b,"
			}
			if n.before == "-" && more.before == "not " {
				fails(t, "expr", s+"^not a", api.ErrWord)
				continue
			}
			fails(t, "expr", deep+"a"+more.after+end, api.ErrDeep)
			fails(t, "expr", deep+"a", api.ErrDeep)
			fails(t, "expr", deep+"f(a)"+more.after+end, api.ErrDeep)
			fails(t, "expr", deep+`""`+more.after+end, api.ErrDeep)
			fails(t, "expr", deep+"null ;", api.ErrDeep)
			fails(t, "expr", deep+strings.Repeat("f(", 40), api.ErrDeep)
			if more.before != "-" {
				fails(t, "expr", deep+"1"+more.after+end, api.ErrDeep)
				fails(t, "expr", deep+"-1"+more.after+end, api.ErrDeep)
				fails(t, "expr", deep+strings.Repeat("not ", 40), api.ErrDeep)
			} else {
				fails(t, "expr", deep+"0", api.ErrDeep)
				fails(t, "expr", deep+"-1", api.ErrDeep)
			}
		}
		// What contains it may go on with other tokens.
		fails(t, "query", "x|keep 1 as b, a = "+strings.Repeat("(", 31)+"^("+s, api.ErrDeep)
		fails(t, "text", "asset y static 0..0 from x same as x do x|where "+s+strings.Repeat("f(", 1)+"^a", api.ErrDeep)
	}
	// Beside each other, they are no deeper.
	wide := "a" + strings.Repeat(" and not (a)", 100) + strings.Repeat(" and f(-a, (a))", 100)
	agrees(t, "expr", wide)
	if at, e, _ := answer("expr", wide); at != len(wide) || e != api.OK {
		t.Errorf("Expr of many beside each other: %d, %d", at, e)
	}
	fails(t, "expr", wide+"^)", api.ErrWord)
	fails(t, "expr", wide+" and "+strings.Repeat("(", 31)+"^((", api.ErrDeep)
}

// P14.2: in what is too deep, a token with which it can't begin is not allowed at all.
func TestNothingDeep(t *testing.T) {
	for _, n := range nests {
		s := strings.Repeat(n.before, 31)
		for _, bad := range []string{"^", "^)", "^,", "^;", "^*", "^and", "^or", "^= a", "^|", "^.."} {
			fails(t, "expr", s+bad, api.ErrWord)
			fails(t, "expr", s+"f("+bad, api.ErrWord)
			fails(t, "expr", s+"-"+bad, api.ErrWord)
			fails(t, "expr", s+"^("+strings.Replace(bad, "^", "", 1), api.ErrDeep)
		}
	}
	fails(t, "expr", strings.Repeat("-", 32)+"^not a", api.ErrWord)
	fails(t, "expr", strings.Repeat("-", 32)+"^not (a)", api.ErrDeep)
	fails(t, "expr", strings.Repeat("not ", 32)+"^not a", api.ErrDeep)
	fails(t, "expr", strings.Repeat("not ", 32)+"^and", api.ErrWord)
	fails(t, "expr", strings.Repeat("not ", 32)+"^and(a)", api.ErrDeep)
}

// P14.2: depths by any mix of all ways, in an expr and in the steps of a query.
func TestMixedDepth(t *testing.T) {
	r := rand.New(rand.NewSource(144))
	for range 800 {
		var before, after string
		for range 28 + r.Intn(8) {
			n := nests[r.Intn(len(nests))]
			if strings.HasSuffix(before, "-") && n.before == "not " {
				n = nests[0]
			}
			before, after = before+n.before, n.after+after
		}
		a := []string{"a", "0", "1", "-1", "-0", "f(a)", "not a", "(a)", "a + b"}[r.Intn(9)]
		agrees(t, "expr", before+a+after)
		agrees(t, "query", "x|where "+before+a+after)
		agrees(t, "query", "x|keep a as b,"+before+a+after+" as c")
		agrees(t, "text", "asset y static 0..0 from x same as x do x|where "+before+a+after+";")
	}
}

// P14.2: parts in parentheses, as the first part and as that of each step that has one.
func TestQueryDepth(t *testing.T) {
	for _, n := range []nest{{"(", ")"}, {"(x|union ", ")"}, {"(x|join ", " on a=b)"}, {"(x|left ", " on a=b)"}, {"(", "|distinct)"}, {"(", "|union y|first 1)"}, {"(", "|keep a as b)"}} {
		for _, a := range []string{"x", "where"} {
			s := strings.Repeat(n.before, 31) + a + strings.Repeat(n.after, 31)
			if at, e, _ := answer("query", s); at != len(s) || e != api.OK {
				t.Errorf("Query(%q): %d, %d", s, at, e)
			}
			agrees(t, "query", s)
			agrees(t, "text", "asset y static 0..0 from x same as x do "+s+";")
		}
		s := strings.Repeat(n.before, 31)
		after := strings.Repeat(n.after, 32)
		deep := s + strings.Replace(n.before, "(", "^(", 1)
		fails(t, "query", deep+"x"+after, api.ErrDeep)
		fails(t, "query", deep, api.ErrDeep)
		fails(t, "query", deep+"1", api.ErrDeep)
		fails(t, "query", s+"^1"+after, api.ErrWord)
		fails(t, "query", s+"^", api.ErrWord)
		fails(t, "query", s+"^)"+after, api.ErrWord)
		fails(t, "text", "asset y static 0..0 from x same as x do "+deep+"x"+after+";", api.ErrDeep)
		if n.before == "(" {
			fails(t, "query", s+"x|union ^(y)"+after, api.ErrDeep)
			fails(t, "query", s+"x|join ^(y) on a=b"+after, api.ErrDeep)
			fails(t, "query", s+"x|left ^(y) on a=b"+after, api.ErrDeep)
		}
	}
	// The exprs of a step are as deep as the query that has it.
	for depth := 1; depth <= 32; depth++ {
		before, after := strings.Repeat("(", depth-1), strings.Repeat(")", depth-1)
		s := before + "x|where " + strings.Repeat("(", 32-depth) + "a" + strings.Repeat(")", 32-depth) + after
		if at, e, _ := answer("query", s); at != len(s) || e != api.OK {
			t.Errorf("Query(%q): %d, %d", s, at, e)
		}
		fails(t, "query", before+"x|where "+strings.Repeat("(", 32-depth)+"^(a"+strings.Repeat(")", 33-depth)+after, api.ErrDeep)
		fails(t, "query", before+"x|keep a as b,"+strings.Repeat("not ", 33-depth)+"^a as c"+after, api.ErrDeep)
		agrees(t, "query", s)
	}
	// Beside each other, they are no deeper.
	s := strings.Repeat("(", 31) + "x" + strings.Repeat(")", 31) + strings.Repeat("|union "+strings.Repeat("(", 31)+"x"+strings.Repeat(")", 31), 50)
	if at, e, _ := answer("query", s); at != len(s) || e != api.OK {
		t.Errorf("Query of many beside each other: %d, %d", at, e)
	}
}

// P14.2: what is read at the greatest depth is what it is elsewhere.
func TestDeepResult(t *testing.T) {
	for _, c := range []struct {
		nest
		wrap func(x expr.Expr) expr.Expr
	}{
		{nest{"(", ")"}, func(x expr.Expr) expr.Expr { return x }},
		{nest{"f(b,", ")"}, func(x expr.Expr) expr.Expr { return call("f", col("b"), x) }},
		{nest{"not ", ""}, func(x expr.Expr) expr.Expr { return unary("not", x) }},
		{nest{"-", ""}, func(x expr.Expr) expr.Expr { return unary("-", x) }},
	} {
		want := col("a")
		for range 31 {
			want = c.wrap(want)
		}
		reads(t, strings.Repeat(c.before, 31)+"a"+strings.Repeat(c.after, 31), want)
		reads(t, "c or "+strings.Repeat(c.before, 31)+"a"+strings.Repeat(c.after, 31), binary("or", col("c"), want))
	}
}
