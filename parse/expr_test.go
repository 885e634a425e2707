package parse_test

import (
	"strconv"
	"strings"
	"testing"

	"bywash/api"
	"bywash/expr"
)

// P14.2: each kind of primary, and calls with one argument and several.
func TestPrimaries(t *testing.T) {
	reads(t, "a", col("a"))
	reads(t, "a234567890123456", col("a234567890123456"))
	for _, n := range []int{0, 1, 2, 10, 1<<63 - 2, 1<<63 - 1} {
		reads(t, strconv.Itoa(n), num(n))
	}
	reads(t, `""`, str(""))
	reads(t, `"a b"`, str("a b"))
	reads(t, `"\"\\"`, str(`"\`))
	reads(t, `"null"`, str("null"))
	reads(t, `"("`, str("("))
	reads(t, "null", null())
	reads(t, "(a)", col("a"))
	reads(t, "(((1)))", num(1))
	reads(t, "f(a)", call("f", col("a")))
	reads(t, "f (a)", call("f", col("a")))
	reads(t, "f((a))", call("f", col("a")))
	reads(t, "f(a,b)", call("f", col("a"), col("b")))
	reads(t, `f(1,"",null,-1,a=b,c or d,g(e))`, call("f", num(1), str(""), null(), num(-1), binary("=", col("a"), col("b")), binary("or", col("c"), col("d")), call("g", col("e"))))
	reads(t, "f(g(h(a)),h(b))", call("f", call("g", call("h", col("a"))), call("h", col("b"))))
	reads(t, "f(not a, not b)", call("f", unary("not", col("a")), unary("not", col("b"))))
	reads(t, "f(a)+f(b)", binary("+", call("f", col("a")), call("f", col("b"))))
	reads(t, "if(a > 1, 1 / 0, 5)", call("if", binary(">", col("a"), num(1)), binary("/", num(1), num(0)), num(5)))
	var args []expr.Expr
	for range 1000 {
		args = append(args, num(1))
	}
	reads(t, "f(1"+strings.Repeat(",1", 999)+")", call("f", args...))
}

// P14.2: which operators are binary and unary ones, and which binds closer than which.
func TestOperators(t *testing.T) {
	levels := [][]string{{"or"}, {"and"}, {"=", "!=", "<", "<=", ">", ">="}, {"+", "-"}, {"*", "/", "%"}}
	a, b, c := col("a"), col("b"), col("c")
	for i, ops := range levels {
		for _, op := range ops {
			reads(t, "a "+op+" b", binary(op, a, b))
			reads(t, "1 "+op+" 2", binary(op, num(1), num(2)))
			reads(t, "a "+op+" -1", binary(op, a, num(-1)))
			reads(t, "- a "+op+" - b", binary(op, unary("-", a), unary("-", b)))
			reads(t, "(a "+op+" b) "+op+" c", binary(op, binary(op, a, b), c))
			reads(t, "a "+op+" (b "+op+" c)", binary(op, a, binary(op, b, c)))
			reads(t, "-(a "+op+" b)", unary("-", binary(op, a, b)))
			reads(t, "not(a "+op+" b)", unary("not", binary(op, a, b)))
			for j, others := range levels {
				for _, other := range others {
					s := "a " + op + " b " + other + " c"
					switch {
					case i == j && i == 2:
						fails(t, "expr", "a "+op+" b ^"+other+" c", api.ErrWord)
						fails(t, "query", "x | where a "+op+" b ^"+other+" c", api.ErrWord)
						fails(t, "expr", "(a) "+op+" (b) ^"+other+" (c)", api.ErrWord)
						fails(t, "expr", "a + 1 "+op+" b * 2 ^"+other+" c", api.ErrWord)
						reads(t, "(a "+op+" b) "+other+" c", binary(other, binary(op, a, b), c))
						reads(t, "a "+op+" (b "+other+" c)", binary(op, a, binary(other, b, c)))
					case i < j:
						reads(t, s, binary(op, a, binary(other, b, c)))
					default:
						reads(t, s, binary(other, binary(op, a, b), c))
					}
					reads(t, "a "+op+" f(b "+other+" c)", binary(op, a, call("f", binary(other, b, c))))
				}
			}
			switch {
			case i < 2:
				reads(t, "not a "+op+" b", binary(op, unary("not", a), b))
				reads(t, "a "+op+" not b", binary(op, a, unary("not", b)))
				reads(t, "not not a "+op+" not not b", binary(op, unary("not", unary("not", a)), unary("not", unary("not", b))))
			default:
				reads(t, "not a "+op+" b", unary("not", binary(op, a, b)))
				fails(t, "expr", "a "+op+" ^not b", api.ErrWord)
			}
			for _, s := range []string{"^" + op + " a", "a " + op + "^", "a " + op + " ^)", "a " + op + " ^" + op + " b", "a ^a " + op + " b", "(a " + op + "^)", "f(a " + op + "^, b)", "a " + op + " b ^c"} {
				if op != "-" || !strings.Contains(s, "^-") {
					fails(t, "expr", s, api.ErrWord)
				}
			}
		}
	}
	reads(t, "a-b-c+d", binary("+", binary("-", binary("-", a, b), c), col("d")))
	reads(t, "a/b*c%d", binary("%", binary("*", binary("/", a, b), c), col("d")))
	reads(t, "a or b or c", binary("or", binary("or", a, b), c))
	reads(t, "a and b and c and a", binary("and", binary("and", binary("and", a, b), c), a))
	reads(t, "a or b and c = a + b * - c", binary("or", a, binary("and", b, binary("=", c, binary("+", a, binary("*", b, unary("-", c)))))))
	reads(t, "-a * b + c = a and b or c", binary("or", binary("and", binary("=", binary("+", binary("*", unary("-", a), b), c), a), b), c))
	reads(t, "a = b and b = c or c != a", binary("or", binary("and", binary("=", a, b), binary("=", b, c)), binary("!=", c, a)))
}

// P14.2: what a minus sign stands ahead of.
func TestMinus(t *testing.T) {
	a := col("a")
	const most = 1<<63 - 1
	for s, x := range map[string]expr.Expr{
		"-0": unary("-", num(0)), "-1": num(-1), "-2": num(-2), "-10": num(-10), "-9223372036854775807": num(-most), "-\n#\n1": num(-1), "- 0": unary("-", num(0)),
		"--0": unary("-", unary("-", num(0))), "--1": unary("-", num(-1)), "---1": unary("-", unary("-", num(-1))), "--9223372036854775807": unary("-", num(-most)), "--a": unary("-", unary("-", a)), "---a": unary("-", unary("-", unary("-", a))),
		"-a": unary("-", a), `-""`: unary("-", str("")), "-null": unary("-", null()), "-f(1)": unary("-", call("f", num(1))), "-f(-1)": unary("-", call("f", num(-1))), "-not(a)": unary("-", call("not", a)),
		"-(0)": unary("-", num(0)), "-(1)": unary("-", num(1)), "-(-1)": unary("-", num(-1)), "-(9223372036854775807)": unary("-", num(most)), "-(a)": unary("-", a), "-(a+1)": unary("-", binary("+", a, num(1))), "-(not a)": unary("-", unary("not", a)),
		"-1*2": binary("*", num(-1), num(2)), "-0*2": binary("*", unary("-", num(0)), num(2)), "-1--1": binary("-", num(-1), num(-1)), "1-1": binary("-", num(1), num(1)), "1--1": binary("-", num(1), num(-1)), "1---1": binary("-", num(1), unary("-", num(-1))), "1-0": binary("-", num(1), num(0)), "1--0": binary("-", num(1), unary("-", num(0))), "a-1": binary("-", a, num(1)), "-1-1": binary("-", num(-1), num(1)), "-1=-1": binary("=", num(-1), num(-1)), "(-1)": num(-1), "f(-1,-0)": call("f", num(-1), unary("-", num(0))), "not -1": unary("not", num(-1)),
	} {
		reads(t, s, x)
	}
	for _, s := range []string{"-^", "--^", "-^)", "(-^)", "-^+1", "-^*a", "-1 ^1", "- ^and", "a-^", "-0 ^0", "- 1 ^a", "f(-^)", "-^, a", "-f(^)", "^+1", "a+^+b", "-^=a", "-^|", "-^;"} {
		fails(t, "expr", s, api.ErrWord)
	}
}

// P14.2: exprs that are none, and where.
func TestNoExpr(t *testing.T) {
	for _, s := range []string{
		"^", "^)", "^,", "^;", "^|", "^:", "^..", "^*", "^/", "^%", "^=", "^!=", "^<", "^<=", "^>", "^>=", "^+", "a ^a", "a ^1", `a ^"b"`, "a ^null", "1 ^a", "1 ^1", "1 ^(a)", `"a" ^a`, `"a" ^"b"`, `"f"^(a)`, "null ^null", "1^(a)", "(a)^(b)", "(a) ^b", "f(a)^(b)", "f(a) ^g(b)", "a^,b", "a^;", "a^|where b", "a ^as b", "a^:", "a^..b", "1^..2", "a^)",
		"(^", "(^)", "((^", "(a^", "((a)^", "(a^,b)", "(a ^b)", "(a)^)", "(a^;", "(a^|", "f(^", "f(^)", "f(^,a)", "f(a^", "f(a,^", "f(a,^)", "f(a,^,b)", "f(a ^b)", "f(a)^)", "f(a^;b)", "f(a,b^", "f(f(a)^", "f(f(^))", "f(a=b^=c)", "not^", "not ^)", "not ^*", "not not^", "not ^, a", "not(^)", "not(a^", "not(a^,b)", "a = b ^= c", "a < b ^>= c", "a and b = c ^= d", "f(a = b ^= c)", "a = b or b = c ^!= d",
	} {
		fails(t, "expr", s, api.ErrWord)
	}
}
