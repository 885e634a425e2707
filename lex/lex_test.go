package lex_test

import (
	"math/rand"
	"slices"
	"strconv"
	"strings"
	"testing"
	"unsafe"

	"bywash/api"
	"bywash/lex"
)

// all are the signs, as the chapter lists them.
func all() []string {
	return []string{"(", ")", ",", ";", ":", "|", "+", "-", "*", "/", "%", "=", "!=", "<", "<=", ">", ">=", ".."}
}

// char returns the text of one byte.
func char(c int) string { return string([]byte{byte(c)}) }

// P13.1: the chapter's example.
func TestExample(t *testing.T) {
	lexes(t, "a<=10#x", word("a", 0), sign("<=", 1), number(10, 3))
}

// P13.1: tokens of all kinds, with what may be between them and without, and their offsets.
func TestTokens(t *testing.T) {
	lexes(t, "source x (a int) static 0..0;", word("source", 0), word("x", 7), sign("(", 9), word("a", 10), word("int", 12), sign(")", 15), word("static", 17), number(0, 24), sign("..", 25), number(0, 27), sign(";", 28))
	lexes(t, "x|where a>1|keep a*2 as b", word("x", 0), sign("|", 1), word("where", 2), word("a", 8), sign(">", 9), number(1, 10), sign("|", 11), word("keep", 12), word("a", 17), sign("*", 18), number(2, 19), word("as", 21), word("b", 24))
	lexes(t, "schedule s \"0 2 * * *\"\n\tmakes y, z ; # nightly\n", word("schedule", 0), word("s", 9), literal("0 2 * * *", 11), word("makes", 24), word("y", 30), sign(",", 31), word("z", 33), sign(";", 35))
	lexes(t, `a"b"1"c"(d)2e`, word("a", 0), literal("b", 1), number(1, 4), literal("c", 5), sign("(", 8), word("d", 9), sign(")", 10), number(2, 11), word("e", 12))
	lexes(t, "  \t\n a", word("a", 5))
	lexes(t, "a \n\t ", word("a", 0))
	lexes(t, "shift -7:shift - 7", word("shift", 0), sign("-", 6), number(7, 7), sign(":", 8), word("shift", 9), sign("-", 15), number(7, 17))
}

// P13.1: texts that have no tokens.
func TestNone(t *testing.T) {
	for _, s := range []string{
		"", " ", "\t", "\n", "  ", "\t\t", "\n\n", " \t\n", "\n\t \n", strings.Repeat(" \t\n", 100),
		"#", "##", "#\n", "# ", "#a", "#\n\n", "#\n#", "#\n#\n", " #", "\t#\n ", "# a\n# b", "# a # b\n", "# \"", "#\"a", "#<=", "#!", "#.", "#A", "#01", "#9223372036854775808", "#\r", "#\x00\xff", "#\\\n", "#\xc3\xa9\n", "\n \t# x\n\t#\n",
		"#" + strings.Repeat("a", 100) + "\n", `# "a" <= 1 ! . A \` + "\n#\"\n",
	} {
		lexes(t, s)
	}
}

// P13.1: comments behind tokens, ahead of them and at the end, with a newline and without; a literal holds none.
func TestComments(t *testing.T) {
	for _, comment := range []string{"#", "##", "# ", "#x", "# x y", "#\t", "#\"", "#\"b\"", "#'", "#<=", "#(", "#..", "#!", "#.", "#A", "#\\", "#01", "#\x00", "#\r", "#\xff", "# b <= \"c\" # d"} {
		lexes(t, "a"+comment, word("a", 0))
		lexes(t, "a"+comment+"\n", word("a", 0))
		lexes(t, "a "+comment+"\n\n", word("a", 0))
		lexes(t, comment+"\na", word("a", len(comment)+1))
		lexes(t, "a"+comment+"\nb", word("a", 0), word("b", len(comment)+2))
		lexes(t, "1"+comment+"\n2"+comment, number(1, 0), number(2, len(comment)+2))
		lexes(t, "<"+comment+"\n=", sign("<", 0), sign("=", len(comment)+2))
		lexes(t, ".."+comment, sign("..", 0))
		lexes(t, `"c"`+comment+"\n"+`"d"`, literal("c", 0), literal("d", len(comment)+4))
		fails(t, "."+comment+"\n.", 0, api.ErrToken)
		fails(t, comment+"\n!", len(comment)+1, api.ErrToken)
		fails(t, "a"+comment+"\nA", len(comment)+2, api.ErrToken)
	}
	lexes(t, `"#a"b`, literal("#a", 0), word("b", 4))
	lexes(t, `"#"#"`, literal("#", 0))
}

// P13.1: each byte alone.
func TestByte(t *testing.T) {
	for c := range 256 {
		s := char(c)
		switch {
		case c >= 'a' && c <= 'z':
			lexes(t, s, word(s, 0))
		case c >= '0' && c <= '9':
			lexes(t, s, number(c-'0', 0))
		case strings.IndexByte("(),;:|+-*/%=<>", byte(c)) >= 0:
			lexes(t, s, sign(s, 0))
		case c == 32 || c == 9 || c == 10 || c == '#':
			lexes(t, s)
		default:
			fails(t, s, 0, api.ErrToken)
		}
	}
}

// P13.1: each byte behind a token of each kind, and ahead of one.
func TestByteBeside(t *testing.T) {
	for _, token := range []string{"a", "ab_9", "a234567890123456", "0", "1", "10", "9223372036854775807", `""`, `"b"`, `"\""`, `"\\"`, "(", ")", ",", ";", ":", "|", "+", "-", "*", "/", "%", "=", "!=", "<", "<=", ">", ">=", ".."} {
		for c := range 256 {
			for _, gap := range []string{"", " ", "\t", "\n", "#\n"} {
				agrees(t, token+gap+char(c))
				agrees(t, char(c)+gap+token)
				agrees(t, token+gap+char(c)+gap+token)
			}
		}
	}
}

// P13.1: no byte beside space, tab and newline parts tokens, and these part each two of them.
func TestBetween(t *testing.T) {
	for c := range 256 {
		s := "a" + char(c) + "b"
		switch {
		case c >= 'a' && c <= 'z' || c >= '0' && c <= '9' || c == '_':
			lexes(t, s, word(s, 0))
		case strings.IndexByte("(),;:|+-*/%=<>", byte(c)) >= 0:
			lexes(t, s, word("a", 0), sign(char(c), 1), word("b", 2))
		case c == 32 || c == 9 || c == 10:
			lexes(t, s, word("a", 0), word("b", 2))
		case c == '#':
			lexes(t, s, word("a", 0))
		default:
			fails(t, s, 1, api.ErrToken)
		}
	}
	for _, s := range []string{"1 2", "1\t2", "1\n2"} {
		lexes(t, s, number(1, 0), number(2, 2))
	}
	for _, s := range []string{"< =", "<\t=", "<\n="} {
		lexes(t, s, sign("<", 0), sign("=", 2))
	}
	for _, s := range []string{"! =", ". .", "1 .\n."} {
		fails(t, s, strings.IndexAny(s, "!."), api.ErrToken)
	}
}

// P13.1: words.
func TestWords(t *testing.T) {
	for _, s := range []string{"a", "z", "m", "az", "a_", "a__", "a0", "z9", "a_1", "and", "null", "not_1_a", "a234567890123456", "aaaaaaaaaaaaaaaa", "z_______________", "z999999999999999"} {
		lexes(t, s, word(s, 0))
		lexes(t, " "+s+" ", word(s, 1))
		lexes(t, s+"+"+s, word(s, 0), sign("+", len(s)), word(s, len(s)+1))
	}
	for c := byte('a'); c <= 'z'; c++ {
		s := char(int(c)) + "b" + char(int(c))
		lexes(t, s, word(s, 0))
	}
	for _, s := range []string{"a2345678901234567", "aaaaaaaaaaaaaaaaa", "z________________", "z9999999999999999", "aaaaaaaaaaaaaaaaaA", strings.Repeat("a", 32), strings.Repeat("b", 255), strings.Repeat("b", 256), strings.Repeat("b", 272), strings.Repeat("c", 16384)} {
		fails(t, s, 0, api.ErrToken)
		if len(s) < 1000 {
			fails(t, "a1 "+s+" b", 3, api.ErrToken)
		}
	}
	for c := byte('A'); c <= 'Z'; c++ {
		fails(t, char(int(c))+"a", 0, api.ErrToken)
		fails(t, "a"+char(int(c))+"a", 1, api.ErrToken)
		fails(t, "a"+char(int(c)), 1, api.ErrToken)
	}
	fails(t, "aaaaaaaaaaaaaaaaA", 16, api.ErrToken)
	fails(t, "_", 0, api.ErrToken)
	fails(t, "_a", 0, api.ErrToken)
	fails(t, "__", 0, api.ErrToken)
	fails(t, "a-_b", 2, api.ErrToken)
	fails(t, "1_a", 1, api.ErrToken)
	fails(t, "a\xc3\xa9", 1, api.ErrToken)
	lexes(t, "1a", number(1, 0), word("a", 1))
	lexes(t, "9a_9", number(9, 0), word("a_9", 1))
}

// P13.1: numbers.
func TestNumbers(t *testing.T) {
	for _, n := range []int{0, 1, 7, 9, 10, 11, 99, 100, 101, 1000, 1<<31 - 1, 1 << 31, 1<<32 - 1, 1 << 32, 1 << 62, 1<<63 - 2, 1<<63 - 1} {
		s := strconv.Itoa(n)
		lexes(t, s, number(n, 0))
		lexes(t, s+" "+s, number(n, 0), number(n, len(s)+1))
		lexes(t, s+"a", number(n, 0), word("a", len(s)))
		lexes(t, s+".."+s, number(n, 0), sign("..", len(s)), number(n, len(s)+2))
		lexes(t, "-"+s, sign("-", 0), number(n, 1))
		lexes(t, "+"+s, sign("+", 0), number(n, 1))
	}
	for _, s := range []string{"00", "01", "09", "007", "010", "000", "00a", "01a", "00 1", "09223372036854775807", "09223372036854775808", "099999999999999999999", strings.Repeat("0", 40), strings.Repeat("0", 40) + "1", "0" + strings.Repeat("9", 5000), strings.Repeat("0", 16384)} {
		fails(t, s, 0, api.ErrToken)
		if len(s) < 10000 {
			fails(t, "0 "+s, 2, api.ErrToken)
		}
	}
	for _, s := range []string{"9223372036854775808", "9223372036854775809", "9223372036854775810", "9300000000000000000", "10000000000000000000", "18446744073709551615", "18446744073709551616", "18446744073709551617", "340282366920938463463374607431768211456", "340282366920938463463374607431768211457", "1" + strings.Repeat("0", 400), strings.Repeat("9", 16384)} {
		fails(t, s, 0, api.ErrOverflow)
		if len(s) < 1000 {
			fails(t, "-"+s+"a", 1, api.ErrOverflow)
			fails(t, "x "+s+"!", 2, api.ErrOverflow)
		}
	}
	lexes(t, "0a", number(0, 0), word("a", 1))
	lexes(t, "0x10", number(0, 0), word("x10", 1))
	lexes(t, "1e5", number(1, 0), word("e5", 1))
	lexes(t, "a1", word("a1", 0))
	lexes(t, "a 1", word("a", 0), number(1, 2))
	fails(t, "1_0", 1, api.ErrToken)
	fails(t, "1.5", 1, api.ErrToken)
	fails(t, "1\xd9\xa3", 1, api.ErrToken)
}

// P13.1: string literals, by their contents, and how many bytes these may have.
func TestLiterals(t *testing.T) {
	for s, text := range map[string]string{
		`""`: "", `"a"`: "a", `" "`: " ", `"  a "`: "  a ", `"A"`: "A", `"0"`: "0", `"null"`: "null", `"#"`: "#", `"a#b"`: "a#b", `"!"`: "!", `"."`: ".", `"'"`: "'", `"~"`: "~", `"_9"`: "_9", `"<="`: "<=",
		`"\""`: `"`, `"\\"`: `\`, `"\\\""`: `\"`, `"\"\\"`: `"\`, `"\\\\"`: `\\`, `"\"\""`: `""`, `"a\"b"`: `a"b`, `"a\\b"`: `a\b`, `"\\n"`: `\n`, `"a\\"`: `a\`, `"\"a"`: `"a`, `"\\\\\""`: `\\"`,
		`"` + strings.Repeat("a", 63) + `"`: strings.Repeat("a", 63), `"` + strings.Repeat("a", 64) + `"`: strings.Repeat("a", 64),
		`"` + strings.Repeat(`\"`, 32) + `"`: strings.Repeat(`"`, 32), `"` + strings.Repeat(`\"`, 64) + `"`: strings.Repeat(`"`, 64), `"` + strings.Repeat(`\\`, 64) + `"`: strings.Repeat(`\`, 64), `"` + strings.Repeat("b", 63) + `\\"`: strings.Repeat("b", 63) + `\`, `"` + strings.Repeat(`\"b`, 32) + `"`: strings.Repeat(`"b`, 32),
	} {
		lexes(t, s, literal(text, 0))
		lexes(t, "\n"+s+"\n", literal(text, 1))
		lexes(t, s+s, literal(text, 0), literal(text, len(s)))
		lexes(t, s+"a"+s, literal(text, 0), word("a", len(s)), literal(text, len(s)+1))
	}
	for _, s := range []string{
		// Above MaxText bytes.
		`"` + strings.Repeat("a", 65) + `"`, `"` + strings.Repeat(`\"`, 65) + `"`, `"` + strings.Repeat(`\\`, 65) + `"`, `"` + strings.Repeat("b", 64) + `\\"`, `"` + strings.Repeat("b", 64) + `\""`, `"` + strings.Repeat("a", 320) + `"`, `"` + strings.Repeat("a", 16382) + `"`,
		// A backslash ahead of another byte.
		`"\a"`, `"\n"`, `"\ "`, `"\0"`, `"\'"`, `"\/"`, `"a\b"`, `"\\\a"`, `"\"\a"`, `"\#"`, "\"\\\n\"", "\"\\\xff\"", `"\a`,
		// Not terminated.
		`"`, `"a`, `"\`, `"\"`, `"a\`, `"a\"`, `"\\\"`, `"\\`, `"a\\`, `"#`, `" `, `"a` + " b ", `"` + strings.Repeat("a", 64), `"` + strings.Repeat("a", 16383), `"` + strings.Repeat(`\"`, 8191),
		// Bytes that don't stand in one.
		"\"\n\"", "\"a\nb\"", "\"\t\"", "\"\r\"", "\"\x00\"", "\"\x1f\"", "\"\x7f\"", "\"\x80\"", "\"\xff\"", "\"\xc3\xa9\"", "\"a\n", "\"a\n\"", "\"a#\n\"",
	} {
		fails(t, s, 0, api.ErrToken)
		if len(s) < 1000 {
			fails(t, "a "+s, 2, api.ErrToken)
			fails(t, s+" a", 0, api.ErrToken)
		}
	}
	fails(t, `"a"b"`, 4, api.ErrToken)
	fails(t, `"""`, 2, api.ErrToken)
	fails(t, `"\\""`, 4, api.ErrToken)
	fails(t, `'a'`, 0, api.ErrToken)
	fails(t, "`a`", 0, api.ErrToken)
}

// P13.1: each byte within a literal, and each byte behind a backslash.
func TestLiteralBytes(t *testing.T) {
	for c := range 256 {
		for _, s := range []string{"\"" + char(c) + "\"", "\"ab" + char(c) + "c\"", "\"\\\\" + char(c) + "\""} {
			if c == '"' || c == '\\' {
				agrees(t, s)
				continue
			}
			if c < 32 || c > 126 {
				fails(t, s, 0, api.ErrToken)
				continue
			}
			lexes(t, s, literal(strings.ReplaceAll(s[1:len(s)-1], `\\`, `\`), 0))
		}
		s := "\"a\\" + char(c) + "b\""
		if c == '"' || c == '\\' {
			lexes(t, s, literal("a"+char(c)+"b", 0))
			continue
		}
		fails(t, s, 0, api.ErrToken)
	}
}

// P13.1: each sign, alone and beside tokens of other kinds.
func TestSigns(t *testing.T) {
	for _, s := range all() {
		n := len(s)
		lexes(t, s, sign(s, 0))
		lexes(t, " "+s+" ", sign(s, 1))
		lexes(t, "a"+s+"b", word("a", 0), sign(s, 1), word("b", n+1))
		lexes(t, "1"+s+"2", number(1, 0), sign(s, 1), number(2, n+1))
		lexes(t, `"c"`+s+`"d"`, literal("c", 0), sign(s, 3), literal("d", n+3))
		lexes(t, s+"#"+s, sign(s, 0))
	}
	for _, s := range []string{"!", ".", "&", "@", "$", "?", "[", "]", "{", "}", "^", "~", "'", "`", "\\", "_", "!a", "!!=", "!<", ".a", ".1", ".=", "!.", ".!", ". .", "! =", "!\n="} {
		fails(t, s, 0, api.ErrToken)
	}
	for s, at := range map[string]int{"...": 2, "a...": 3, "0...1": 3, "=!": 1, "<!": 1, "==!": 2, "!=!": 2, "..!": 2, "!=.": 2, ".. .": 3, ".....": 4, "1.": 1, "1. .2": 1} {
		fails(t, s, at, api.ErrToken)
	}
	lexes(t, "....", sign("..", 0), sign("..", 2))
	lexes(t, "==", sign("=", 0), sign("=", 1))
	lexes(t, "!==", sign("!=", 0), sign("=", 2))
	lexes(t, "<==", sign("<=", 0), sign("=", 2))
	lexes(t, "=<", sign("=", 0), sign("<", 1))
	lexes(t, "=>", sign("=", 0), sign(">", 1))
	lexes(t, "<>", sign("<", 0), sign(">", 1))
	lexes(t, "<<=", sign("<", 0), sign("<=", 1))
	lexes(t, "<=>=", sign("<=", 0), sign(">=", 2))
	lexes(t, "=!=", sign("=", 0), sign("!=", 1))
	lexes(t, "||", sign("|", 0), sign("|", 1))
	lexes(t, "--1", sign("-", 0), sign("-", 1), number(1, 2))
}

// P13.1: each pair of signs with nothing between; only < or > ahead of = is read in another way.
func TestSignPairs(t *testing.T) {
	for _, a := range all() {
		for _, b := range all() {
			if (a == "<" || a == ">") && b == "=" {
				lexes(t, a+b, sign(a+b, 0))
				continue
			}
			lexes(t, a+b, sign(a, 0), sign(b, len(a)))
			for _, c := range all() {
				agrees(t, a+b+c)
			}
		}
	}
}

// P13.1: texts of MaxSource bytes, and of one more, whatever else is wrong with them.
func TestSize(t *testing.T) {
	const most = api.MaxSource
	if most != 16384 {
		t.Fatalf("MaxSource is %d", most)
	}
	for _, part := range []string{" ", "\n", "#", "(", "a ", "1;", "..", "<=", `"a" `, "abc_123 ", "#x\n ", "ab\"cd\"1;"} {
		s := strings.Repeat(part, most/len(part))
		if len(s) != most {
			t.Fatalf("%q has %d bytes", part, len(s))
		}
		if agrees(t, s) != api.OK {
			t.Errorf("%q can't be read", part)
		}
		agrees(t, s[1:])
		fails(t, s+" ", 0, api.ErrMany)
		fails(t, " "+s, 0, api.ErrMany)
		fails(t, s+s, 0, api.ErrMany)
	}
	signs := make([]lex.Token, most)
	for i := range signs {
		signs[i] = sign(";", i)
	}
	lexes(t, strings.Repeat(";", most), signs...)
	lexes(t, strings.Repeat(" ", most-1)+"a", word("a", most-1))
	lexes(t, "a"+strings.Repeat("\n", most-1), word("a", 0))
	fails(t, strings.Repeat(" ", most-1)+"!", most-1, api.ErrToken)
	fails(t, strings.Repeat(" ", most)+"a", 0, api.ErrMany)
	for _, s := range []string{"!", "01", `"`, "A", "9223372036854775808", ".", "\x00"} {
		fails(t, s+strings.Repeat(" ", most+1-len(s)), 0, api.ErrMany)
		fails(t, strings.Repeat(" ", most+1-len(s))+s, 0, api.ErrMany)
		fails(t, s+strings.Repeat(" ", most-len(s)), 0, agrees(t, s))
	}
	fails(t, strings.Repeat("a", most+1), 0, api.ErrMany)
	fails(t, strings.Repeat("9", most+1), 0, api.ErrMany)
	fails(t, strings.Repeat(" ", 1<<24), 0, api.ErrMany)
	fails(t, strings.Repeat(" ", 1<<16), 0, api.ErrMany)
}

// P13.1: of several errors the first one counts, wherever its token stands behind right ones.
func TestFirstError(t *testing.T) {
	const above = "9223372036854775808"
	wrong := map[string]api.Errno{"!": api.ErrToken, ".": api.ErrToken, "A": api.ErrToken, "_": api.ErrToken, "01": api.ErrToken, above: api.ErrOverflow, "0" + above: api.ErrToken, "abcdefghijklmnopq": api.ErrToken, `"\a"`: api.ErrToken, "\"\x7f\"": api.ErrToken, "\x00": api.ErrToken, "\r": api.ErrToken}
	right := []string{"", "a", "a b", "abc 1 <= \"d\" ..", "# !\n", "\n\n;", `"!" `, "(a)"}
	for s, e := range wrong {
		for _, ahead := range right {
			fails(t, ahead+"\n"+s, len(ahead)+1, e)
			for other := range wrong {
				fails(t, ahead+" "+s+" "+other, len(ahead)+1, e)
				fails(t, ahead+"\n"+s+"\n"+other+" \"", len(ahead)+1, e)
			}
		}
	}
	fails(t, "1 "+above+" 01", 2, api.ErrOverflow)
	fails(t, "1 01 "+above, 2, api.ErrToken)
	fails(t, `a "b`+" 01", 2, api.ErrToken)
	fails(t, above+`"`, 0, api.ErrOverflow)
	fails(t, above+"A", 0, api.ErrOverflow)
}

// P13.1: all texts of one, two and three bytes of which each kind of token and what is between consists, and all pairs of bytes.
func TestShort(t *testing.T) {
	for a := range 256 {
		for b := range 256 {
			agrees(t, char(a)+char(b))
		}
	}
	const some = "az_019A \t\n#\"\\(=!<>.-;\x00\x7f\xff"
	for a := range len(some) {
		for b := range len(some) {
			for c := range len(some) {
				agrees(t, some[a:a+1]+some[b:b+1]+some[c:c+1])
				agrees(t, "\""+some[a:a+1]+some[b:b+1]+some[c:c+1]+"\"")
			}
		}
	}
}

// someText returns a text that is put together of pieces, few of which are wrong.
func someText(r *rand.Rand) string {
	right := append(all(), "a", "source", "x_1", "abcdefghijklmnop", "0", "1", "10", "9223372036854775807", `"a"`, `""`, `"\""`, `"\\#"`, "#\n", "# x\n", "#\"\n")
	wrong := []string{"abcdefghijklmnopq", "9223372036854775808", "01", `"\\`, `"`, `\`, "#", "!", ".", "A", "_", "\r", "\xff", "\x00"}
	gaps := []string{"", " ", " ", "  ", "\t", "\n"}
	oneOf := func(l []string) string { return l[r.Intn(len(l))] }
	var b strings.Builder
	for range r.Intn(30) {
		if r.Intn(20) == 0 {
			b.WriteString(oneOf(wrong))
		} else {
			b.WriteString(oneOf(right))
		}
		b.WriteString(oneOf(gaps))
	}
	return b.String()
}

// P13.1: texts that are put together of pieces, and such as one byte differs in.
func TestModel(t *testing.T) {
	r := rand.New(rand.NewSource(131))
	seen := map[api.Errno]int{}
	for range 40000 {
		s := someText(r)
		seen[agrees(t, s)]++
		if len(s) == 0 {
			continue
		}
		at := r.Intn(len(s))
		agrees(t, s[:at]+s[at+1:])
		agrees(t, s[:at]+char(r.Intn(256))+s[at:])
		agrees(t, s[:at])
	}
	if seen[api.OK] < 1000 || seen[api.ErrToken] < 1000 || seen[api.ErrOverflow] < 100 {
		t.Errorf("these errors came up: %v", seen)
	}
}

// P13.1: tokens begin where they are said to, in their order, and there is nothing but blanks and comments between them.
func TestAt(t *testing.T) {
	r := rand.New(rand.NewSource(132))
	for range 20000 {
		s := someText(r)
		l, _, e := lex.Lex(s)
		if e != api.OK {
			continue
		}
		end := 0
		for _, k := range l {
			if k.At < end || !strings.HasPrefix(s[k.At:], k.Show()) || betweenForm.FindString(s[end:k.At]) != s[end:k.At] {
				t.Fatalf("Lex(%q): %v", s, k)
			}
			end = k.At + len(k.Show())
		}
		if betweenForm.FindString(s[end:]) != s[end:] {
			t.Fatalf("Lex(%q) ends at %d", s, end)
		}
	}
}

// within reports whether a string is a piece of another one's memory.
func within(piece, whole string) bool {
	if len(piece) == 0 || len(whole) == 0 {
		return false
	}
	at := uintptr(unsafe.Pointer(unsafe.StringData(piece)))
	from := uintptr(unsafe.Pointer(unsafe.StringData(whole)))
	return at >= from && at < from+uintptr(len(whole))
}

// P13.1: the text is not modified and no part of what Lex returns, whose results are new memory, spare capacity included.
func TestMemory(t *testing.T) {
	s := string([]byte(`abc <= "d\"e" "f" 10 (x_1) # y`))
	held := strings.Clone(s)
	want, _, _ := tokens(held)
	l, _, _ := lex.Lex(s)
	other, _, _ := lex.Lex(s)
	for _, k := range l {
		if within(k.Text, s) {
			t.Errorf("%v is a piece of the text", k)
		}
	}
	full := l[:cap(l)]
	for i := range full {
		full[i] = lex.Token{Kind: 9, Text: "z", Int: 9, At: 9}
	}
	if !slices.Equal(other, want) {
		t.Errorf("%v instead of %v", other, want)
	}
	if s != held {
		t.Errorf("the text is %q", s)
	}
	lexes(t, s, want...)
}
