package formula_test

import (
	"fmt"
	"math/rand/v2"
	"slices"
	"strings"
	"testing"

	"robuststats/api"
)

// The chapter's examples.
func TestExamples(t *testing.T) {
	writes(t, "y ~ a * b - a:b", "y", op(api.FMinus), op(api.FStar), v("a"), v("b"), op(api.FColon), v("a"), v("b"))
	reads(t, "y ~ a*b - a:b", "y", op(api.FMinus), op(api.FStar), v("a"), v("b"), op(api.FColon), v("a"), v("b"))
	writes(t, "y ~ (a + b)^2", "y", hat(2), op(api.FPlus), v("a"), v("b"))
	stops(t, "y ~ a + ", 8, api.ErrSyntax)
	stops(t, "y ~ a^7", 6, api.ErrRange)
	stops(t, "y ~ power(x, 1)", 13, api.ErrRange)
}

// P9.1: each kind of expression.
func TestParse(t *testing.T) {
	a, b, c := v("a"), v("b"), v("c")
	reads(t, "y~a", "y", a)
	reads(t, "y ~ y", "y", v("y"))
	reads(t, "Y.1_ ~ 0", "Y.1_", op(api.FZero))
	reads(t, "y ~ 1", "y", op(api.FOne))
	reads(t, "y ~ power(x, 3)", "y", power("x", 3))
	reads(t, "y ~ power2 + powerx", "y", op(api.FPlus), v("power2"), v("powerx"))
	reads(t, "y ~ a + b", "y", op(api.FPlus), a, b)
	reads(t, "y ~ a - 1", "y", op(api.FMinus), a, op(api.FOne))
	reads(t, "y ~ 0*1", "y", op(api.FStar), op(api.FZero), op(api.FOne))
	reads(t, "y ~ a/b", "y", op(api.FSlash), a, b)
	reads(t, "y ~ a:power(b, 2)", "y", op(api.FColon), a, power("b", 2))
	reads(t, "y ~ a^6", "y", hat(6), a)
	reads(t, "y ~ power(x, 2)^3", "y", hat(3), power("x", 2))
	reads(t, "y ~ a^2^1^4", "y", hat(4), hat(1), hat(2), a)
	reads(t, "y ~ (a)", "y", a)
	reads(t, "y ~ (((a)))^2:((b))", "y", op(api.FColon), hat(2), a, b)
	reads(t, "y ~ (a + b)*c", "y", op(api.FStar), op(api.FPlus), a, b, c)
	reads(t, "y ~ a + b*c:a^2", "y", op(api.FPlus), a, op(api.FStar), b, op(api.FColon), c, hat(2), a)
	reads(t, "y ~ a^2:b*c + a", "y", op(api.FPlus), op(api.FStar), op(api.FColon), hat(2), a, b, c, a)
	reads(t, "y ~ (a - (b/(c:(a^2))))^3 - 0", "y", op(api.FMinus), hat(3), op(api.FMinus), a, op(api.FSlash), b, op(api.FColon), c, hat(2), a, op(api.FZero))
}

// The grammar: which of two or three signs is read first, with and without brackets.
func TestGrouping(t *testing.T) {
	a, b, c := v("a"), v("b"), v("c")
	for _, s := range []byte(signs) {
		for _, u := range []byte(signs) {
			first, second := op(ops[s]), op(ops[u])
			left, right := []api.Node{second, first, a, b, c}, []api.Node{first, a, second, b, c}
			want := left
			if ranks[second.Op] > ranks[first.Op] {
				want = right
			}
			reads(t, fmt.Sprintf("y ~ a %c b %c c", s, u), "y", want...)
			reads(t, fmt.Sprintf("y ~ (a %c b) %c c", s, u), "y", left...)
			reads(t, fmt.Sprintf("y ~ a %c (b %c c)", s, u), "y", right...)
			reads(t, fmt.Sprintf("y ~ (a %c b %c c)", s, u), "y", want...)
		}
		reads(t, fmt.Sprintf("y ~ a %c b^2", s), "y", op(ops[s]), a, hat(2), b)
		reads(t, fmt.Sprintf("y ~ a^2 %c b", s), "y", op(ops[s]), hat(2), a, b)
		reads(t, fmt.Sprintf("y ~ (a %c b)^2", s), "y", hat(2), op(ops[s]), a, b)
		reads(t, fmt.Sprintf("y ~ a %c (b^2)", s), "y", op(ops[s]), a, hat(2), b)
		for _, u := range []byte(signs) {
			for _, w := range []byte(signs) {
				agrees(t, fmt.Sprintf("y ~ a %c b %c c %c d", s, u, w))
				agrees(t, fmt.Sprintf("y ~ a %c (b %c c) %c d^2", s, u, w))
			}
		}
	}
}

// The grammar: spaces before and behind words and signs, but not in words, and no other bytes.
func TestSpaces(t *testing.T) {
	want := []api.Node{op(api.FMinus), op(api.FStar), hat(2), op(api.FPlus), v("a1"), op(api.FOne), power("b", 3), op(api.FZero)}
	list := []string{"y", "~", "(", "a1", "+", "1", ")", "^", "2", "*", "power", "(", "b", ",", "3", ")", "-", "0"}
	for _, space := range []string{"", " ", "  ", strings.Repeat(" ", 2000)} {
		reads(t, strings.Join(list, space), "y", want...)
		reads(t, space+strings.Join(list, space)+space, "y", want...)
		for i := range list {
			reads(t, strings.Join(list[:i], "")+space+strings.Join(list[i:], ""), "y", want...)
		}
	}
	for _, other := range []string{"\t", "\n", "\r", "\v", "\f", "\x00", "\u00a0", "\u2003", "\x85", "\ufeff"} {
		for i := range len(list) + 1 {
			front := strings.Join(list[:i], " ")
			stops(t, front+other+strings.Join(list[i:], " "), len(front), api.ErrSyntax)
		}
	}
	stops(t, "y ~ a 1", 6, api.ErrSyntax)
	stops(t, "y ~ pow er(b, 3)", 8, api.ErrSyntax)
	stops(t, "y ~ power(b, 3 3)", 15, api.ErrSyntax)
	stops(t, "y ~ 1 0", 6, api.ErrSyntax)
}

// P9.1: words are read as long as possible; those that are neither names nor power, and numbers of more than one digit, are wrong as a whole.
func TestWords(t *testing.T) {
	longest := strings.Repeat("w", api.MaxName)
	reads(t, longest+" ~ "+longest, longest, v(longest))
	reads(t, "y ~ power("+longest+", 8)", "y", power(longest, 8))
	reads(t, "y ~ a.b_1:Z..9_", "y", op(api.FColon), v("a.b_1"), v("Z..9_"))
	reads(t, "power. ~ power_:Power:powe", "power.", op(api.FColon), op(api.FColon), v("power_"), v("Power"), v("powe"))
	for text, place := range map[string]int{
		longest + "w ~ a": 0, "y ~ " + longest + "w": 4, "y ~ a:" + longest + ".": 6, "y ~ power(" + longest + "_, 8)": 10, "y ~ a " + longest + "w": 6, longest + "1": 0, "y ~ " + strings.Repeat("power", 10): 4,
		"power ~ a": 0, "y ~ power": 9, "y ~ power + a": 10, "y ~ power2(x, 2)": 10, "y ~ power.(x, 2)": 10, "y ~ Power(x, 2)": 9, "y ~ xpower(x, 2)": 10, "y ~ power(power, 2)": 10, "y ~ power(power(x, 2), 2)": 10, "y ~ power(power2, 2": 19,
		"1y ~ a": 0, "y ~ 1a": 5, "y ~ 01": 4, "y ~ 11": 4, "y ~ 00 + a": 4, "y ~ 1.0": 5, "y ~ 1_": 5, "y ~ .a": 4, "y ~ _a": 4, "y ~ a^02": 6, "y ~ a^22": 6, "y ~ a^77 )": 6, "y ~ a^2.5": 7, "y ~ a^2b": 7, "y ~ power(x, 02)": 13, "y ~ power(x, 2a)": 14, "y ~ power(x, 11)": 13, "y ~ " + strings.Repeat("1", 60000): 4,
	} {
		stops(t, text, place, api.ErrSyntax)
	}
}

// P9.1: each byte, in the places where something else could stand.
func TestBytes(t *testing.T) {
	for i := range 256 {
		c := string([]byte{byte(i)})
		for _, text := range []string{c, "y" + c, "y ~" + c, "y ~ a" + c, "y ~ a " + c, "y ~ a" + c + "b", "y ~ " + c + "a", "y ~ (" + c + ")", "y ~ a^" + c, "y ~ a^2" + c, "y ~ power" + c, "y ~ power(" + c, "y ~ power(x" + c, "y ~ power(x," + c + ")", "y ~ power(x, 2" + c, c + "y ~ a", "y" + c + "~ a", "y ~ a:" + c} {
			agrees(t, text)
		}
	}
}

// P9.1: digits as exponents, and in other places.
func TestExponents(t *testing.T) {
	for k := range 10 {
		for _, x := range []struct {
			front, back string
			least, most int
			want        []api.Node
		}{
			{"y ~ a^", "", 1, 6, []api.Node{hat(k), v("a")}}, {"y ~ (a:b)^", ")", 1, 6, nil}, {"y ~ a^", "^9", 1, 6, nil}, {"y ~ a^6 ^ ", " + b^1", 1, 6, []api.Node{op(api.FPlus), hat(k), hat(6), v("a"), hat(1), v("b")}},
			{"y ~ power(a, ", ")", 2, 8, []api.Node{power("a", k)}}, {"y ~ power(a,", " b", 2, 8, nil}, {"y ~ power(a, ", "", 2, 8, nil},
		} {
			text, place := fmt.Sprint(x.front, k, x.back), len(x.front)
			switch {
			case k < x.least || k > x.most:
				stops(t, text, place, api.ErrRange)
			case x.want != nil:
				reads(t, text, "y", x.want...)
			default:
				agrees(t, text)
			}
		}
		if k > 1 {
			for _, front := range []string{"y ~ ", "y ~ a + ", "y ~ (", "y ~ 1:"} {
				stops(t, fmt.Sprint(front, k), len(front), api.ErrSyntax)
			}
		}
		stops(t, fmt.Sprint("y ~ a ", k), 6, api.ErrSyntax)
		stops(t, fmt.Sprint(k, " ~ a"), 0, api.ErrSyntax)
		stops(t, fmt.Sprintf("y ~ power(%d, 2)", k), 10, api.ErrSyntax)
	}
}

// P9.1: the first wrong word or sign counts, whatever follows.
func TestFirstError(t *testing.T) {
	for _, x := range []struct {
		text string
		at   int
		want api.Errno
	}{
		{"", 0, api.ErrSyntax}, {"  ", 2, api.ErrSyntax}, {"y", 1, api.ErrSyntax}, {"y ", 2, api.ErrSyntax}, {"y~", 2, api.ErrSyntax}, {"y ~  ", 5, api.ErrSyntax}, {"~", 0, api.ErrSyntax}, {" (y) ~ a", 1, api.ErrSyntax}, {"y + z ~ a", 2, api.ErrSyntax}, {"y ~ a ~ b", 6, api.ErrSyntax}, {"y ~ ~ a", 4, api.ErrSyntax}, {"y ~ -a", 4, api.ErrSyntax}, {"y ~ a + - b", 8, api.ErrSyntax}, {"y ~ a ** b", 7, api.ErrSyntax},
		{"y ~ (a", 6, api.ErrSyntax}, {"y ~ ((a) ", 9, api.ErrSyntax}, {"y ~ a)", 5, api.ErrSyntax}, {"y ~ (a))", 7, api.ErrSyntax}, {"y ~ (a))(", 7, api.ErrSyntax}, {"y ~ ()", 5, api.ErrSyntax}, {"y ~ (a +)", 8, api.ErrSyntax}, {"y ~ a(b)", 5, api.ErrSyntax}, {"y ~ (a)(b)", 7, api.ErrSyntax}, {"y ~ (a) b", 8, api.ErrSyntax}, {"y ~ a, b", 5, api.ErrSyntax}, {"y ~ (a, 2)", 6, api.ErrSyntax}, {"y ~ (a ~ b)", 7, api.ErrSyntax},
		{"y ~ a^", 6, api.ErrSyntax}, {"y ~ a^(2)", 6, api.ErrSyntax}, {"y ~ a^-2", 6, api.ErrSyntax}, {"y ~ ^2", 4, api.ErrSyntax}, {"y ~ a + ^2", 8, api.ErrSyntax}, {"y ~ 2^2", 4, api.ErrSyntax}, {"y ~ power(a + b, 2)", 12, api.ErrSyntax}, {"y ~ power((a), 2)", 10, api.ErrSyntax}, {"y ~ power(1, 2)", 10, api.ErrSyntax}, {"y ~ power(a)", 11, api.ErrSyntax}, {"y ~ power(a, )", 13, api.ErrSyntax}, {"y ~ power(a, 2, 3)", 14, api.ErrSyntax}, {"y ~ power(a; 2)", 11, api.ErrSyntax}, {"y ~ power(a, -2)", 13, api.ErrSyntax}, {"y ~ power a", 10, api.ErrSyntax}, {"y ~ power^2", 9, api.ErrSyntax},
		{"y ~ a^7 )", 6, api.ErrRange}, {"y ~ a^0 + 22", 6, api.ErrRange}, {"y ~ ((a^9", 8, api.ErrRange}, {"y ~ a ) ^7", 6, api.ErrSyntax}, {"y ~ 22 + a^7", 4, api.ErrSyntax}, {"y ~ a^7 + power(a, 1)", 6, api.ErrRange}, {"y ~ power(a, 1) + a^7", 13, api.ErrRange}, {"y ~ power(a, 9", 13, api.ErrRange}, {"y ~ a + a^8!", 10, api.ErrRange}, {"y ~ a! + a^8", 5, api.ErrSyntax},
	} {
		stops(t, x.text, x.at, x.want)
		if at, e := expected(x.text); at != x.at || e != x.want {
			t.Errorf("%q: the grammar of the tests says place %d, error %d", x.text, at, e)
		}
	}
}

// P9.1: all short lists of words, compared with the grammar.
func TestAllShortTexts(t *testing.T) {
	if read := extend(t, []string{"a", "power", "0", "1", "2", "7", "11", "~", "+", ":", "^", "(", ")", ",", "!"}, "", 9); read < 1000 {
		t.Errorf("only %d formulas", read)
	}
}

// extend compares the results for a text and for all longer ones that begin a formula, and returns the number of formulas.
func extend(t *testing.T, alphabet []string, text string, longest int) int {
	t.Helper()
	at, e := agrees(t, text)
	read := 0
	if e == api.OK {
		read = 1
	}
	if longest == 0 || e != api.OK && at < len(text) {
		return read
	}
	for _, word := range alphabet {
		read += extend(t, alphabet, text+" "+word, longest-1)
	}
	return read
}

// P9.1: longer texts, made at random of words and signs, with and without spaces in between.
func TestDrawnTexts(t *testing.T) {
	random := rand.New(rand.NewPCG(9, 1))
	operands := []string{"a", "b1", "0", "1", "power(x, 2)", "(a - 1)", "((c/a))^2", "power"}
	between := []string{"+", "-", "*", "/", ":", "^2:", "^6 + (", ") - ", "^7 *", ")", ""}
	read := 0
	for range 3000 {
		text := "y ~"
		for range 1 + random.IntN(5) {
			text += " " + operands[random.IntN(len(operands))] + strings.Repeat(" ", random.IntN(2)) + between[random.IntN(len(between))]
		}
		if random.IntN(2) == 0 {
			text += "a"
		}
		if _, e := agrees(t, text); e == api.OK {
			read++
		}
	}
	if read < 100 || read > 2900 {
		t.Errorf("%d of 3000 texts are formulas", read)
	}
}

// P9.1: formulas that are drawn, and written with more brackets and spaces than they need.
func TestDrawnFormulas(t *testing.T) {
	random := rand.New(rand.NewPCG(9, 2))
	for range 2000 {
		want := drawnNodes(random, random.IntN(14))
		text, _ := drawnText(random, want)
		response := drawnName(random)
		reads(t, response+"~"+text, response, want...)
		reads(t, " "+response+"  ~ ("+text+") ", response, want...)
	}
}

// P9.1: MaxText bytes are read, and one more is an error ahead of all that the text contains.
func TestTextLimit(t *testing.T) {
	fill := func(text string, n int) string { return text + strings.Repeat(" ", n-len(text)) }
	reads(t, fill("y ~ a:b", api.MaxText), "y", op(api.FColon), v("a"), v("b"))
	reads(t, strings.Repeat(" ", api.MaxText-3)+"y~a", "y", v("a"))
	stops(t, fill("", api.MaxText), api.MaxText, api.ErrSyntax)
	stops(t, fill("y ~ a^7", api.MaxText), 6, api.ErrRange)
	stops(t, fill("y ~ a +", api.MaxText), api.MaxText, api.ErrSyntax)
	stops(t, "y ~ a"+strings.Repeat("^1", 32765)+"^", api.MaxText, api.ErrSyntax)
	for _, text := range []string{"y ~ a:b", "", "y ~ a^7", "y ~ a )", "!", "y ~ a" + strings.Repeat("+a", 70)} {
		stops(t, fill(text, api.MaxText+1), 0, api.ErrLimit)
		stops(t, fill(text, 3*api.MaxText), 0, api.ErrLimit)
	}
	stops(t, strings.Repeat("y", api.MaxText), 0, api.ErrSyntax)
	stops(t, strings.Repeat("y", api.MaxText+1), 0, api.ErrLimit)
}

// P9.1: 64 nodes are read; more are an error, but only behind all others.
func TestNodeLimit(t *testing.T) {
	sums := func(n int) string { return "y ~ a" + strings.Repeat(" + a", n) }
	want := slices.Concat(slices.Repeat([]api.Node{op(api.FPlus)}, 31), slices.Repeat([]api.Node{v("a")}, 32))
	reads(t, sums(31), "y", want...)
	reads(t, sums(31)+"^1", "y", slices.Concat(want[:62], []api.Node{hat(1), v("a")})...)
	reads(t, "y ~ ("+sums(31)[4:]+")^2", "y", append([]api.Node{hat(2)}, want...)...)
	reads(t, "y ~ power(a, 2)"+strings.Repeat("^1", 63), "y", append(slices.Repeat([]api.Node{hat(1)}, 63), power("a", 2))...)
	reads(t, "y ~ "+strings.Repeat("a:(", 31)+"b"+strings.Repeat(")", 31), "y", append(slices.Concat(slices.Repeat([]api.Node{op(api.FColon), v("a")}, 31)), v("b"))...)
	for _, text := range []string{sums(32), "y ~ (" + sums(31)[4:] + ")^2^2", "y ~ a" + strings.Repeat("^1", 64), "y ~ " + strings.Repeat("1:(", 32) + "b" + strings.Repeat(")", 32), sums(31) + "^1^1", "y ~ a" + strings.Repeat("/a", 32765), "y ~ a" + strings.Repeat("^1", 32765)} {
		stops(t, text, 0, api.ErrLimit)
		stops(t, text[:5*len(text)/6]+"$", 5*len(text)/6, api.ErrSyntax)
	}
	for _, text := range []string{sums(32), sums(40), "y ~ (" + sums(10000)[4:] + ")^2"} {
		stops(t, text+" + ", len(text)+3, api.ErrSyntax)
		stops(t, text+")", len(text), api.ErrSyntax)
		stops(t, text+"^7", len(text)+1, api.ErrRange)
		stops(t, text+":power(b, 1) !", len(text)+10, api.ErrRange)
	}
}

// R1: brackets may be nested as deep as the text is long.
func TestNesting(t *testing.T) {
	open, shut := strings.Repeat("(", 32766), strings.Repeat(")", 32766)
	reads(t, "y~"+open+"a"+shut, "y", v("a"))
	stops(t, "y~"+open+"a"+shut[1:], 65534, api.ErrSyntax)
	stops(t, "y~"+open+"a"+shut+")", 65535, api.ErrSyntax)
	stops(t, "y~"+open+"a"+shut[2:]+"^7", 65534, api.ErrRange)
	stops(t, "y~"+open+open, 65534, api.ErrSyntax)
	stops(t, "y~a"+shut, 3, api.ErrSyntax)
	deep := strings.Repeat("a+(", 10000)
	stops(t, "y~"+deep+"a"+shut[:10000], 0, api.ErrLimit)
	stops(t, "y~"+deep+"a"+shut[:10001], 40003, api.ErrSyntax)
	stops(t, "y~"+strings.Repeat("(", 20000)+"a"+strings.Repeat(")^1", 15000)+"!", 65003, api.ErrSyntax)
	stops(t, "y~"+strings.Repeat("(", 16000)+"a"+strings.Repeat(")^1", 16000), 0, api.ErrLimit)
}
