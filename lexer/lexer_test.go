package lexer_test

import (
	"regexp"
	"slices"
	"strconv"
	"strings"
	"testing"

	"selfstab/api"
	"selfstab/lexer"
)

// signs are the signs of P4.1, in its order.
var signs = strings.Fields("; : , ( ) . .. -> := ? && || == != < <= > >= + - * / % !")

// reserved are the words of P4.2, in its order.
var reserved = strings.Fields("program var rule bool port true false none n ids id deg root q weight back all some count first min max sum mex second head")

// ordinary is a program with tokens of all kinds, in the layout of programs.
const ordinary = `program bfs; # a tree
var d : 0 .. n;
var p : port;
rule top: root && (d != 0 || p != none) -> d := 0, p := none;
rule low: !root && d != (min(q.d) < n ? min(q.d) + 1 : n) -> d := min(q.d) < n ? min(q.d) + 1 : n;
rule x_1: a*b/c%2 - 10 >= 255 || a <= 0 == true -> A2 := first(q.p==q.back)>1073741824;
# the end`

// long returns a word of n bytes.
func long(n int) string { return strings.Repeat("aZ_9", n/4+1)[:n] }

// token returns the token that a word, number or sign at a place is.
func token(word string, at int) api.Token {
	t := api.Token{Kind: api.TokenSign, At: at, End: at + len(word)}
	switch b := word[0]; {
	case b >= 'a' && b <= 'z' || b >= 'A' && b <= 'Z':
		t.Kind = api.TokenName
	case b >= '0' && b <= '9':
		t.Kind = api.TokenNumber
		t.Num, _ = strconv.Atoi(word)
	}
	return t
}

// wantTokens checks that the text has these tokens, and the consequences.
func wantTokens(t *testing.T, text string, tokens ...api.Token) {
	t.Helper()
	got, at, e := lexer.Scan(text)
	if !slices.Equal(got, tokens) || at != 0 || e != api.OK {
		t.Errorf("%.60q: %.20v, %d, %d instead of %.20v", text, got, at, e, tokens)
		return
	}
	checkConsequences(t, text, got)
}

// gap is the form of what stands between tokens.
var gap = regexp.MustCompile(`^(?:[ \t\n\r]|#[^\n]*)*`)

// checkConsequences checks that between the tokens there are gaps alone, and that each token by itself is the same one.
func checkConsequences(t *testing.T, text string, tokens []api.Token) {
	t.Helper()
	from := 0
	for _, x := range append(tokens[:len(tokens):len(tokens)], api.Token{At: len(text), End: len(text)}) {
		if x.At < from || x.End < x.At || x.End > len(text) || gap.FindString(text[from:x.At]) != text[from:x.At] {
			t.Errorf("%.60q: the bytes from %d to %d are no gap ahead of %v", text, from, x.At, x)
			return
		}
		from = x.End
	}
	for _, x := range tokens {
		moved := api.Token{Kind: x.Kind, At: 0, End: x.End - x.At, Num: x.Num}
		if alone, at, e := lexer.Scan(text[x.At:x.End]); len(alone) != 1 || alone[0] != moved || at != 0 || e != api.OK {
			t.Errorf("%.60q: %v by itself: %v, %d, %d", text, x, alone, at, e)
		}
	}
}

// wantWords checks that the tokens of a text are these words, numbers and signs, each at the first place behind the one before it.
func wantWords(t *testing.T, text string, words ...string) {
	t.Helper()
	var tokens []api.Token
	from := 0
	for _, word := range words {
		x := token(word, from+strings.Index(text[from:], word))
		tokens, from = append(tokens, x), x.End
	}
	wantTokens(t, text, tokens...)
}

// wantError checks that the text leads to this error at this place, and to no tokens (R5).
func wantError(t *testing.T, text string, at int, e api.Errno) {
	t.Helper()
	tokens, gotAt, gotE := lexer.Scan(text)
	if len(tokens) != 0 || gotAt != at || gotE != e {
		t.Errorf("%.60q: %d tokens, %d, %d instead of place %d, error %d", text, len(tokens), gotAt, gotE, at, e)
	}
}

// P4.1, P4.3: the examples of the chapter, written out.
func TestExamples(t *testing.T) {
	wantTokens(t, "d:=q.d+1", []api.Token{
		{Kind: 1, At: 0, End: 1}, {Kind: 3, At: 1, End: 3}, {Kind: 1, At: 3, End: 4}, {Kind: 3, At: 4, End: 5},
		{Kind: 1, At: 5, End: 6}, {Kind: 3, At: 6, End: 7}, {Kind: 2, At: 7, End: 8, Num: 1},
	}...)
	wantTokens(t, "0..n", []api.Token{{Kind: 2, At: 0, End: 1}, {Kind: 3, At: 1, End: 3}, {Kind: 1, At: 3, End: 4}}...)
	wantError(t, "a = 1", 2, api.ErrSyntax)
	wantError(t, "x & y", 2, api.ErrSyntax)
	wantError(t, "007", 0, api.ErrRange)
}

// P4.1, P4.3: a program.
func TestProgram(t *testing.T) {
	tokens, at, e := lexer.Scan(ordinary)
	if len(tokens) != 126 || at != 0 || e != api.OK {
		t.Errorf("%d tokens, %d, %d", len(tokens), at, e)
	}
	wantTokens(t, ordinary, model(ordinary).tokens...)
	wantWords(t, "rule x_1: !a -> A2 := 255*b%10;", "rule", "x_1", ":", "!", "a", "->", "A2", ":=", "255", "*", "b", "%", "10", ";")
	wantWords(t, "\tvar b:0..2*ids-1 ;# 3\r\n", "var", "b", ":", "0", "..", "2", "*", "ids", "-", "1", ";")
	wantWords(t, "all(q.b||!root)&&d<=(n>2?10:0)", "all", "(", "q", ".", "b", "||", "!", "root", ")", "&&", "d", "<=", "(", "n", ">", "2", "?", "10", ":", "0", ")")
}

// P4.1: gaps that end outside of a comment, and comments that only the end of the text ends.
func TestGaps(t *testing.T) {
	closed := []string{
		"", " ", "\t", "\n", "\r", "\r\n", "\n\n", " \t\r\n \t", "#\n", "##\n", "#\n#\n", "# x := 1\n", "#x\n ", " #x\n\t#y\n\r", "# a\r b\n", "# a\r\n", "#\r\n",
		"# = & _ 007 \x00\v\xff\n", "#é\n", "# " + long(99) + "\n", "#" + strings.Repeat("9", 99) + "\n", "# \u2028 \u0085 \x85 \v \f\n", "# a # b\n",
	}
	open := []string{"#", "##", "# ", "#x", "# x := 1", " \n#x", "#a\n#b", "# a\r b", "#\r", "# a\r\n # b", "# = & _ 007 \x00\v\xff", "#é", "#\u2028", "#\u0085", "#\x85", "#\v", "#\f", "#\\n"}
	for _, gap := range closed {
		wantTokens(t, gap)
		wantTokens(t, gap+"1", api.Token{Kind: api.TokenNumber, At: len(gap), End: len(gap) + 1, Num: 1})
		wantTokens(t, "("+gap+"x"+gap, token("(", 0), token("x", 1+len(gap)))
		wantError(t, gap+"=", len(gap), api.ErrSyntax)
		for _, last := range open {
			wantTokens(t, gap+last+"x = 007")
			wantTokens(t, "x"+gap+last+"y", token("x", 0))
			wantTokens(t, gap+last+"x\ny", token("y", len(gap)+len(last)+2))
		}
	}
}

// P4.1: without a gap words and numbers are one, and with one they are two.
func TestGapsPart(t *testing.T) {
	for _, gap := range []string{" ", "\t", "\n", "\r", "#\n", "# c\n", "  "} {
		wantTokens(t, "a"+gap+"b", token("a", 0), token("b", 1+len(gap)))
		wantTokens(t, "a"+gap+"1", token("a", 0), token("1", 1+len(gap)))
		wantTokens(t, "1"+gap+"2", token("1", 0), token("2", 1+len(gap)))
		wantTokens(t, "0"+gap+"0", token("0", 0), token("0", 1+len(gap)))
		wantTokens(t, "-"+gap+">", token("-", 0), token(">", 1+len(gap)))
		wantTokens(t, "."+gap+".", token(".", 0), token(".", 1+len(gap)))
		wantError(t, ":"+gap+"=", 1+len(gap), api.ErrSyntax)
		wantError(t, "&"+gap+"&", 0, api.ErrSyntax)
	}
	wantWords(t, "ab", "ab")
	wantWords(t, "a1", "a1")
	wantWords(t, "12", "12")
	wantTokens(t, "a#b\nc", token("a", 0), token("c", 4))
	wantTokens(t, "1#2\n3", token("1", 0), token("3", 4))
	wantTokens(t, "-#\n>", token("-", 0), token(">", 3))
}

// P4.1, P4.3: bytes that begin no token, some of which look like blanks or letters elsewhere.
func TestNoToken(t *testing.T) {
	for _, bad := range []string{
		"\v", "\f", "\x00", "\x01", "\b", "\x1b", "\x1c", "\x1f", "\x7f", "\x80", "\x85", "\xa0", "\xb2", "\xc0", "\xe9", "\xfe", "\xff", "\u0085", "\u00a0", "\u2003", "\u2028", "\u2029", "\u3000", "\ufeff", "\ufffd",
		"=", "&", "|", "_", "$", "@", "[", "]", "{", "}", "^", "~", "`", "'", "\"", "\\", "é", "\u017f", "\u212a", "ª", "²", "٣", "３", "Ａ", "→", "≤", "_a", "_1", "__", "_ ",
	} {
		wantError(t, bad, 0, api.ErrSyntax)
		wantError(t, "  "+bad, 2, api.ErrSyntax)
		wantError(t, "x "+bad+" y", 2, api.ErrSyntax)
		wantError(t, "(\n# c\n"+bad, 6, api.ErrSyntax)
		wantError(t, "x:=12;"+bad+"x", 6, api.ErrSyntax)
		wantTokens(t, "#"+bad)
	}
	for b := 128; b < 256; b++ {
		text := string([]byte{'a', byte(b)})
		wantError(t, text, 1, api.ErrSyntax)
		wantError(t, text[1:], 0, api.ErrSyntax)
		wantError(t, text[1:]+"a", 0, api.ErrSyntax)
		wantTokens(t, "#"+text+"\na", token("a", 4))
	}
}

// P4.1, P4.3: words, and their greatest length.
func TestWords(t *testing.T) {
	for _, word := range []string{
		"a", "z", "A", "Z", "ab", "aZ", "Za", "a_", "a__", "a_b", "A_", "a0", "a9", "Z9", "a1b2", "x_1_", "b007", "e9", "Program", "RULE", "nn", "N", "Q", "qq", "program1", "n_",
		long(2), long(api.MaxName - 1), long(api.MaxName), strings.Repeat("n", api.MaxName), "z" + strings.Repeat("_", api.MaxName-1), "z" + strings.Repeat("0", api.MaxName-1),
	} {
		wantTokens(t, word, api.Token{Kind: api.TokenName, At: 0, End: len(word)})
		wantTokens(t, "(:="+word+")", token("(", 0), token(":=", 1), token(word, 3), token(")", 3+len(word)))
		wantTokens(t, "\n"+word+"#\n", token(word, 1))
	}
	for _, word := range reserved {
		wantTokens(t, " "+word+" ", api.Token{Kind: api.TokenName, At: 1, End: 1 + len(word)})
	}
	for _, n := range []int{api.MaxName + 1, api.MaxName + 2, 2 * api.MaxName, 255, 256, 257, 1 << 13} {
		wantError(t, long(n), 0, api.ErrName)
		wantError(t, "x + "+long(n)+" 1", 4, api.ErrName)
		wantError(t, "#\n"+strings.Repeat("n", n), 2, api.ErrName)
		wantError(t, "x"+strings.Repeat("_", n), 0, api.ErrName)
		wantError(t, "x"+strings.Repeat("0", n), 0, api.ErrName)
		wantError(t, long(n)+"\xff", 0, api.ErrName)
	}
	wantWords(t, long(api.MaxName)+" "+long(api.MaxName), long(api.MaxName), long(api.MaxName))
	wantError(t, long(api.MaxName)+"\xff", api.MaxName, api.ErrSyntax)
	wantError(t, "aé", 1, api.ErrSyntax)
	wantError(t, long(api.MaxName)+"é", api.MaxName, api.ErrSyntax)
}

// P4.3: numbers, and which of them are not in range.
func TestNumbers(t *testing.T) {
	for _, n := range []int{0, 1, 2, 9, 10, 11, 19, 90, 99, 100, 101, 255, 4096, 65536, 99999999, 123456789, 987654321, 999999999, 1000000000, api.MaxNum - 1, api.MaxNum} {
		word := strconv.Itoa(n)
		wantTokens(t, word, api.Token{Kind: api.TokenNumber, At: 0, End: len(word), Num: n})
		wantTokens(t, "x:="+word+";", token("x", 0), token(":=", 1), api.Token{Kind: api.TokenNumber, At: 3, End: 3 + len(word), Num: n}, token(";", 3+len(word)))
		for _, zeros := range []string{"0", "00", "0000000000000000000000000"} {
			wantError(t, zeros+word, 0, api.ErrRange)
			wantError(t, "- "+zeros+word, 2, api.ErrRange)
			wantError(t, "."+zeros+word+"a", 1, api.ErrRange)
		}
	}
	for _, word := range []string{
		"1073741825", "1073741826", "1073741830", "1100000000", "1999999999", "2000000000", "2147483647", "2147483648", "4294967295", "4294967296", "4294967297", "5368709120", "9999999999", "10000000000",
		"10737418240", "9223372036854775807", "9223372036854775808", "18446744073709551615", "18446744073709551616", "18446744073709551617", "184467440737095516160", "36893488147419103233",
		"340282366920938463463374607431768211457", strings.Repeat("9", 1000), "1" + strings.Repeat("0", 1000), strings.Repeat("1", api.MaxText),
	} {
		wantError(t, word, 0, api.ErrRange)
		if len(word) < 1000 {
			wantError(t, "x < "+word+" ", 4, api.ErrRange)
			wantError(t, "\n"+word+"a", 1, api.ErrRange)
		}
	}
}

// P4.1: digits directly ahead of or behind something else.
func TestNumbersEnd(t *testing.T) {
	for text, words := range map[string][]string{
		"1a": {"1", "a"}, "0a": {"0", "a"}, "12ab34": {"12", "ab34"}, "0x1F": {"0", "x1F"}, "1e9": {"1", "e9"}, "0n": {"0", "n"}, "2n": {"2", "n"}, "1073741824Z": {"1073741824", "Z"},
		"1.5": {"1", ".", "5"}, "0..9": {"0", "..", "9"}, "0.0": {"0", ".", "0"}, "-1": {"-", "1"}, "+0": {"+", "0"}, "1-1": {"1", "-", "1"}, "0-0": {"0", "-", "0"}, "10:0": {"10", ":", "0"}, "(0)": {"(", "0", ")"},
		"1a1 1": {"1", "a1", "1"}, "0o0": {"0", "o0"}, "0b1_0": {"0", "b1_0"}, "3/4": {"3", "/", "4"},
	} {
		wantWords(t, text, words...)
	}
	wantError(t, "1_000", 1, api.ErrSyntax)
	wantError(t, "0_", 1, api.ErrSyntax)
	wantError(t, "0"+long(api.MaxName+1), 1, api.ErrName)
	wantWords(t, "0"+long(api.MaxName), "0", long(api.MaxName))
	wantError(t, "007a", 0, api.ErrRange)
	wantError(t, "1 00", 2, api.ErrRange)
	wantError(t, "0.00", 2, api.ErrRange)
	wantError(t, "1\xb2", 1, api.ErrSyntax)
	wantError(t, "1٣", 1, api.ErrSyntax)
}

// P4.1: every sign, alone and beside all others.
func TestSigns(t *testing.T) {
	for _, a := range signs {
		wantTokens(t, a, api.Token{Kind: api.TokenSign, At: 0, End: len(a)})
		wantTokens(t, "x"+a+"1", token("x", 0), token(a, 1), token("1", 1+len(a)))
		for _, b := range signs {
			wantTokens(t, a+" "+b, token(a, 0), token(b, len(a)+1))
			wantTokens(t, a+"#\n"+b, token(a, 0), token(b, len(a)+2))
			checkModel(t, a+b)
			for _, c := range signs {
				checkModel(t, a+b+c)
			}
		}
	}
}

// P4.1: the longest sign that fits, and halves of signs.
func TestLongestSign(t *testing.T) {
	for text, words := range map[string][]string{
		"...": {"..", "."}, "....": {"..", ".."}, ".....": {"..", "..", "."}, "::=": {":", ":="}, ":=:": {":=", ":"}, "<=>": {"<=", ">"}, "<=>=": {"<=", ">="}, "<-": {"<", "-"}, "<->": {"<", "->"},
		"-->": {"-", "->"}, "->>": {"->", ">"}, ">>=": {">", ">="}, ">=>": {">=", ">"}, "!!=": {"!", "!="}, "====": {"==", "=="}, "&&&&": {"&&", "&&"}, "||||": {"||", "||"},
		"-!": {"-", "!"}, "--": {"-", "-"}, "++": {"+", "+"}, "**": {"*", "*"}, "//": {"/", "/"}, "??": {"?", "?"}, "<>": {"<", ">"}, "<<": {"<", "<"}, "!<": {"!", "<"}, "):=": {")", ":="}, "+-*/%!": {"+", "-", "*", "/", "%", "!"},
		";:,().": {";", ":", ",", "(", ")", "."}, ";:,()..->:=?&&||==!=<<=>>=+-*/%!": {";", ":", ",", "(", ")", "..", "->", ":=", "?", "&&", "||", "==", "!=", "<", "<=", ">", ">=", "+", "-", "*", "/", "%", "!"},
	} {
		wantWords(t, text, words...)
	}
	for text, at := range map[string]int{
		"=": 0, "&": 0, "|": 0, "=>": 0, "=<": 0, "=!": 0, "=:": 0, "= =": 0, "& &": 0, "| |": 0, "&|": 0, "|&": 0, "===": 2, "&&&": 2, "|||": 2, ":==": 2, "!==": 2, "<==": 2, ">==": 2, "->=": 2,
		": =": 2, "< =": 2, "> =": 2, "! =": 2, "-=": 1, "+=": 1, "*=": 1, ".=": 1, "..=": 2, "...=": 3, "&&&||": 2, "x=1": 1, "x&y": 1, "x|y": 1, "x==1&y": 4, "a:=b=c": 4, "x = 1": 2, "=\n": 0, "&#\n&": 0, "=\x00": 0,
	} {
		wantError(t, text, at, api.ErrSyntax)
	}
}

// near returns strings that differ little from a word.
func near(word string) []string {
	return []string{
		word + "x", "x" + word, word + "s", word + "_", word + "0", word + word, word[:len(word)-1], word[1:], strings.ToUpper(word), strings.ToUpper(word[:1]) + word[1:], word[:len(word)-1] + strings.ToUpper(word[len(word)-1:]),
		word + " ", " " + word, word + "\n", word + "\x00", "\x00" + word, word + "#", word + ".", "_" + word, word + " " + word, word + "é", word + "\u0301", strings.Replace(word, "e", "\u0435", 1) + "e",
	}
}

// P4.2: the reserved words, and what is not one.
func TestReserved(t *testing.T) {
	for _, word := range reserved {
		if !lexer.Reserved(word) || lexer.Name(word) {
			t.Errorf("%q is reserved", word)
		}
		for _, other := range near(word) {
			if lexer.Reserved(other) != slices.Contains(reserved, other) {
				t.Errorf("%q: %v", other, lexer.Reserved(other))
			}
		}
	}
	for _, word := range slices.Concat(signs, []string{
		"", " ", "0", "1", "int", "if", "not", "and", "or", "near", "own", "here", "neg", "node", "nodes", "neighbour", "self", "prog", "let", "p", "d", "N", "Q", "ID", "Ids", "iD", "root2", "countof", "CountOf",
		"None", "nil", "program var", "min max", "bool,port", long(api.MaxName), long(api.MaxName + 1), strings.Repeat("n", api.MaxText+1), "\xff", "n\x00",
	}) {
		if lexer.Reserved(word) {
			t.Errorf("%q is not reserved", word)
		}
	}
}

// P4.2: what is a name, by length, by its bytes, and as no reserved word.
func TestName(t *testing.T) {
	for n := 1; n <= 2*api.MaxName; n++ {
		for _, word := range []string{long(n), strings.Repeat("n", n) + "n", "b" + strings.Repeat("_", n-1), "Z" + strings.Repeat("9", n-1)} {
			if lexer.Name(word) != (len(word) <= api.MaxName) {
				t.Errorf("%q: %v", word, lexer.Name(word))
			}
		}
	}
	for _, word := range []string{
		"", " ", "_", "_a", "0", "1", "1a", "0_", " a", "a ", "a b", "a\n", "\na", "a\r", "a\t", "a\x00", "\x00", "a-b", "a.b", "q.d", "a:", ":=", "+", "#", "a#", "#a", "a# c", "a;", "é", "aé", "éa", "a\xff", "\xff", "\x80a",
		"a\u0301", "ａ", "\u212a", "\u017f", "a²", "a٣", "a_é", "n", "q", "id", "program", "head", strings.Repeat("a", 25), strings.Repeat("a", api.MaxText), strings.Repeat("é", 12), "a" + strings.Repeat("\xff", 23),
	} {
		if lexer.Name(word) {
			t.Errorf("%q is no name", word)
		}
	}
	for _, word := range []string{"a", "z", "A", "Z", "d", "p", "N", "Q", "n1", "q_", "a_", "a__b", "a1", "Program", "IDS", "heads", "nn", "int", "nodes", "programs", "true1", "x_1", strings.Repeat("n", api.MaxName)} {
		if !lexer.Name(word) {
			t.Errorf("%q is a name", word)
		}
	}
	for _, word := range reserved {
		for _, other := range near(word) {
			checkName(t, other)
		}
	}
}

// name is the form of a word of at most MaxName bytes.
var name = regexp.MustCompile(`^[A-Za-z][A-Za-z0-9_]{0,23}$`)

// checkName compares Name and Reserved with what P4.2 says, and both with Scan.
func checkName(t *testing.T, s string) {
	word, taken := name.MatchString(s), slices.Contains(reserved, s)
	if lexer.Name(s) != (word && !taken) || lexer.Reserved(s) != taken {
		t.Errorf("%q: name %v, reserved %v", s, lexer.Name(s), lexer.Reserved(s))
	}
	tokens, _, e := lexer.Scan(s)
	alone := e == api.OK && len(tokens) == 1 && tokens[0] == api.Token{Kind: api.TokenName, At: 0, End: len(s)}
	if alone != word {
		t.Errorf("%q: a word %v, but the tokens %v, %d", s, word, tokens, e)
	}
}

// P4.2: all strings of up to three letters, and all of two bytes.
func TestAllNames(t *testing.T) {
	const letters = "abcdefghijklmnopqrstuvwxyzABCDEFGHIJKLMNOPQRSTUVWXYZ"
	checkName(t, "")
	for _, a := range letters {
		for _, b := range letters {
			for _, c := range letters {
				s := string([]rune{a, b, c})
				if want := slices.Contains(reserved, s); lexer.Reserved(s) != want || lexer.Name(s) == want {
					t.Errorf("%q: reserved %v, name %v", s, lexer.Reserved(s), lexer.Name(s))
				}
			}
		}
	}
	for a := range 256 {
		checkName(t, string([]byte{byte(a)}))
		for b := range 256 {
			checkName(t, string([]byte{byte(a), byte(b)}))
		}
	}
}

// tokensOf returns n tokens at even places, each with a blank behind it.
func tokensOf(n int) string { return strings.Repeat("x 1 ( ", n/3+1)[:2*n] }

// P4.3: MaxTokens tokens, and what follows them.
func TestMaxTokens(t *testing.T) {
	full, most := tokensOf(api.MaxTokens), 2*api.MaxTokens
	for _, gap := range []string{"", " ", "\n\t\r", "#", "# x y z = 007", "# c\n  # d\n", "#\xff"} {
		if tokens, at, e := lexer.Scan(full + gap); len(tokens) != api.MaxTokens || at != 0 || e != api.OK {
			t.Errorf("MaxTokens tokens and %q: %d, %d, %d", gap, len(tokens), at, e)
		}
	}
	wantTokens(t, full, model(full).tokens...)
	for _, next := range []string{"x", "0", ";", "..", "=", "&", "_", "\xff", "\x00", "é", "007", "1073741825", strings.Repeat("9", 99), long(api.MaxName), long(api.MaxName + 1), "x = 007", "n"} {
		wantError(t, full+next, most, api.ErrLimit)
		wantError(t, full+" \n# c\n"+next, most+6, api.ErrLimit)
		wantError(t, tokensOf(api.MaxTokens+1)+next, most, api.ErrLimit)
	}
	fewer := tokensOf(api.MaxTokens - 1)
	for next, e := range map[string]api.Errno{"=": api.ErrSyntax, "\xff": api.ErrSyntax, "007": api.ErrRange, "1073741825": api.ErrRange, long(api.MaxName + 1): api.ErrName} {
		wantError(t, fewer+next, most-2, e)
		wantError(t, fewer+next+" x", most-2, e)
		wantError(t, next+" "+full, 0, e) // the first one decides
	}
	wantError(t, fewer+"x=", most-1, api.ErrLimit)
	wantError(t, strings.Repeat("(", api.MaxTokens+1), api.MaxTokens, api.ErrLimit)
	wantError(t, strings.Repeat("..", api.MaxTokens)+".", most, api.ErrLimit)
	wantError(t, strings.Repeat("(", api.MaxText), api.MaxTokens, api.ErrLimit)
	for _, two := range []string{"..", "->", ".;", "||", "a+", "1:"} {
		text := strings.Repeat(two, api.MaxTokens/2)
		wantTokens(t, text, model(text).tokens...)
	}
}

// P4.3: texts of MaxText bytes and of more.
func TestMaxText(t *testing.T) {
	for _, pad := range []string{" ", "\n", "\r", "\t", "#", "# x\n", "#\xff", "é"} {
		text := strings.Repeat(pad, api.MaxText+1)
		if pad != "é" {
			wantTokens(t, text[:api.MaxText])
			wantTokens(t, text[:api.MaxText-2]+"\nx", token("x", api.MaxText-1))
			wantError(t, text[:api.MaxText-2]+"\n=", api.MaxText-1, api.ErrSyntax)
			wantError(t, text[:api.MaxText-3]+"\n00", api.MaxText-2, api.ErrRange)
			wantError(t, text[:api.MaxText-26]+"\n"+long(25), api.MaxText-25, api.ErrName)
		}
		wantError(t, text[:api.MaxText+1], 0, api.ErrLimit)
		wantError(t, text[:api.MaxText-1]+"\nx", 0, api.ErrLimit)
		wantError(t, text+text, 0, api.ErrLimit)
	}
	wantTokens(t, "#"+strings.Repeat("é", api.MaxText/2-1)+"\n") // bytes are counted, not runes
	wantError(t, "#"+strings.Repeat("é", api.MaxText/2), 0, api.ErrLimit)
	for _, first := range []string{"=", "007", long(api.MaxName + 1), "\xff", "1073741825"} { // the length is looked at first
		wantError(t, first+strings.Repeat(" ", api.MaxText), 0, api.ErrLimit)
		wantError(t, "  "+first+strings.Repeat(" ", api.MaxText), 0, api.ErrLimit)
		wantError(t, tokensOf(api.MaxTokens)+first+strings.Repeat(" ", api.MaxText), 0, api.ErrLimit)
	}
	wantError(t, strings.Repeat("(", api.MaxText+1), 0, api.ErrLimit)
	wantError(t, strings.Repeat("a", api.MaxText), 0, api.ErrName)
	wantError(t, strings.Repeat("a", api.MaxText+1), 0, api.ErrLimit)
	wantError(t, strings.Repeat("1", api.MaxText+1), 0, api.ErrLimit)
}

// P4.3: of several errors the first token decides, whatever its error is.
func TestFirstError(t *testing.T) {
	bad := map[string]api.Errno{"=": api.ErrSyntax, "&": api.ErrSyntax, "_a": api.ErrSyntax, "\xff": api.ErrSyntax, "00": api.ErrRange, "1073741825": api.ErrRange, long(api.MaxName + 1): api.ErrName}
	for first, e := range bad {
		for second := range bad {
			wantError(t, first+" "+second, 0, e)
			wantError(t, "x := 1 "+first+"\n"+second, 7, e)
			wantError(t, "# "+second+"\n"+first+" "+second, 3+len(second), e)
		}
	}
}

// result is what Scan returns.
type result struct {
	tokens []api.Token
	at     int
	e      api.Errno
}

// form is the form of a word, a number or a sign; of several signs the longer ones stand first.
var form = regexp.MustCompile(`^(?:([A-Za-z][A-Za-z0-9_]*)|([0-9]+)|(\.\.|->|:=|&&|\|\||==|!=|<=|>=|[;:,().?<>+\-*/%!]))`)

// model returns what P4.1 and P4.3 say of a text, by their forms.
func model(text string) result {
	if len(text) > api.MaxText {
		return result{nil, 0, api.ErrLimit}
	}
	var r result
	for {
		r.at += len(gap.FindString(text[r.at:]))
		if r.at == len(text) {
			return result{r.tokens, 0, api.OK}
		}
		found := form.FindStringSubmatch(text[r.at:])
		switch {
		case len(r.tokens) == api.MaxTokens:
			return result{nil, r.at, api.ErrLimit}
		case found == nil:
			return result{nil, r.at, api.ErrSyntax}
		case len(found[1]) > api.MaxName:
			return result{nil, r.at, api.ErrName}
		}
		x := api.Token{Kind: api.TokenName, At: r.at, End: r.at + len(found[0])}
		if number := found[2]; number != "" {
			n, err := strconv.ParseInt(number, 10, 64)
			if err != nil || n > api.MaxNum || strconv.FormatInt(n, 10) != number {
				return result{nil, r.at, api.ErrRange}
			}
			x.Kind, x.Num = api.TokenNumber, int(n)
		} else if found[3] != "" {
			x.Kind = api.TokenSign
		}
		r.tokens, r.at = append(r.tokens, x), x.End
	}
}

// checkModel compares Scan with the model.
func checkModel(t *testing.T, text string) {
	t.Helper()
	if r := model(text); r.e != api.OK {
		wantError(t, text, r.at, r.e)
	} else {
		wantTokens(t, text, r.tokens...)
	}
}

// P4.1, P4.3: all texts of up to two bytes, and all of up to four bytes of some of them.
func TestShortTexts(t *testing.T) {
	checkModel(t, "")
	for a := range 256 {
		checkModel(t, string([]byte{byte(a)}))
		for b := range 256 {
			checkModel(t, string([]byte{byte(a), byte(b)}))
		}
	}
	const some = "aZ_09 \n#.:=-<>&!\xe9"
	for i := range len(some) * len(some) * len(some) * len(some) {
		text := make([]byte, 4)
		for k := range text {
			text[k], i = some[i%len(some)], i/len(some)
		}
		checkModel(t, string(text[1:]))
		checkModel(t, string(text))
	}
}

// P4.1, P4.3: all texts that differ from ordinary ones in one byte, and those that end or begin anywhere in them.
func TestChangedBytes(t *testing.T) {
	short := "a1:=0..n#c\n<=(q.d)\r&&!x_2||10"
	for at := range len(ordinary) + 1 {
		checkModel(t, ordinary[:at])
		checkModel(t, ordinary[at:])
	}
	for at := range len(short) + 1 {
		checkModel(t, short[:at])
		checkModel(t, short[at:])
		for b := range 256 {
			other := string([]byte{byte(b)})
			checkModel(t, short[:at]+other+short[at:])
			if at < len(short) {
				checkModel(t, short[:at]+other+short[at+1:])
			}
		}
		if at < len(short) {
			checkModel(t, short[:at]+short[at+1:])
		}
	}
}

// P4.1, P4.3: all texts of three pieces.
func TestPieces(t *testing.T) {
	pieces := []string{
		"", " ", "\n", "\r", "\t", "#", "# c\r", "#\n", "a", "n", "x_1", "rule", long(api.MaxName), long(api.MaxName + 1), "_", "0", "1", "10", "007", "1073741824", "1073741825", strings.Repeat("9", 40),
		".", ":", "=", "-", ">", "<", "!", "&", "|", "..", ":=", "->", "&&", ";", "\xff", "é", "\v", "\x00",
	}
	for _, a := range pieces {
		for _, b := range pieces {
			for _, c := range pieces {
				checkModel(t, a+b+c)
			}
		}
	}
}

// R2, R6: results are new memory, and the next call returns the same.
func TestMemory(t *testing.T) {
	first, _, _ := lexer.Scan(ordinary)
	second, _, _ := lexer.Scan(ordinary)
	want := model(ordinary).tokens
	clear(first[:cap(first)])
	if !slices.Equal(second, want) {
		t.Error("two results share memory")
	}
	wantTokens(t, ordinary, want...)
	for _, word := range slices.Concat(reserved, []string{"x", long(api.MaxName), "_"}) {
		if lexer.Name(word) != lexer.Name(word) || lexer.Reserved(word) != lexer.Reserved(word) {
			t.Errorf("%q: another result", word)
		}
	}
}
