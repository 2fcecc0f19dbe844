package expr_test

import (
	"fmt"
	"math"
	"slices"
	"strings"
	"testing"

	"selfstab/api"
	"selfstab/expr"
	"selfstab/lexer"
	"selfstab/term"
)

// two are the names of the chapter's examples.
var two = []string{"d", "p"}

// six are as many names as there can be, some of them as long as names can be.
var six = []string{"d", "p", "x_1", "Min", strings.Repeat("w", api.MaxName), strings.Repeat("w", api.MaxName-1) + "_"}

// tree returns an operation with its operands.
func tree(op int, operands ...[]api.Term) []api.Term {
	return append([]api.Term{{Op: op}}, slices.Concat(operands...)...)
}

func num(n int) []api.Term  { return []api.Term{{Op: api.Num, Arg: n}} }
func own(i int) []api.Term  { return []api.Term{{Op: api.Own, Arg: i}} }
func near(i int) []api.Term { return []api.Term{{Op: api.Near, Arg: i}} }

// balanced returns the text of a sum of n numbers of the least depth, and its terms.
func balanced(n int) (string, []api.Term) {
	if n == 1 {
		return "1", num(1)
	}
	left, l := balanced(n / 2)
	right, r := balanced(n - n/2)
	return "(" + left + "+" + right + ")", tree(api.Add, l, r)
}

// wantTerms checks that a text is this expression, whatever stands in its gaps.
func wantTerms(t *testing.T, text string, names []string, want []api.Term) {
	t.Helper()
	for _, s := range []string{text, " \t" + text + "\r\n", "# 1 + (\n" + text + "# )", strings.Join(words(text), " "), strings.Join(words(text), "#\n")} {
		got, at, e := expr.Parse(s, names)
		if !slices.Equal(got, want) || at != 0 || e != api.OK {
			t.Errorf("%.99q with %.99q: %.99v, %d, %d instead of %.99v", s, names, fmt.Sprint(got), at, e, fmt.Sprint(want))
		}
	}
}

// wantError checks that a text leads to this error at this place, and to no terms (R5).
func wantError(t *testing.T, text string, names []string, at int, e api.Errno) {
	t.Helper()
	got, gotAt, gotE := expr.Parse(text, names)
	if len(got) != 0 || gotAt != at || gotE != e {
		t.Errorf("%.99q with %.99q: %d terms, %d, %d instead of place %d, error %d", text, names, len(got), gotAt, gotE, at, e)
	}
}

// wantSyntax checks that a text has ErrSyntax at the token that stands behind this beginning.
func wantSyntax(t *testing.T, text, beginning string) {
	t.Helper()
	wantError(t, text, two, len(beginning), api.ErrSyntax)
}

// P6.1: the examples of the chapter, written out.
func TestParseExamples(t *testing.T) {
	wantTerms(t, "min(q.d)+1", two, []api.Term{{Op: api.Add}, {Op: api.Min}, {Op: api.Near, Arg: 0}, {Op: api.Num, Arg: 1}})
	wantError(t, "a", two, 0, api.ErrName)
	wantError(t, "d <", two, 3, api.ErrSyntax)
	wantError(t, "d < 1 < 2", two, 6, api.ErrSyntax)
	wantTerms(t, "(d ? 1 : 2) ? 3 : 4", two, tree(api.If, tree(api.If, own(0), num(1), num(2)), num(3), num(4)))
	wantTerms(t, "d ? 1 : (d ? 2 : 3)", two, tree(api.If, own(0), num(1), tree(api.If, own(0), num(2), num(3))))
	wantTerms(t, "- - d", two, tree(api.Neg, tree(api.Neg, own(0))))
}

// P6.1: the program of chapter 8.
func TestOrdinary(t *testing.T) {
	least := tree(api.Min, near(0))
	low := tree(api.If, tree(api.Lt, least, tree(api.Nodes)), tree(api.Add, least, num(1)), tree(api.Nodes))
	wantTerms(t, "min(q.d) < n ? min(q.d) + 1 : n", two, low)
	wantTerms(t, "!root && d != (min(q.d) < n ? min(q.d) + 1 : n)", two, tree(api.And, tree(api.Not, tree(api.Root)), tree(api.Ne, own(0), low)))
	top := tree(api.And, tree(api.Root), tree(api.Or, tree(api.Ne, own(0), num(0)), tree(api.Ne, own(1), tree(api.None))))
	wantTerms(t, "root && (d != 0 || p != none)", two, top)
	wantTerms(t, "first(q.p==q.back)", two, tree(api.First, tree(api.Eq, near(1), tree(api.Back))))
}

// P6.1: every word, number and NAME that is an expression by itself.
func TestLeaves(t *testing.T) {
	for word, op := range leaves {
		wantTerms(t, word, nil, tree(op))
		wantTerms(t, word, six, tree(op))
		wantTerms(t, "("+word+")", two, tree(op))
	}
	for i, name := range six {
		wantTerms(t, name, six, own(i))
		wantTerms(t, "q."+name, six, near(i))
		wantTerms(t, "q. "+name, six[:i+1], near(i))
		wantError(t, name, six[:i], 0, api.ErrName)
		wantError(t, "q."+name, six[:i], 2, api.ErrName)
	}
	for _, n := range []int{0, 1, 9, 10, 255, 4096, api.MaxNum - 1, api.MaxNum} {
		wantTerms(t, fmt.Sprint(n), nil, num(n))
		wantTerms(t, fmt.Sprint("-", n), two, tree(api.Neg, num(n)))
	}
}

// P6.1: every sign and every aggregate, with its operands in their order.
func TestOperations(t *testing.T) {
	for sign, op := range unaries {
		wantTerms(t, sign+"d", two, tree(op, own(0)))
		wantTerms(t, sign+"(d)", two, tree(op, own(0)))
	}
	for word, op := range aggregates {
		wantTerms(t, word+"(q.p)", two, tree(op, near(1)))
		wantTerms(t, word+"(d ? 1 : 2)", two, tree(op, tree(api.If, own(0), num(1), num(2))))
		wantTerms(t, "-"+word+"((q))", nil, tree(api.Neg, tree(op, tree(api.Here))))
	}
	for _, group := range binaries {
		for sign, op := range group {
			wantTerms(t, "d"+sign+"p", two, tree(op, own(0), own(1)))
			wantTerms(t, "1"+sign+"q.d", two, tree(op, num(1), near(0)))
			wantTerms(t, "q"+sign+"d", two, tree(op, tree(api.Here), own(0)))
		}
	}
	wantTerms(t, "d?p:1", two, tree(api.If, own(0), own(1), num(1)))
}

// P6.1: the terms of all operations are those of the chapter's table.
func TestEveryOperationIsWritten(t *testing.T) {
	found := map[int]bool{api.Num: true, api.Own: true, api.Near: true, api.If: true}
	for _, ops := range append(binaries, leaves, unaries, aggregates) {
		for _, op := range ops {
			found[op] = true
		}
	}
	for op := api.Num; op <= api.If; op++ {
		if !found[op] {
			t.Errorf("operation %d is in no test", op)
		}
	}
}

// P6.1: two signs, of one rule and of different ones.
func TestGrouping(t *testing.T) {
	for i, group := range binaries {
		for sign, op := range group {
			for k, other := range binaries {
				for sign2, op2 := range other {
					text := "d " + sign + " p " + sign2 + " 1"
					switch {
					case i < k: // the second one is tighter
						wantTerms(t, text, two, tree(op, own(0), tree(op2, own(1), num(1))))
					case i == 2 && k == 2:
						wantSyntax(t, text, "d "+sign+" p ")
					default:
						wantTerms(t, text, two, tree(op2, tree(op, own(0), own(1)), num(1)))
					}
					wantTerms(t, "d "+sign+" (p "+sign2+" 1)", two, tree(op, own(0), tree(op2, own(1), num(1))))
					wantTerms(t, "(d "+sign+" p) "+sign2+" 1", two, tree(op2, tree(op, own(0), own(1)), num(1)))
				}
			}
			wantTerms(t, "!d"+sign+"-p", two, tree(op, tree(api.Not, own(0)), tree(api.Neg, own(1))))
			wantTerms(t, "-(d"+sign+"p)", two, tree(api.Neg, tree(op, own(0), own(1))))
			choice := tree(api.If, tree(op, own(0), own(1)), tree(op, own(1), own(0)), tree(op, num(1), num(2)))
			wantTerms(t, "d"+sign+"p?p"+sign+"d:1"+sign+"2", two, choice)
		}
	}
	wantTerms(t, "1 - 2 - 3 + 4 - 5", nil, tree(api.Sub, tree(api.Add, tree(api.Sub, tree(api.Sub, num(1), num(2)), num(3)), num(4)), num(5)))
	wantTerms(t, "1/2*3%4/5", nil, tree(api.Div, tree(api.Mod, tree(api.Mul, tree(api.Div, num(1), num(2)), num(3)), num(4)), num(5)))
	wantTerms(t, "1+2*3-4", nil, tree(api.Sub, tree(api.Add, num(1), tree(api.Mul, num(2), num(3))), num(4)))
	wantTerms(t, "1||2&&3==4||5", nil, tree(api.Or, tree(api.Or, num(1), tree(api.And, num(2), tree(api.Eq, num(3), num(4)))), num(5)))
}

// P6.1: choices on each side of the signs of a choice.
func TestChoices(t *testing.T) {
	inner := tree(api.If, num(1), num(2), num(3))
	wantTerms(t, "1?2:3?4:5", nil, tree(api.If, num(1), num(2), tree(api.If, num(3), num(4), num(5))))
	wantTerms(t, "1?2?3:4:5", nil, tree(api.If, num(1), tree(api.If, num(2), num(3), num(4)), num(5)))
	wantTerms(t, "(1?2:3)?4:5", nil, tree(api.If, inner, num(4), num(5)))
	wantTerms(t, "4?(1?2:3):5", nil, tree(api.If, num(4), inner, num(5)))
	wantTerms(t, "4?5:(1?2:3)", nil, tree(api.If, num(4), num(5), inner))
	wantTerms(t, "4?1?2:3:1?2:3", nil, tree(api.If, num(4), inner, inner))
	wantTerms(t, "4?1?2:1?2:3:5", nil, tree(api.If, num(4), tree(api.If, num(1), num(2), inner), num(5)))
	wantTerms(t, "4?1?1?2:3:3:5", nil, tree(api.If, num(4), tree(api.If, num(1), inner, num(3)), num(5)))
	wantTerms(t, "4+(1?2:3)*5", nil, tree(api.Add, num(4), tree(api.Mul, inner, num(5))))
	wantTerms(t, "4||5?6:7||8", nil, tree(api.If, tree(api.Or, num(4), num(5)), num(6), tree(api.Or, num(7), num(8))))
	wantSyntax(t, "d ? 1", "d ? 1")
	wantSyntax(t, "d ? 1 ? 2 : 3", "d ? 1 ? 2 : 3")
	wantSyntax(t, "d ? 1 : 2 : 3", "d ? 1 : 2 ")
	wantSyntax(t, "d ? : 2", "d ? ")
	wantSyntax(t, "(d ? 1) : 2", "(d ? 1")
	wantSyntax(t, "d : 1", "d ")
}

// P6.1: signs ahead of one operand, one behind the other and before brackets.
func TestUnary(t *testing.T) {
	wantTerms(t, "--d", two, tree(api.Neg, tree(api.Neg, own(0))))
	wantTerms(t, "!-!d", two, tree(api.Not, tree(api.Neg, tree(api.Not, own(0)))))
	wantTerms(t, "-(-(d))", two, tree(api.Neg, tree(api.Neg, own(0))))
	wantTerms(t, "-(d+p)", two, tree(api.Neg, tree(api.Add, own(0), own(1))))
	wantTerms(t, "-d+p", two, tree(api.Add, tree(api.Neg, own(0)), own(1)))
	wantTerms(t, "-d*p", two, tree(api.Mul, tree(api.Neg, own(0)), own(1)))
	wantTerms(t, "d--p", two, tree(api.Sub, own(0), tree(api.Neg, own(1))))
	wantTerms(t, "d - - - p", two, tree(api.Sub, own(0), tree(api.Neg, tree(api.Neg, own(1)))))
	wantTerms(t, "d*-p", two, tree(api.Mul, own(0), tree(api.Neg, own(1))))
	wantTerms(t, "!d==p", two, tree(api.Eq, tree(api.Not, own(0)), own(1)))
	wantTerms(t, "!(d==p)", two, tree(api.Not, tree(api.Eq, own(0), own(1))))
	wantTerms(t, "-q.d", two, tree(api.Neg, near(0)))
	wantTerms(t, "!all(!q.p)", two, tree(api.Not, tree(api.All, tree(api.Not, near(1)))))
	wantTerms(t, strings.Repeat("-", api.MaxDepth-1)+"d", two, append(slices.Repeat(tree(api.Neg), api.MaxDepth-1), own(0)...))
	for _, text := range []string{"-", "--", "!", "- ", "d -", "d - !", "d && !"} {
		wantSyntax(t, text, text)
	}
	wantSyntax(t, "-()", "-(")
	wantSyntax(t, "-+d", "-")
	wantSyntax(t, "!*d", "!")
	wantSyntax(t, "d!", "d")
	wantSyntax(t, "d ! p", "d ")
	wantSyntax(t, "d-!)", "d-!")
}

// P6.1: brackets that are not needed are ignored, and as many as a text can hold.
func TestBrackets(t *testing.T) {
	for _, n := range []int{1, 2, 3, api.MaxDepth, 100, api.MaxTokens/2 - 1} {
		open, shut := strings.Repeat("(", n), strings.Repeat(")", n)
		wantTerms(t, open+"d"+shut, two, own(0))
		wantTerms(t, "-"+open+"d"+shut, two, tree(api.Neg, own(0)))
		wantError(t, open+"d"+shut[1:], two, 2*n, api.ErrSyntax)
		wantError(t, open+"d"+shut+")", two, 2*n+1, api.ErrSyntax)
		wantError(t, open+shut, two, n, api.ErrSyntax)
		wantError(t, open+"e"+shut, two, n, api.ErrName)
		wantError(t, open, two, n, api.ErrSyntax)
	}
	wantTerms(t, "((d)+(((p))))*((1))", two, tree(api.Mul, tree(api.Add, own(0), own(1)), num(1)))
	wantTerms(t, "min((((q.d))))", two, tree(api.Min, near(0)))
	wantTerms(t, "((((d)<(1)))?((p)):(((2))))", two, tree(api.If, tree(api.Lt, own(0), num(1)), own(1), num(2)))
	wantTerms(t, "(q)", two, tree(api.Here))
	wantSyntax(t, "(q).d", "(q)")
	wantSyntax(t, "(min)(q.d)", "(min")
	wantSyntax(t, "d(p)", "d")
	wantSyntax(t, "(d)(p)", "(d)")
	wantError(t, strings.Repeat("(", api.MaxTokens), two, api.MaxTokens, api.ErrSyntax)
	wantError(t, strings.Repeat("(", api.MaxTokens+1), two, api.MaxTokens, api.ErrLimit)
	wantError(t, strings.Repeat(")", api.MaxTokens), two, 0, api.ErrSyntax)
}

// badNames are lists of names that are not good.
var badNames = [][]string{
	{""}, {"1"}, {"_d"}, {"d "}, {" d"}, {"d.p"}, {"d\n"}, {"é"}, {"d", "p", ""}, {"", "d"}, {strings.Repeat("w", api.MaxName+1)},
	{"d", "d"}, {"d", "p", "x", "d"}, {"p", "d", "d"}, {"a", "b", "c", "d", "e", "e"}, {"", ""},
	{"a", "b", "c", "d", "e", "f", "g"}, {"d", "d", "d", "d", "d", "d", "d"}, slices.Repeat([]string{"d"}, 999),
	{"q"}, {"n"}, {"d", "min"}, {"d", "p", "var"}, {"weight"}, {"program"}, {"sum", "d"},
}

// P6.1: names that are not good are the first error, whatever the text is.
func TestBadNames(t *testing.T) {
	for _, names := range badNames {
		for _, text := range []string{"d", "1", "", "d <", "zz", "=", "1 007", strings.Repeat("w", api.MaxName+1), strings.Repeat(" ", api.MaxText+1), "\xff"} {
			wantError(t, text, names, 0, api.ErrForm)
		}
	}
	for _, word := range strings.Fields("program var rule bool port true false none n ids id deg root q weight back all some count first min max sum mex second head") {
		wantError(t, "1", []string{word}, 0, api.ErrForm)
		wantError(t, "1", []string{"d", word}, 0, api.ErrForm)
		wantTerms(t, word+"_", []string{word + "_"}, own(0))
		wantTerms(t, strings.ToUpper(word), []string{strings.ToUpper(word)}, own(0))
	}
}

// P6.1: few names, many and none; upper and lower case are not equal.
func TestGoodNames(t *testing.T) {
	for _, names := range [][]string{nil, {}, two[:0]} {
		wantTerms(t, "1", names, num(1))
		wantTerms(t, "q.id", names, tree(api.NearID))
		wantError(t, "d", names, 0, api.ErrName)
		wantError(t, "1 + q.d", names, 6, api.ErrName)
	}
	wantTerms(t, "D - d", []string{"d", "D"}, tree(api.Sub, own(1), own(0)))
	wantTerms(t, "d1 - d", []string{"d", "d1"}, tree(api.Sub, own(1), own(0)))
	wantTerms(t, "f - q.a", []string{"a", "b", "c", "d", "e", "f"}, tree(api.Sub, own(5), near(0)))
	wantError(t, "dd", two, 0, api.ErrName)
	wantError(t, "D", two, 0, api.ErrName)
}

// P6.1: a text that does not scan has the scanner's error, also if what stands ahead of it is no expression.
func TestScanErrors(t *testing.T) {
	long := strings.Repeat("w", api.MaxName+1)
	for _, ahead := range []string{"", "d + ", "d d ", ") ", "zz ", "d < 1 < 2 ", "q.zz ", "( ", "var ", "; := "} {
		for _, bad := range []struct {
			text string
			e    api.Errno
		}{{"=", api.ErrSyntax}, {"&", api.ErrSyntax}, {"_", api.ErrSyntax}, {"é", api.ErrSyntax}, {"\x00", api.ErrSyntax}, {"007", api.ErrRange}, {"1073741825", api.ErrRange}, {long, api.ErrName}} {
			for _, behind := range []string{"", " d", " zz", " )", " =", " 00"} {
				wantError(t, ahead+bad.text+behind, two, len(ahead), bad.e)
			}
		}
	}
	wantError(t, strings.Repeat(" ", api.MaxText+1), two, 0, api.ErrLimit)
	wantError(t, ") d"+strings.Repeat(" ", api.MaxText-2), two, 0, api.ErrLimit)
	wantError(t, ") d"+strings.Repeat(" ", api.MaxText-3), two, 0, api.ErrSyntax)
	wantError(t, "zz"+strings.Repeat(" ", api.MaxText-2), two, 0, api.ErrName)
	wantError(t, "d +"+strings.Repeat(" ", api.MaxText-3), two, api.MaxText, api.ErrSyntax)
	if got, at, e := expr.Parse("d"+strings.Repeat(" ", api.MaxText-1), two); !slices.Equal(got, own(0)) || at != 0 || e != api.OK {
		t.Errorf("%v, %d, %d of a text of MaxText bytes", got, at, e)
	}
	full := strings.Repeat("d+", api.MaxTokens/2-1) + "d"
	wantError(t, full, two, 0, api.ErrLimit)
	wantError(t, full+" +", two, len(full)+2, api.ErrSyntax)
	wantError(t, full+" + d", two, len(full)+3, api.ErrLimit)
	wantError(t, ")"+full+"+ d", two, len(full)+1, api.ErrLimit)
}

// P6.1: the first wrong token decides, whether it is ErrSyntax or ErrName.
func TestFirstError(t *testing.T) {
	wantError(t, "zz <", two, 0, api.ErrName)
	wantError(t, "d < zz <", two, 4, api.ErrName)
	wantError(t, "zz )", two, 0, api.ErrName)
	wantError(t, ") zz", two, 0, api.ErrSyntax)
	wantError(t, "d < 1 < zz", two, 6, api.ErrSyntax)
	wantError(t, "d + + zz", two, 4, api.ErrSyntax)
	wantError(t, "zz + yy", two, 0, api.ErrName)
	wantError(t, "d + q.yy + zz", two, 6, api.ErrName)
	wantError(t, "1 ? zz", two, 4, api.ErrName)
	wantError(t, "min(zz", two, 4, api.ErrName)
	wantError(t, "min(q.zz)) + 1", two, 6, api.ErrName)
	wantError(t, "min(q.d)) + zz", two, 8, api.ErrSyntax)
	wantError(t, "q . # zz\n zz", two, 10, api.ErrName)
}

// P6.1: a NAME that is none of the names, where the grammar allows one and where it allows none.
func TestUnknownNames(t *testing.T) {
	for _, ahead := range []string{"", "(", "-", "! ", "d + ", "1 ? ", "1 ? 2 : ", "d < ", "min(", "q.", "d && q . ", "((", "1 || -", "head(q.d % "} {
		for _, behind := range []string{"", " ", " + 1", ")", " d", " 1", " (", " ? 1 : 2", ".d"} {
			wantError(t, ahead+"zz"+behind, two, len(ahead), api.ErrName)
			wantError(t, ahead+"qq"+behind, two, len(ahead), api.ErrName)
		}
	}
	for _, ahead := range []string{"d ", "1 ", "q ", "n ", "q.d ", "q.id ", "min ", "(d) ", "min(q.d) ", "d ? 1 ", "d + p ", "1 < 2 ", "q.weight ", "first "} {
		for _, name := range []string{"zz", "d", "p"} {
			wantError(t, ahead+name, two, len(ahead), api.ErrSyntax)
		}
	}
}

// P6.1: a reserved word where the grammar wants a NAME or anything else, and a field of q that is none.
func TestReservedWords(t *testing.T) {
	for _, word := range strings.Fields("program var rule bool port weight back") {
		wantSyntax(t, word, "")
		wantSyntax(t, "d + "+word, "d + ")
		wantSyntax(t, "min("+word+")", "min(")
		wantSyntax(t, "d "+word, "d ")
	}
	for _, word := range strings.Fields("program var rule bool port true false none n ids q all some count first min max sum mex second head") {
		wantSyntax(t, "q."+word, "q.")
		wantSyntax(t, "1 + q. "+word+" + 1", "1 + q. ")
	}
	for word := range aggregates {
		wantSyntax(t, word, word)
		wantSyntax(t, word+" ", word+" ")
		wantSyntax(t, word+" q.d", word+" ")
		wantSyntax(t, word+"()", word+"(")
		wantSyntax(t, word+"(q.d", word+"(q.d")
		wantSyntax(t, word+"(q.d, 1)", word+"(q.d")
		wantSyntax(t, word+"(q.d) q", word+"(q.d) ")
		wantSyntax(t, word+"+1", word)
	}
}

// P6.1: ErrSyntax at the first token, amidst and at the end, and signs of the language that no expression has.
func TestSyntaxErrors(t *testing.T) {
	for _, gap := range []string{"", " ", "\n\n", "\t \r\n", "#", "# d", "# c\n", " # d + 1\n # p"} {
		wantSyntax(t, gap, gap)
		wantSyntax(t, "d +"+gap, "d +"+gap)
		wantSyntax(t, "(d"+gap, "(d"+gap)
		wantSyntax(t, "q."+gap, "q."+gap)
		wantSyntax(t, "min"+gap, "min"+gap)
		wantSyntax(t, "d ? 1 :"+gap, "d ? 1 :"+gap)
	}
	for _, sign := range strings.Fields("; : , ) . .. -> := ? && || == != < <= > >= + * / %") {
		wantSyntax(t, sign, "")
		wantSyntax(t, " "+sign+" d", " ")
		wantSyntax(t, "d * "+sign+" d", "d * ")
		wantSyntax(t, "q. "+sign, "q. ")
		wantSyntax(t, "min "+sign, "min ")
	}
	for _, sign := range strings.Fields("; : , ) .. -> := !") {
		wantSyntax(t, "d "+sign+" d", "d ")
		wantSyntax(t, "q "+sign+" d", "q ")
		wantSyntax(t, "q.d "+sign, "q.d ")
	}
	wantSyntax(t, "d.p", "d")
	wantSyntax(t, "q..d", "q")
	wantSyntax(t, "q.d.p", "q.d")
	wantSyntax(t, "q.q.d", "q.")
	wantSyntax(t, "q.1", "q.")
	wantSyntax(t, "1 2", "1 ")
	wantSyntax(t, "1d", "1")
	wantSyntax(t, "d p", "d ")
}

// P6.1: expressions at the limits and beyond them; every other error comes first.
func TestParseLimits(t *testing.T) {
	most, terms := balanced(100)
	wantTerms(t, "-"+most, nil, tree(api.Neg, terms))
	wantError(t, "--"+most, nil, 0, api.ErrLimit)
	wantError(t, "1+"+most, nil, 0, api.ErrLimit)
	wantError(t, "--"+most+"+zz", nil, len(most)+3, api.ErrName)
	wantError(t, "--"+most+")", nil, len(most)+2, api.ErrSyntax)
	for sign, op := range unaries {
		signs := strings.Repeat(sign, api.MaxDepth-1)
		wantTerms(t, signs+"1", nil, append(slices.Repeat(tree(op), api.MaxDepth-1), num(1)...))
		wantError(t, signs+sign+"1", nil, 0, api.ErrLimit)
		wantError(t, signs+sign+"1 1", nil, api.MaxDepth+2, api.ErrSyntax)
		wantError(t, signs+sign+"1)", nil, api.MaxDepth+1, api.ErrSyntax)
		wantError(t, signs+sign, nil, api.MaxDepth, api.ErrSyntax)
		wantError(t, signs+sign+"zz", nil, api.MaxDepth, api.ErrName)
		wantError(t, strings.Repeat(sign, api.MaxTokens-1)+"1", nil, 0, api.ErrLimit)
	}
	for _, group := range binaries {
		for sign, op := range group {
			left, right := "1", "1"
			l, r := num(1), num(1)
			for range api.MaxDepth - 1 {
				left, l = "("+left+")"+sign+"2", tree(op, l, num(2))
				right, r = "2"+sign+"("+right+")", tree(op, num(2), r)
			}
			wantTerms(t, left, nil, l)
			wantTerms(t, right, nil, r)
			wantError(t, "("+left+")"+sign+"2", nil, 0, api.ErrLimit)
			wantError(t, "2"+sign+"("+right+")", nil, 0, api.ErrLimit)
		}
	}
	chain := strings.Repeat("1?2:", api.MaxDepth-1)
	wantTerms(t, chain+"3", nil, append(slices.Repeat(tree(api.If, num(1), num(2)), api.MaxDepth-1), num(3)...))
	wantError(t, chain+"1?2:3", nil, 0, api.ErrLimit)
	for word, op := range aggregates {
		wantTerms(t, word+"(1+min(q.d))", two, tree(op, tree(api.Add, num(1), tree(api.Min, near(0)))))
		wantTerms(t, word+"(1)+min(max(2))", two, tree(api.Add, tree(op, num(1)), tree(api.Min, tree(api.Max, num(2)))))
		wantError(t, word+"(max(1+min(q.d)))", two, 0, api.ErrLimit)
		wantError(t, "min(-max("+word+"(q.d)))", two, 0, api.ErrLimit)
		wantError(t, "min(-max("+word+"(q.d)))) ", two, len(word)+16, api.ErrSyntax)
	}
}

// checkText checks what Parse returns for tokens that begin an expression, of which the last one is the first wrong one if e is not OK.
func checkText(t *testing.T, tokens []string, e api.Errno, c chart) {
	t.Helper()
	text := strings.Join(tokens, " ")
	switch {
	case e != api.OK:
		at := len(text) - len(tokens[len(tokens)-1])
		for _, behind := range []string{"", " zz", " )", " d"} {
			wantError(t, text+behind, two, at, e)
		}
	case !c.whole():
		wantError(t, text, two, len(text), api.ErrSyntax)
	default:
		want := structure(tokens, two)
		if !term.Valid(want, len(two)) {
			wantError(t, text, two, 0, api.ErrLimit)
			return
		}
		if got, at, e := expr.Parse(text, two); !slices.Equal(got, want) || at != 0 || e != api.OK {
			t.Errorf("%q: %v, %d, %d instead of %v", text, got, at, e, want)
			return
		}
		checkShown(t, want, two)
	}
}

// extend checks all texts of up to n more tokens that begin with these.
func extend(t *testing.T, tokens, alphabet []string, c chart, n int) {
	checkText(t, tokens, api.OK, c)
	if n == 0 || t.Failed() {
		return
	}
	for _, token := range alphabet {
		longer := append(tokens[:len(tokens):len(tokens)], token)
		next, ok := c.read(token)
		switch {
		case !ok:
			checkText(t, longer, api.ErrSyntax, nil)
		case lexer.Name(token) && !slices.Contains(two, token):
			checkText(t, longer, api.ErrName, nil)
		default:
			extend(t, longer, alphabet, next, n-1)
		}
	}
}

// P6.1, P6.2: all texts of few tokens, against the grammar as the chapter writes it.
func TestShortTexts(t *testing.T) {
	all := strings.Fields("d p zz 0 17 program var rule bool port true false none n ids id deg root q weight back all some count first min max sum mex second head " +
		"; : , ( ) . .. -> := ? && || == != < <= > >= + - * / % !")
	extend(t, nil, all, start(), 3)
	extend(t, nil, strings.Fields("d zz q . id min ( ) - < ? : + && *"), start(), 5)
	extend(t, nil, strings.Fields("d ( ) - <"), start(), 8)
	extend(t, nil, strings.Fields("1 ? : ||"), start(), 11)
	extend(t, nil, strings.Fields("d - * == &&"), start(), 9)
	extend(t, nil, strings.Fields("q . p max ( )"), start(), 11)
}

// R2, R6: no function changes what it is given, or looks behind the end of a list, and the next call returns the same.
func TestParseLeavesNames(t *testing.T) {
	for _, text := range []string{"d + q.p", "x", "d d", "=", "", "--p"} {
		names := []string{"d", "p", "x", "p", "1"}
		first, at, e := expr.Parse(text, slices.Clone(names[:2]))
		for range 2 {
			if got, gotAt, gotE := expr.Parse(text, names[:2]); !slices.Equal(got, first) || gotAt != at || gotE != e {
				t.Errorf("%q: %v, %d, %d instead of %v, %d, %d", text, got, gotAt, gotE, first, at, e)
			}
		}
		expr.Parse(text, names[:4])
		if !slices.Equal(names, []string{"d", "p", "x", "p", "1"}) {
			t.Errorf("%q: the names are %q now", text, names)
		}
	}
}

// R2: what is written into a result is not seen in another one.
func TestParseResultsAreNew(t *testing.T) {
	for _, text := range []string{"d", "d + q.p", "min(q.d) < n ? min(q.d) + 1 : n"} {
		first, _, _ := expr.Parse(text, two)
		second, _, _ := expr.Parse(text, two)
		want := slices.Clone(second)
		clear(first[:cap(first)])
		if third, _, _ := expr.Parse(text, two); !slices.Equal(second, want) || !slices.Equal(third, want) {
			t.Errorf("%q: a result shares memory", text)
		}
	}
}

// P1: any bytes, amidst an expression and alone.
func TestAnyBytes(t *testing.T) {
	const text = "d ? -q.p : min(q.id) <= 7"
	for at := range len(text) {
		for b := range math.MaxUint8 + 1 {
			changed := text[:at] + string([]byte{byte(b)}) + text[at+1:]
			tokens, place, e := lexer.Scan(changed)
			got, gotPlace, gotE := expr.Parse(changed, two)
			if e != api.OK && (gotPlace != place || gotE != e || len(got) != 0) {
				t.Errorf("%q: %v, %d, %d instead of %d, %d", changed, got, gotPlace, gotE, place, e)
			}
			if e == api.OK {
				checkTokens(t, changed, tokens, got, gotPlace, gotE)
			}
		}
	}
}

// checkTokens checks what Parse has returned for a text with these tokens.
func checkTokens(t *testing.T, text string, tokens []api.Token, got []api.Term, at int, e api.Errno) {
	t.Helper()
	c := start()
	for _, x := range tokens {
		word := text[x.At:x.End]
		next, ok := c.read(word)
		unknown := lexer.Name(word) && !slices.Contains(two, word)
		if ok && !unknown {
			c = next
			continue
		}
		want := api.ErrSyntax
		if ok {
			want = api.ErrName
		}
		if at != x.At || e != want || len(got) != 0 {
			t.Errorf("%q: %v, %d, %d instead of %d, %d", text, got, at, e, x.At, want)
		}
		return
	}
	if !c.whole() {
		wantError(t, text, two, len(text), api.ErrSyntax)
	} else if want := structure(words(text), two); at != 0 || e != api.OK || !slices.Equal(got, want) {
		t.Errorf("%q: %v, %d, %d instead of %v", text, got, at, e, want)
	}
}
