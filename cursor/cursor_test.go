package cursor_test

import (
	"slices"
	"strings"
	"testing"

	"selfstab/api"
	"selfstab/cursor"
)

// want checks what Read returns for a text and a function that reads it.
func want(t *testing.T, text string, whole func(c *cursor.Cursor), at int, e api.Errno) {
	t.Helper()
	var c cursor.Cursor
	if gotAt, gotE := c.Read(text, func() { whole(&c) }); gotAt != at || gotE != e {
		t.Errorf("%q: %d, %d instead of %d, %d", text, gotAt, gotE, at, e)
	}
}

// skip passes over so many tokens.
func skip(n int) func(c *cursor.Cursor) {
	return func(c *cursor.Cursor) {
		for range n {
			c.Skip()
		}
	}
}

// A text that does not scan is not read, and what is not passed over is wrong.
func TestRead(t *testing.T) {
	want(t, "a b = c", func(*cursor.Cursor) { t.Errorf("the text is read") }, 4, api.ErrSyntax)
	want(t, "a 007", skip(2), 2, api.ErrRange)
	want(t, strings.Repeat(" ", api.MaxText+1), skip(0), 0, api.ErrLimit)
	want(t, "", skip(0), 0, api.OK)
	want(t, " # a", skip(0), 0, api.OK)
	want(t, " a b # c", skip(2), 0, api.OK)
	want(t, " a b # c", skip(9), 0, api.OK)
	want(t, " a b # c", skip(1), 3, api.ErrSyntax)
	want(t, " a b # c", skip(0), 1, api.ErrSyntax)
}

// The tokens come one after the other, and an empty one at the end of the text again and again.
func TestTokens(t *testing.T) {
	const text = "a:= 17 # b\n ( "
	var words []string
	var tokens []api.Token
	want(t, text, func(c *cursor.Cursor) {
		for range 6 {
			words = append(words, c.Word())
			next := c.Next()
			tokens = append(tokens, c.Skip())
			if tokens[len(tokens)-1] != next || c.Text != text {
				t.Errorf("%v is skipped instead of %v of %q", tokens[len(tokens)-1], next, c.Text)
			}
		}
	}, 0, api.OK)
	if !slices.Equal(words, []string{"a", ":=", "17", "(", "", ""}) {
		t.Errorf("%q", words)
	}
	end := api.Token{At: len(text), End: len(text)}
	if !slices.Equal(tokens, []api.Token{{Kind: api.TokenName, End: 1}, {Kind: api.TokenSign, At: 1, End: 3}, {Kind: api.TokenNumber, At: 4, End: 6, Num: 17}, {Kind: api.TokenSign, At: 12, End: 13}, end, end}) {
		t.Errorf("%v", tokens)
	}
}

// Accept leaves another token where it is, and Expect throws there.
func TestAcceptAndExpect(t *testing.T) {
	want(t, "a ; b", func(c *cursor.Cursor) {
		if c.Accept("b") || !c.Accept("a") || c.Accept("a") || !c.Accept(";") || c.Word() != "b" {
			t.Errorf("at %q", c.Word())
		}
		c.Expect("b")
		if c.Accept("b") {
			t.Errorf("the last token stands twice")
		}
	}, 0, api.OK)
	want(t, "a ; b", func(c *cursor.Cursor) { c.Expect(";") }, 0, api.ErrSyntax)
	want(t, "a ; b", func(c *cursor.Cursor) { c.Expect("a"); c.Expect("b") }, 2, api.ErrSyntax)
	want(t, "a ", func(c *cursor.Cursor) { c.Expect("a"); c.Expect("a") }, 2, api.ErrSyntax)
}

// What is thrown comes back with its place, whatever is still to be read; nothing else that is thrown leaves Read.
func TestThrown(t *testing.T) {
	want(t, "a b c", func(c *cursor.Cursor) { c.Skip(); c.Fail(api.ErrName) }, 2, api.ErrName)
	want(t, "a b c", func(c *cursor.Cursor) { skip(3)(c); c.Fail(api.ErrLimit) }, 5, api.ErrLimit)
	want(t, "a b c", func(c *cursor.Cursor) { c.Skip(); c.FailAt(4, api.ErrRange) }, 4, api.ErrRange)
	want(t, "a b c", func(c *cursor.Cursor) { c.Skip(); _ = []int{}[len(c.Word())] }, 2, api.ErrSyntax)
	want(t, "a b c", func(*cursor.Cursor) { panic("anything") }, 0, api.ErrSyntax)
}

// A cursor can read another text behind the first one.
func TestReadAgain(t *testing.T) {
	var c cursor.Cursor
	if at, e := c.Read("a b", func() { c.Fail(api.ErrName) }); at != 0 || e != api.ErrName {
		t.Errorf("%d, %d", at, e)
	}
	if at, e := c.Read("x", func() { c.Expect("x") }); at != 0 || e != api.OK {
		t.Errorf("%d, %d", at, e)
	}
}
