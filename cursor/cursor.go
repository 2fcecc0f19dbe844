// Package cursor goes through the tokens of a text from the left, for the readers of layers 6 and 8. It is no layer of its own.
package cursor

import (
	"selfstab/api"
	"selfstab/lexer"
)

// Cursor stands at the next token of the text that it reads.
type Cursor struct {
	Text   string
	tokens []api.Token // those that are still to be read
}

// fault is what a cursor throws at the first error.
type fault struct {
	at    int
	errno api.Errno
}

// Read reads a whole text by a function, which has to pass over all of its tokens. It returns the first error, and its place.
func (c *Cursor) Read(text string, whole func()) (at int, errno api.Errno) {
	tokens, at, errno := lexer.Scan(text)
	if errno != api.OK {
		return at, errno
	}
	c.Text, c.tokens = text, tokens
	defer func() {
		switch thrown := recover().(type) {
		case nil:
		case fault:
			at, errno = thrown.at, thrown.errno
		default: // nothing else is thrown on purpose, but no panic may leave a function that reads texts
			at, errno = c.Next().At, api.ErrSyntax
		}
	}()
	whole()
	if len(c.tokens) > 0 {
		c.Fail(api.ErrSyntax)
	}
	return 0, api.OK
}

// Fail throws an error at the place of the next token. Read catches it.
func (c *Cursor) Fail(e api.Errno) { c.FailAt(c.Next().At, e) }

// FailAt throws an error at a place of the text. Read catches it.
func (c *Cursor) FailAt(at int, e api.Errno) { panic(fault{at: at, errno: e}) }

// Next returns the next token. Behind the last one there is an empty one, at the end of the text.
func (c *Cursor) Next() api.Token {
	if len(c.tokens) == 0 {
		return api.Token{At: len(c.Text), End: len(c.Text)}
	}
	return c.tokens[0]
}

// Word returns the next token as it stands in the text.
func (c *Cursor) Word() string {
	t := c.Next()
	return c.Text[t.At:t.End]
}

// Skip passes over the next token and returns it.
func (c *Cursor) Skip() api.Token {
	t := c.Next()
	if len(c.tokens) > 0 {
		c.tokens = c.tokens[1:]
	}
	return t
}

// Accept passes over the next token if it is this one, and reports whether it is.
func (c *Cursor) Accept(word string) bool {
	if c.Word() != word {
		return false
	}
	c.Skip()
	return true
}

// Expect passes over the next token, which has to be this one.
func (c *Cursor) Expect(word string) {
	if !c.Accept(word) {
		c.Fail(api.ErrSyntax)
	}
}
