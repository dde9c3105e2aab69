package lex_test

import (
	"regexp"
	"slices"
	"strings"

	"weirgate/api"
)

// A plain reading of the chapter: at each place it tries every length, the greatest first. Slow, and plain.

var (
	plainWord   = regexp.MustCompile(`^[A-Za-z][A-Za-z0-9_]*$`)
	plainNumber = regexp.MustCompile(`^[0-9]+$`)
	plainSign   = regexp.MustCompile(`^(==|&&|\|\||[{}\[\]();=<+*/%!-])$`)
	plainGap    = regexp.MustCompile(`^([ \t\r\n]|//[^\n]*(\n|$))+`)
)

// plainKeywords are those of the chapter, in its order.
const plainKeywords = "chan of lossy copying var proc safe deadlock send recv idle when choose or if else while atomic skip stop len"

// plainKind returns the kind of a text that is a single token (a number of any length), -1 for any other one.
func plainKind(s string) int {
	switch {
	case plainWord.MatchString(s):
		return api.TokWord
	case plainNumber.MatchString(s):
		return api.TokNum
	case plainSign.MatchString(s):
		return api.TokSign
	}
	return -1
}

// plainTokens returns what Tokens should.
func plainTokens(s string) ([]api.Token, api.Fault) {
	if len(s) > 4000 {
		return nil, api.Fault{Err: api.ErrBig}
	}
	var l []api.Token
	at := 0
	for {
		at += len(plainGap.FindString(s[at:]))
		if at == len(s) {
			return append(l, api.Token{Kind: api.TokEnd, At: at}), api.Fault{}
		}
		n := len(s) - at
		for n > 0 && plainKind(s[at:at+n]) < 0 {
			n--
		}
		if n == 0 || n > 6 && plainNumber.MatchString(s[at:at+n]) {
			return nil, api.Fault{Err: api.ErrLex, At: at}
		}
		l = append(l, api.Token{Kind: plainKind(s[at : at+n]), S: s[at : at+n], At: at})
		at += n
	}
}

// plainKey returns what Key should.
func plainKey(s string) bool {
	return slices.Contains(strings.Fields(plainKeywords), s)
}

// plainName returns what Name should.
func plainName(s string) bool {
	return plainWord.MatchString(s) && len(s) <= 12 && !plainKey(s)
}

// plainPlace goes through the text byte by byte, and returns what Place should.
func plainPlace(s string, at int) (int, int) {
	line, column := 1, 1
	for i := 0; i < len(s) && i < at; i++ {
		column++
		if s[i] == '\n' {
			line, column = line+1, 1
		}
	}
	return line, column
}
