package lexer_test

import (
	"fmt"
	"regexp"
	"strconv"
	"strings"

	"satchel/api"
	"satchel/number"
)

// part is what a text has between its apostrophes.
const part = `(?:[ -&(-\[\]-~]|\\[\\'nrt]|\\x[0-9a-f][0-9a-f])`

var (
	blank    = regexp.MustCompile(`^(?:[ \t\r\n]|//[^\n]*)+`)
	word     = regexp.MustCompile(`^[A-Za-z_][A-Za-z0-9_]*`)
	num      = regexp.MustCompile(`^-?[0-9][A-Za-z0-9_.]*`)
	text     = regexp.MustCompile(`^'` + part + `*'`)
	openText = regexp.MustCompile(`^'` + part + `*`)
	mark     = regexp.MustCompile(`^(?:->|[(){}\[\]:,;-])`)
	escaped  = regexp.MustCompile(`\\(?:x..|.)`)
)

// result is what the document says of a script: its tokens up to the first error, and that error.
type result struct {
	tokens []api.Token
	at     int
	e      api.Errno
}

// read calls layer 5 for numbers and for their errors.
func read(script string) result {
	var r result
	if len(script) > 16777216 {
		r.e = api.ErrLong
		return r
	}
	rest := script[len(blank.FindString(script)):]
	for rest != "" {
		r.at = len(script) - len(rest)
		token, size, e := readToken(rest)
		if e != api.OK {
			r.at, r.e = r.at+size, e
			return r
		}
		token.At = r.at
		r.tokens = append(r.tokens, token)
		rest = rest[size:]
		rest = rest[len(blank.FindString(rest)):]
	}
	r.at = 0
	return r
}

// readToken gives the token with which s begins, and its size, or an error and its place.
func readToken(s string) (api.Token, int, api.Errno) {
	if m := word.FindString(s); m != "" {
		return api.Token{Kind: 1, Text: m}, len(m), api.OK
	}
	if m := num.FindString(s); m != "" {
		token, e := readNumber(m)
		if e != api.OK {
			return token, 0, e
		}
		return token, len(m), api.OK
	}
	if m := text.FindString(s); m != "" {
		return api.Token{Kind: 4, Text: escaped.ReplaceAllStringFunc(m[1:len(m)-1], unescape)}, len(m), api.OK
	}
	if m := mark.FindString(s); m != "" {
		return api.Token{Kind: 5, Text: m}, len(m), api.OK
	}
	m := openText.FindString(s)
	if m != "" && m == s {
		return api.Token{}, 0, api.ErrOpen
	}
	if m != "" && s[len(m)] == '\\' {
		return api.Token{}, len(m), api.ErrEscape
	}
	return api.Token{}, len(m), api.ErrLetter
}

func readNumber(s string) (api.Token, api.Errno) {
	if strings.HasPrefix(s, "0x") || strings.HasPrefix(s, "-0x") {
		bits, e := number.ParseFloat(s)
		return api.Token{Kind: 3, Num: int64(bits)}, e
	}
	n, e := number.ParseInt(s)
	return api.Token{Kind: 2, Num: n}, e
}

// unescape gives what a whole escape stands for.
func unescape(escape string) string {
	switch escape[1] {
	case 'n':
		return "\n"
	case 'r':
		return "\r"
	case 't':
		return "\t"
	case 'x':
		n, _ := strconv.ParseUint(escape[2:], 16, 8)
		return string([]byte{byte(n)})
	}
	return escape[1:]
}

// quote is the token of a text.
func quote(s string) string {
	token := "'"
	for _, c := range []byte(s) {
		switch {
		case c == 10:
			token += `\n`
		case c == 13:
			token += `\r`
		case c == 9:
			token += `\t`
		case c == 39 || c == 92:
			token += "\\" + string(rune(c))
		case c < 32 || c > 126:
			token += fmt.Sprintf("\\x%02x", c)
		default:
			token += string(rune(c))
		}
	}
	return token + "'"
}
