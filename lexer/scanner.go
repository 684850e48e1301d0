package lexer

import (
	"strings"

	"satchel/api"
	"satchel/number"
)

const (
	blanks     = " \t\r\n"
	comment    = "//"
	lineEnd    = "\n"
	minus      = "-"
	floatBegin = "0x"
)

// marks has a longer mark ahead of the one with which it begins.
var marks = [...]string{"(", ")", "{", "}", "[", "]", ":", ",", ";", "->", minus}

func isDigit(c byte) bool {
	return c >= '0' && c <= '9'
}

// beginsWord tells whether a byte is a letter or _.
func beginsWord(c byte) bool {
	return c >= 'a' && c <= 'z' || c >= 'A' && c <= 'Z' || c == '_'
}

func continuesWord(c byte) bool {
	return beginsWord(c) || isDigit(c)
}

func continuesNumber(c byte) bool {
	return continuesWord(c) || c == '.'
}

// beginsNumber tells whether a number is what a script that is not empty begins with.
func beginsNumber(script string) bool {
	digits := strings.TrimPrefix(script, minus)
	return digits != "" && isDigit(digits[0])
}

// scanner reads a script from left to right.
type scanner struct {
	text string
	at   int // the offset of what is not read yet
}

func (s *scanner) rest() string {
	return s.text[s.at:]
}

// find goes to the next token, and tells whether there is anything more.
func (s *scanner) find() bool {
	for s.at < len(s.text) {
		switch {
		case strings.IndexByte(blanks, s.text[s.at]) >= 0:
			s.at++
		case strings.HasPrefix(s.rest(), comment):
			line, _, _ := strings.Cut(s.rest(), lineEnd)
			s.at += len(line)
		default:
			return true
		}
	}
	return false
}

// wrong is what is told in place of a token.
func wrong(at int, e api.Errno) (api.Token, api.Errno) {
	return api.Token{At: at}, e
}

// token reads the token that begins here.
func (s *scanner) token() (api.Token, api.Errno) {
	switch c := s.text[s.at]; {
	case beginsWord(c):
		return s.word(), api.OK
	case beginsNumber(s.rest()):
		return s.number()
	case c == apostrophe:
		return s.quoted()
	}
	return s.mark()
}

// take reads a byte, and those behind it that belong to it. What it gives is a piece of the script.
func (s *scanner) take(belongs func(byte) bool) string {
	end := s.at + 1
	for end < len(s.text) && belongs(s.text[end]) {
		end++
	}
	taken := s.text[s.at:end]
	s.at = end
	return taken
}

func (s *scanner) word() api.Token {
	at := s.at
	// A piece of the script would keep all of it from being freed.
	return api.Token{Kind: api.TokenWord, Text: strings.Clone(s.take(continuesWord)), At: at}
}

func (s *scanner) number() (api.Token, api.Errno) {
	token := api.Token{Kind: api.TokenInt, At: s.at}
	form := s.take(continuesNumber)
	var e api.Errno
	if strings.HasPrefix(strings.TrimPrefix(form, minus), floatBegin) {
		var bits uint64
		bits, e = number.ParseFloat(form)
		token.Kind, token.Num = api.TokenFloat, int64(bits)
	} else {
		token.Num, e = number.ParseInt(form)
	}
	if e != api.OK {
		return wrong(token.At, e)
	}
	return token, api.OK
}

// quoted reads a text.
func (s *scanner) quoted() (api.Token, api.Errno) {
	var plain strings.Builder
	for i := s.at + 1; i < len(s.text); i++ {
		c := s.text[i]
		switch {
		case c == apostrophe:
			token := api.Token{Kind: api.TokenText, Text: plain.String(), At: s.at}
			s.at = i + 1
			return token, api.OK
		case c == backslash:
			b, size := unescape(s.text[i+1:])
			if size == 0 {
				return wrong(i, api.ErrEscape)
			}
			plain.WriteByte(b)
			i += size
		case isPrintable(c):
			plain.WriteByte(c)
		default:
			return wrong(i, api.ErrLetter)
		}
	}
	return wrong(s.at, api.ErrOpen)
}

// unescape gives the byte for which a backslash in front of s stands, and the size of its escape behind the backslash; that is 0 where there is none.
func unescape(s string) (byte, int) {
	if s == "" {
		return 0, 0
	}
	if i := strings.IndexByte(shortLetters, s[0]); i >= 0 {
		return shortBytes[i], 1
	}
	if s[0] != hexLetter || len(s) < 3 {
		return 0, 0
	}
	high, low := strings.IndexByte(hexDigits, s[1]), strings.IndexByte(hexDigits, s[2])
	if high < 0 || low < 0 {
		return 0, 0
	}
	return byte(high<<4 | low), 3
}

func (s *scanner) mark() (api.Token, api.Errno) {
	for _, mark := range marks {
		if strings.HasPrefix(s.rest(), mark) {
			token := api.Token{Kind: api.TokenMark, Text: mark, At: s.at}
			s.at += len(mark)
			return token, api.OK
		}
	}
	return wrong(s.at, api.ErrLetter)
}
