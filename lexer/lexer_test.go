package lexer_test

import (
	"math"
	"math/rand"
	"slices"
	"strconv"
	"strings"
	"testing"

	"satchel/api"
	"satchel/lexer"
)

// wantSteps goes over the tokens of a script, up to each place and then once more to the end.
func wantSteps(t *testing.T, script string, want result) {
	t.Helper()
	steps := len(want.tokens)
	if want.e != api.OK {
		steps++
	}
	scan := lexer.Scan(script)
	for stop := 1; stop <= steps+2; stop++ {
		i := 0
		for token, e := range scan {
			if i >= steps || i < len(want.tokens) && (e != api.OK || token != want.tokens[i]) || i == len(want.tokens) && (e != want.e || token != api.Token{At: want.at}) {
				t.Fatalf("Scan(%.60q): step %d is %+v, %v, want %+v", script, i, token, e, want)
			}
			if i++; i == stop {
				break
			}
		}
		if i != min(stop, steps) {
			t.Fatalf("Scan(%.60q): %d steps, want %d", script, i, min(stop, steps))
		}
	}
}

// wantRead compares All and Scan with the model.
func wantRead(t *testing.T, script string) result {
	t.Helper()
	want := read(script)
	wantSteps(t, script, want)
	all := want.tokens
	if want.e != api.OK {
		all = nil
	}
	if tokens, at, e := lexer.All(script); e != want.e || at != want.at || !slices.Equal(tokens, all) {
		t.Fatalf("All(%.60q) = %+v, %d, %v, want %+v", script, tokens, at, e, want)
	}
	return want
}

// wantQuote compares Quote with the model, and reads what it gives.
func wantQuote(t *testing.T, s string) {
	t.Helper()
	token := lexer.Quote(s)
	if want := quote(s); token != want {
		t.Fatalf("Quote(%.60q) = %.60q, want %.60q", s, token, want)
	}
	if tokens, at, e := lexer.All(token); e != api.OK || at != 0 || !slices.Equal(tokens, []api.Token{{Kind: api.TokenText, Text: s}}) {
		t.Fatalf("All(%.60q) = %+v, %d, %v", token, tokens, at, e)
	}
}

func wordAt(at int, s string) api.Token { return api.Token{Kind: api.TokenWord, Text: s, At: at} }

func intAt(at int, n int64) api.Token { return api.Token{Kind: api.TokenInt, Num: n, At: at} }

func floatAt(at int, f float64) api.Token {
	return api.Token{Kind: api.TokenFloat, Num: int64(math.Float64bits(f)), At: at}
}

func textAt(at int, s string) api.Token { return api.Token{Kind: api.TokenText, Text: s, At: at} }

func markAt(at int, s string) api.Token { return api.Token{Kind: api.TokenMark, Text: s, At: at} }

// P24.1, P24.2: the document's examples, and the edges of its words.
func TestTokens(t *testing.T) {
	for _, c := range []struct {
		script string
		want   []api.Token
	}{
		{"", nil},
		{"(n0)-[r1:T]->(n2)", []api.Token{markAt(0, "("), wordAt(1, "n0"), markAt(3, ")"), markAt(4, "-"), markAt(5, "["), wordAt(6, "r1"), markAt(8, ":"), wordAt(9, "T"), markAt(10, "]"), markAt(11, "->"), markAt(13, "("), wordAt(14, "n2"), markAt(16, ")")}},
		{"-5", []api.Token{intAt(0, -5)}},
		{"- 5", []api.Token{markAt(0, "-"), intAt(2, 5)}},
		{"5-3", []api.Token{intAt(0, 5), intAt(1, -3)}},
		{"5- 3", []api.Token{intAt(0, 5), markAt(1, "-"), intAt(3, 3)}},
		{"5--3", []api.Token{intAt(0, 5), markAt(1, "-"), intAt(2, -3)}},
		{"a-1", []api.Token{wordAt(0, "a"), intAt(1, -1)}},
		{"a-b", []api.Token{wordAt(0, "a"), markAt(1, "-"), wordAt(2, "b")}},
		{"-", []api.Token{markAt(0, "-")}},
		{"-->", []api.Token{markAt(0, "-"), markAt(1, "->")}},
		{"->-", []api.Token{markAt(0, "->"), markAt(2, "-")}},
		{"->5", []api.Token{markAt(0, "->"), intAt(2, 5)}},
		{"{},;", []api.Token{markAt(0, "{"), markAt(1, "}"), markAt(2, ","), markAt(3, ";")}},
		{`'a\x0a\'b'`, []api.Token{textAt(0, "a\n'b")}},
		{`''`, []api.Token{textAt(0, "")}},
		{`''''`, []api.Token{textAt(0, ""), textAt(2, "")}},
		{`'a''b'`, []api.Token{textAt(0, "a"), textAt(3, "b")}},
		{`a'b'c`, []api.Token{wordAt(0, "a"), textAt(1, "b"), wordAt(4, "c")}},
		{`'\\'`, []api.Token{textAt(0, `\`)}},
		{`'\\n'`, []api.Token{textAt(0, `\n`)}},
		{`'\x41\xff\x00'`, []api.Token{textAt(0, "A\xff\x00")}},
		{`'\x414'`, []api.Token{textAt(0, "A4")}},
		{`'\n\r\t\\\''`, []api.Token{textAt(0, "\n\r\t\\'")}},
		{`'// no comment'`, []api.Token{textAt(0, "// no comment")}},
		{`'"#$~ '`, []api.Token{textAt(0, `"#$~ `)}},
		{"// only this", nil},
		{"//", nil},
		{"//\n//\n", nil},
		{"// 'a\nb", []api.Token{wordAt(6, "b")}},
		{"// a\rb\nc", []api.Token{wordAt(7, "c")}},
		{"// \x00\xff\\ // #\na", []api.Token{wordAt(12, "a")}},
		{"a//b\nc", []api.Token{wordAt(0, "a"), wordAt(5, "c")}},
		{"1//2", []api.Token{intAt(0, 1)}},
		{" \t\r\n a \r\n", []api.Token{wordAt(5, "a")}},
		{"_ _1 A0z", []api.Token{wordAt(0, "_"), wordAt(2, "_1"), wordAt(5, "A0z")}},
		{"CREATE true", []api.Token{wordAt(0, "CREATE"), wordAt(7, "true")}},
		{"0 -1 42", []api.Token{intAt(0, 0), intAt(2, -1), intAt(5, 42)}},
		{"9223372036854775807-9223372036854775808", []api.Token{intAt(0, math.MaxInt64), intAt(19, math.MinInt64)}},
		{"0x0 -0x0", []api.Token{floatAt(0, 0), floatAt(4, math.Copysign(0, -1))}},
		{"0x1.8p0-0x1m2", []api.Token{floatAt(0, 1.5), floatAt(7, -0.25)}},
		{"0xinf,-0xinf", []api.Token{floatAt(0, math.Inf(1)), markAt(5, ","), floatAt(6, math.Inf(-1))}},
		{"0xnan", []api.Token{{Kind: api.TokenFloat, Num: 0x7ff8000000000000}}},
		{"x0x1", []api.Token{wordAt(0, "x0x1")}},
	} {
		if tokens, at, e := lexer.All(c.script); e != api.OK || at != 0 || !slices.Equal(tokens, c.want) {
			t.Errorf("All(%q) = %+v, %d, %v, want %+v", c.script, tokens, at, e, c.want)
		}
		wantRead(t, c.script)
	}
}

// wrongPart is something that can't be read, with its first error, and where that is in it.
type wrongPart struct {
	script string
	at     int
	e      api.Errno
}

// wrongParts can't be read, whatever follows them.
func wrongParts() []wrongPart {
	return []wrongPart{
		{`'\x0A'`, 1, api.ErrEscape}, {`'\X0a'`, 1, api.ErrEscape}, {`'\xg0'`, 1, api.ErrEscape}, {`'\x0g'`, 1, api.ErrEscape}, {`'\x0'`, 1, api.ErrEscape}, {`'\x'`, 1, api.ErrEscape}, {`'ab\q'`, 3, api.ErrEscape}, {`'\N'`, 1, api.ErrEscape}, {`'\0'`, 1, api.ErrEscape}, {`'\"'`, 1, api.ErrEscape}, {`'\ '`, 1, api.ErrEscape}, {`'\n\'\z`, 5, api.ErrEscape}, {"'\\\n'", 1, api.ErrEscape}, {"'\\\xff'", 1, api.ErrEscape}, {`'\u0041'`, 1, api.ErrEscape},
		{"a/b", 1, api.ErrLetter}, {"/", 0, api.ErrLetter}, {"/ /", 0, api.ErrLetter}, {"#", 0, api.ErrLetter}, {">", 0, api.ErrLetter}, {"- >", 2, api.ErrLetter}, {"->>", 2, api.ErrLetter}, {".", 0, api.ErrLetter}, {".5", 0, api.ErrLetter}, {"-.5", 1, api.ErrLetter}, {"+1", 0, api.ErrLetter}, {"a=1", 1, api.ErrLetter}, {"\"a\"", 0, api.ErrLetter}, {`\`, 0, api.ErrLetter}, {"\x00", 0, api.ErrLetter}, {"\v", 0, api.ErrLetter}, {"\f", 0, api.ErrLetter}, {"caf\xc3\xa9", 3, api.ErrLetter}, {"\xef\xbb\xbfa", 0, api.ErrLetter}, {"a\x7f", 1, api.ErrLetter}, {"\u00a0", 0, api.ErrLetter}, {"`", 0, api.ErrLetter}, {"@", 0, api.ErrLetter}, {"|", 0, api.ErrLetter},
		{"'a\n'", 2, api.ErrLetter}, {"'\t'", 1, api.ErrLetter}, {"'\x1f'", 1, api.ErrLetter}, {"'\x7f'", 1, api.ErrLetter}, {"'caf\xc3\xa9'", 4, api.ErrLetter}, {"'a\r", 2, api.ErrLetter}, {"'\x00\\q", 1, api.ErrLetter}, {"'\\q\x00", 1, api.ErrEscape},
		{"0x1", 0, api.ErrFloat}, {"-0x", 0, api.ErrFloat}, {"0x", 0, api.ErrFloat}, {"0x1.80p0", 0, api.ErrFloat}, {"-0xnan", 0, api.ErrFloat}, {"0x1p-1", 0, api.ErrFloat}, {"0x0_", 0, api.ErrFloat}, {"0x0.", 0, api.ErrFloat}, {"0x0a", 0, api.ErrFloat}, {"0x1p1024", 0, api.ErrFloat}, {"0xINF", 0, api.ErrFloat}, {"0x1#", 0, api.ErrFloat},
		{"07", 0, api.ErrDigit}, {"-0", 0, api.ErrDigit}, {"-07", 0, api.ErrDigit}, {"00x0", 0, api.ErrDigit}, {"0X0", 0, api.ErrDigit}, {"1.5", 0, api.ErrDigit}, {"1.", 0, api.ErrDigit}, {"1e5", 0, api.ErrDigit}, {"1_000", 0, api.ErrDigit}, {"5a", 0, api.ErrDigit}, {"5_", 0, api.ErrDigit}, {"-1x", 0, api.ErrDigit}, {"10x0", 0, api.ErrDigit}, {"9223372036854775808x", 0, api.ErrDigit}, {"1.#", 0, api.ErrDigit}, {"5Z", 0, api.ErrDigit},
		{"9223372036854775808", 0, api.ErrRange}, {"-9223372036854775809", 0, api.ErrRange}, {"99999999999999999999#", 0, api.ErrRange},
	}
}

// openParts can't be read if nothing follows them.
func openParts() []wrongPart {
	return []wrongPart{
		{"'", 0, api.ErrOpen}, {"'a", 0, api.ErrOpen}, {"'a b // c", 0, api.ErrOpen}, {`'\'`, 0, api.ErrOpen}, {`'\\\'`, 0, api.ErrOpen}, {`'\x41`, 0, api.ErrOpen}, {`'''`, 2, api.ErrOpen},
		{`'\`, 1, api.ErrEscape}, {`'a\`, 2, api.ErrEscape}, {`'\x`, 1, api.ErrEscape}, {`'a\x4`, 2, api.ErrEscape}, {`'\\\`, 3, api.ErrEscape}, {`'\n\x`, 3, api.ErrEscape},
	}
}

// P24.1, P24.2: each error alone, and behind what is right.
func TestErrors(t *testing.T) {
	for _, c := range append(wrongParts(), openParts()...) {
		for _, ahead := range []string{"", " ", "a ", "(n0) ", "'it\\'s' // '\n", "// #\n", "-5 ", "\t->"} {
			if r := wantRead(t, ahead+c.script); r.e != c.e || r.at != len(ahead)+c.at {
				t.Errorf("%q: %v at %d, want %v at %d", ahead+c.script, r.e, r.at, c.e, len(ahead)+c.at)
			}
		}
	}
}

// P24.1, P24.2: of two errors the left one is told.
func TestFirstError(t *testing.T) {
	for _, c := range wrongParts() {
		for _, d := range append(wrongParts(), openParts()...) {
			if r := wantRead(t, "a "+c.script+" "+d.script); r.e != c.e || r.at != 2+c.at {
				t.Errorf("%q, and %q: %v at %d, want %v at %d", c.script, d.script, r.e, r.at, c.e, 2+c.at)
			}
		}
	}
}

// sequences gives all sequences of up to so many bytes out of an alphabet.
func sequences(most int, alphabet string) []string {
	all := []string{""}
	last := all
	for range most {
		var next []string
		for _, s := range last {
			for i := range len(alphabet) {
				next = append(next, s+alphabet[i:i+1])
			}
		}
		all = append(all, next...)
		last = next
	}
	return all
}

// P24.1, P24.2: all short scripts of the bytes that matter.
func TestAllShortScripts(t *testing.T) {
	found := map[api.Errno]int{}
	for _, alphabet := range []string{"a1-> /\n", "'\\x0nA ", "0x-1p.a", "'/\n\\x a", "9-_.(\t\r"} {
		for _, s := range sequences(6, alphabet) {
			found[wantRead(t, s).e]++
		}
	}
	for _, e := range []api.Errno{api.OK, api.ErrLetter, api.ErrOpen, api.ErrEscape, api.ErrDigit, api.ErrFloat} {
		if found[e] == 0 {
			t.Errorf("no script with %v: %v", e, found)
		}
	}
}

// P24.1, P24.2: each byte in each place.
func TestEachByte(t *testing.T) {
	for c := range 256 {
		s := string([]byte{byte(c)})
		for _, around := range [][2]string{
			{"", ""}, {"a", ""}, {"", "a"}, {"a", "b"}, {"5", ""}, {"5", "6"}, {"", "5"}, {"-", ""}, {"-", "5"}, {"-5", "1"}, {"0x1", "p0"}, {"0", "0"}, {"/", "\na"}, {"a", "/ b"}, {"", ">"}, {"(", ")"},
			{"'", "'"}, {"'a", "b'"}, {"'", ""}, {"'\\", "'"}, {"'\\", "41'"}, {"'\\x", "0'"}, {"'\\x0", "'"}, {"'\\x4", "1'"}, {"'\\x41", "'"}, {"'\\", ""}, {"'\\x", ""}, {"'\\x0", ""}, {"''", ""}, {"'a'", "'b'"}, {"'a", "'b'"},
			{"//", "\na"}, {"// a", "b\nc"}, {"//", "a"}, {"a//", "b"},
		} {
			wantRead(t, around[0]+s+around[1])
		}
		for d := range 256 {
			wantRead(t, s+string([]byte{byte(d)}))
			wantRead(t, "'\\x"+s+string([]byte{byte(d)})+"'")
		}
	}
}

// P24.3: the document's examples, each byte, and all short texts of those that matter.
func TestQuote(t *testing.T) {
	for s, want := range map[string]string{"": "''", "a\n'b": `'a\n\'b'`, "\\\r\t": `'\\\r\t'`, "\x00\x7f~\xff": `'\x00\x7f~\xff'`, "n": "'n'", "\"": `'"'`, "\\x41": `'\\x41'`, "caf\u00e9": `'caf\xc3\xa9'`, " !": "' !'", "\x1f\x0b\x80": `'\x1f\x0b\x80'`} {
		if token := lexer.Quote(s); token != want {
			t.Errorf("Quote(%q) = %q, want %q", s, token, want)
		}
	}
	for c := range 256 {
		for d := range 256 {
			wantQuote(t, string([]byte{byte(c), byte(d)}))
		}
		s := string([]byte{byte(c)})
		wantQuote(t, s)
		wantQuote(t, strings.Repeat(s, 70))
	}
	for _, s := range sequences(5, "'\\xn0\n\x00\xff") {
		wantQuote(t, s)
	}
}

// piece gives something that a script may have, right or wrong.
func piece(rng *rand.Rand) string {
	pieces := []string{"CREATE", "(", ")", "{", "}", "[", "]", ":", ",", ";", "->", "-", "n0", "_", " ", "\n", "\t", "\r\n", "// c\n", "0x1.8p0", "-0x0", "0xnan", "''", `'\''`, `'\xff'`}
	switch n := rng.Intn(40); {
	case n < 30:
		return pieces[rng.Intn(len(pieces))]
	case n < 35:
		return strconv.FormatInt(rng.Int63()>>rng.Intn(63)-rng.Int63()>>rng.Intn(63), 10)
	case n < 39:
		b := make([]byte, rng.Intn(9))
		rng.Read(b)
		return quote(string(b))
	}
	return string([]byte{byte(rng.Intn(256))})
}

// P24.1, P24.2: longer scripts, some with a few changed bytes.
func TestRandomScripts(t *testing.T) {
	rng := rand.New(rand.NewSource(1))
	right := 0
	for range 20000 {
		var b strings.Builder
		for range rng.Intn(30) {
			b.WriteString(piece(rng))
		}
		script := []byte(b.String())
		for range rng.Intn(3) {
			if len(script) > 0 {
				script[rng.Intn(len(script))] = "'\\-/ x0a.\n\xff"[rng.Intn(11)]
			}
		}
		if wantRead(t, string(script)).e == api.OK {
			right++
		}
	}
	if right < 1000 {
		t.Errorf("only %d scripts are right", right)
	}
}

// wantCount goes over a long script.
func wantCount(t *testing.T, what, script string, tokens, at int, wrong api.Errno) {
	t.Helper()
	count := 0
	for token, e := range lexer.Scan(script) {
		if e == api.OK {
			count++
		} else if e != wrong || token != (api.Token{At: at}) {
			t.Errorf("%s: %+v, %v", what, token, e)
		}
	}
	if count != tokens {
		t.Errorf("%s: %d tokens, want %d", what, count, tokens)
	}
}

// P1, P24.1, P24.2: scripts of MaxFile bytes, and of one more.
func TestMaxFile(t *testing.T) {
	const most = 16777216
	for _, c := range []struct {
		what   string
		script string
		tokens int
		at     int
		e      api.Errno
	}{
		{"a word", strings.Repeat("a", most), 1, 0, api.OK},
		{"blanks", strings.Repeat(" \n", most/2), 0, 0, api.OK},
		{"a comment", strings.Repeat("/", most), 0, 0, api.OK},
		{"comments", strings.Repeat("//\n/", most/4), 0, most - 1, api.ErrLetter},
		{"marks", strings.Repeat("-", most), most, 0, api.OK},
		{"a text", "'" + strings.Repeat("a", most-2) + "'", 1, 0, api.OK},
		{"a text of escapes", "'" + strings.Repeat(`\'`, most/2-1) + "'", 1, 0, api.OK},
		{"an open text", strings.Repeat("a ", most/2-1) + "'a", most/2 - 1, most - 2, api.ErrOpen},
		{"a number", strings.Repeat("1", most), 0, 0, api.ErrRange},
		{"a float", "0x1." + strings.Repeat("1", most-6) + "p0", 0, 0, api.ErrFloat},
		{"numbers", strings.Repeat("-1", most/2), most / 2, 0, api.OK},
	} {
		if len(c.script) != most {
			t.Fatalf("%s: %d bytes", c.what, len(c.script))
		}
		wantCount(t, c.what, c.script, c.tokens, c.at, c.e)
		wantCount(t, c.what+", and a blank more", c.script+" ", 0, 0, api.ErrLong)
	}
	for _, script := range []string{strings.Repeat(" ", most+1), "#" + strings.Repeat(" ", most), strings.Repeat("a ", most)} {
		if tokens, at, e := lexer.All(script); e != api.ErrLong || at != 0 || len(tokens) != 0 {
			t.Errorf("All(%.5q) = %d tokens, %d, %v", script, len(tokens), at, e)
		}
	}
	if tokens, at, e := lexer.All(strings.Repeat(" ", most-2) + "5;"); e != api.OK || at != 0 || !slices.Equal(tokens, []api.Token{intAt(most-2, 5), markAt(most-1, ";")}) {
		t.Errorf("All = %+v, %d, %v", tokens, at, e)
	}
}
