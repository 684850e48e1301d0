package lexer_test

import (
	"slices"
	"strings"
	"testing"
	"unsafe"

	"satchel/api"
	"satchel/lexer"
)

const sample = "CREATE (n0:A {k: -5, t: 'it\\'s', f: 0x0}); // end"

// P24.1: a list of tokens may be overwritten, with its spare capacity.
func TestAllMemory(t *testing.T) {
	first, _, _ := lexer.All(sample)
	second, _, e := lexer.All(sample)
	for i := range first[:cap(first)] {
		first[:cap(first)][i] = api.Token{Kind: 77, Text: "odd"}
	}
	if want := read(sample); e != api.OK || !slices.Equal(second, want.tokens) {
		t.Errorf("All = %+v, %v", second, e)
	}
}

// P24.2: an iterator may be used within itself.
func TestScanWithinScan(t *testing.T) {
	scan := lexer.Scan(sample + "\n#")
	want := read(sample + "\n#")
	outer := 0
	for token, e := range scan {
		inner := 0
		for token, e := range scan {
			if inner < len(want.tokens) && (token != want.tokens[inner] || e != api.OK) {
				t.Errorf("token %d within token %d is %+v, %v", inner, outer, token, e)
			}
			inner++
		}
		if inner != len(want.tokens)+1 {
			t.Errorf("%d steps within token %d", inner, outer)
		}
		if outer < len(want.tokens) && (token != want.tokens[outer] || e != api.OK) {
			t.Errorf("token %d is %+v, %v", outer, token, e)
		}
		outer++
	}
	if outer != len(want.tokens)+1 {
		t.Errorf("%d steps", outer)
	}
}

// P24.1, P24.3: what a token holds is no piece of the script, and a token no piece of its text.
func TestTextsAreCopies(t *testing.T) {
	place := func(s string) uintptr { return uintptr(unsafe.Pointer(unsafe.StringData(s))) }
	within := func(part, whole string) bool {
		return place(part) >= place(whole) && place(part) < place(whole)+uintptr(len(whole))
	}
	for _, s := range []string{sample, "word", "'text'", ";", "->"} {
		s = strings.Clone(s)
		tokens, _, _ := lexer.All(s)
		for _, token := range tokens {
			if token.Text != "" && within(token.Text, s) {
				t.Errorf("%q is a piece of %q", token.Text, s)
			}
		}
		if token := lexer.Quote(s); within(s, token) || within(token, s) {
			t.Errorf("%q shares memory with its token", s)
		}
	}
}
