package csv_test

import (
	"math/rand"
	"slices"
	"strings"
	"testing"

	"satchel/api"
	"satchel/csv"
)

func sameRows(a, b [][]string) bool {
	return slices.EqualFunc(a, b, slices.Equal[[]string])
}

// wantRows goes over the rows of a text, up to each place and then once more to the end.
func wantRows(t *testing.T, text string, want [][]string, wrong api.Errno) {
	t.Helper()
	steps := len(want)
	if wrong != api.OK {
		steps++
	}
	rows := csv.Rows(text)
	for stop := 1; stop <= steps+2; stop++ {
		i := 0
		for row, e := range rows {
			if i < len(want) && (e != api.OK || !slices.Equal(row, want[i])) || i == len(want) && (e != wrong || len(row) != 0) || i >= steps {
				t.Fatalf("Rows(%.60q): step %d is %q, %v, want %q, %v", text, i, row, e, want, wrong)
			}
			if i++; i == stop {
				break
			}
		}
		if i != min(stop, steps) {
			t.Fatalf("Rows(%.60q): %d steps, want %d", text, i, min(stop, steps))
		}
	}
}

// wantRead compares Parse and Rows with the model.
func wantRead(t *testing.T, text string) ([][]string, api.Errno) {
	t.Helper()
	want, wrong := read(text)
	wantRows(t, text, want, wrong)
	if wrong != api.OK {
		want = nil
	}
	if rows, e := csv.Parse(text); e != wrong || !sameRows(rows, want) {
		t.Fatalf("Parse(%.60q) = %q, %v, want %q, %v", text, rows, e, want, wrong)
	}
	return want, wrong
}

// wantPrint compares Print with the model, and reads what it gives.
func wantPrint(t *testing.T, rows [][]string) {
	t.Helper()
	want := write(rows)
	text, e := csv.Print(rows)
	if e != api.OK || text != want {
		t.Fatalf("Print(%.60q) = %.60q, %v, want %.60q", rows, text, e, want)
	}
	if back, e := csv.Parse(text); e != api.OK || !sameRows(back, rows) {
		t.Fatalf("Parse(%.60q) = %.60q, %v, want %.60q", text, back, e, rows)
	}
}

// The document's examples.

// P21.1
func TestPrintOfExamples(t *testing.T) {
	rows := [][]string{{"a", "b"}, {""}, {"x\"y", "1,2"}}
	if text, e := csv.Print(rows); e != api.OK || text != "a,b\r\n\r\n\"x\"\"y\",\"1,2\"\r\n" {
		t.Errorf("Print = %q, %v", text, e)
	}
	wantPrint(t, rows)
}

// P21.2, P21.3
func TestReadingOfExamples(t *testing.T) {
	for _, c := range []struct {
		text string
		rows [][]string
		e    api.Errno
	}{
		{"", nil, api.OK},
		{"a,b", [][]string{{"a", "b"}}, api.OK},
		{"a,b\r\n", [][]string{{"a", "b"}}, api.OK},
		{"\r\n", [][]string{{""}}, api.OK},
		{"\r\n\r\n", [][]string{{""}, {""}}, api.OK},
		{"a,", [][]string{{"a", ""}}, api.OK},
		{",", [][]string{{"", ""}}, api.OK},
		{"\"\"", [][]string{{""}}, api.OK},
		{"\"\"\"\"", [][]string{{"\""}}, api.OK},
		{"\"a,\r\n\r\n\"\",\",b", [][]string{{"a,\r\n\r\n\",", "b"}}, api.OK},
		{"\"a\"\r\n\"b\"", [][]string{{"a"}, {"b"}}, api.OK},
		{"a\"b", nil, api.ErrQuote},
		{"a\"", nil, api.ErrQuote},
		{" \"a\"", nil, api.ErrQuote},
		{"\"a\" b", nil, api.ErrQuote},
		{"\"", nil, api.ErrQuote},
		{"\"a", nil, api.ErrQuote},
		{"\"a\"\"", nil, api.ErrQuote},
		{"\"a\r\n", nil, api.ErrQuote},
		{"a\rb", nil, api.ErrBreak},
		{"\"a\"\n", nil, api.ErrBreak},
		{"\"a\"\r", nil, api.ErrBreak},
		{"\"a\"\r\"", nil, api.ErrBreak},
		{"a\n", nil, api.ErrBreak},
		{"\n", nil, api.ErrBreak},
		{"\r", nil, api.ErrBreak},
		{"a\r\r\n", nil, api.ErrBreak},
		{"a\n\r", nil, api.ErrBreak},
		{"a\rb\"", nil, api.ErrBreak},
		{"a\"b\r", nil, api.ErrQuote},
		{"a\r\nb\n\"", nil, api.ErrBreak},
	} {
		if rows, e := wantRead(t, c.text); e != c.e || !sameRows(rows, c.rows) {
			t.Errorf("%q is %q, %v, want %q, %v", c.text, rows, e, c.rows, c.e)
		}
	}
}

// texts gives all texts of up to so many bytes out of an alphabet.
func texts(alphabet string, most int) []string {
	all := []string{""}
	last := all
	for range most {
		var next []string
		for _, s := range last {
			for i := range len(alphabet) {
				next = append(next, s+alphabet[i:i+1])
			}
		}
		all = append(all, next...)
		last = next
	}
	return all
}

// P21.2, P21.3: all short texts of the bytes that matter, and of one that doesn't. What is read can be written.
func TestReadingOfAllShortTexts(t *testing.T) {
	counts := map[api.Errno]int{}
	for _, text := range texts("a\",\r\n", 7) {
		rows, e := wantRead(t, text)
		counts[e]++
		if e == api.OK {
			wantPrint(t, rows)
		}
	}
	if len(counts) != 3 || counts[api.OK] == 0 || counts[api.ErrQuote] == 0 || counts[api.ErrBreak] == 0 {
		t.Errorf("the errors are %v", counts)
	}
}

// P21.1, P21.2, P21.3: each byte in a field, and behind a field that is quoted.
func TestEachByte(t *testing.T) {
	for c := range 256 {
		s := string([]byte{byte(c)})
		special := strings.Contains("\",\r\n", s)
		for _, field := range []string{s, "a" + s, s + "b", "a" + s + "b", s + s} {
			want := field
			if special {
				want = "\"" + strings.ReplaceAll(field, "\"", "\"\"") + "\""
			}
			if text, e := csv.Print([][]string{{field}}); e != api.OK || text != want+"\r\n" {
				t.Errorf("Print of %q = %q, %v", field, text, e)
			}
			wantPrint(t, [][]string{{field, "x"}, {"", field}, {field}})
			wantRead(t, field)
			wantRead(t, "x,"+field+"\r\n")
			wantRead(t, "\""+field+"\"")
		}
		for _, behind := range []string{"", "a", ",", "\r\n", "\"", "\n"} {
			wantRead(t, "\"a\""+s+behind)
			wantRead(t, "\"\""+s+behind)
		}
		if _, e := csv.Parse("\"a\"" + s); !special && e != api.ErrQuote {
			t.Errorf("%q behind a quoted field: %v", s, e)
		}
	}
}

// P21.1
func TestPrintOfShortRows(t *testing.T) {
	fields := texts("a\",\r\n", 2)
	var rows [][]string
	for _, a := range fields {
		rows = append(rows, []string{a})
		wantPrint(t, [][]string{{a}})
		for _, b := range fields {
			rows = append(rows, []string{a, b})
			wantPrint(t, [][]string{{a, b}})
		}
	}
	wantPrint(t, rows)
	rng := rand.New(rand.NewSource(1))
	for range 20000 {
		var some [][]string
		for range rng.Intn(4) {
			row := slices.Clone(rows[rng.Intn(len(rows))])
			for range rng.Intn(3) {
				row = append(row, fields[rng.Intn(len(fields))])
			}
			some = append(some, row)
		}
		wantPrint(t, some)
	}
}

// P21.1
func TestPrintOfRowsWithoutFields(t *testing.T) {
	good := []string{"a"}
	for i, rows := range [][][]string{{nil}, {{}}, {good, nil}, {nil, good}, {good, {}, good}, {good, good, nil}, {nil, nil}, {{"a\"b\r"}, {}}} {
		if text, e := csv.Print(rows); e != api.ErrArg || text != "" {
			t.Errorf("%d: Print = %q, %v", i, text, e)
		}
	}
	for _, rows := range [][][]string{nil, {}} {
		if text, e := csv.Print(rows); e != api.OK || text != "" {
			t.Errorf("Print of no rows = %q, %v", text, e)
		}
	}
}

// P21.2, P21.3: longer texts, which are valid but for a few changed bytes.
func TestReadingOfChangedTexts(t *testing.T) {
	rng := rand.New(rand.NewSource(2))
	fields := append(texts("a\",\r\n", 3), "caf\xc3\xa9", "\x00", "\xff\xfe", strings.Repeat("long ", 50), strings.Repeat("\"", 60))
	for range 20000 {
		var rows [][]string
		for range 1 + rng.Intn(4) {
			var row []string
			for range 1 + rng.Intn(4) {
				row = append(row, fields[rng.Intn(len(fields))])
			}
			rows = append(rows, row)
		}
		text := []byte(write(rows))
		for range rng.Intn(4) {
			text[rng.Intn(len(text))] = "a\",\r\n"[rng.Intn(5)]
		}
		wantRead(t, string(text))
		wantRead(t, string(text[:rng.Intn(len(text)+1)]))
	}
}

// P1, P21.2: much of everything takes no more steps than there are bytes.
func TestLongTexts(t *testing.T) {
	const size = 1 << 22
	for _, c := range []struct {
		what   string
		text   string
		rows   int
		fields int // of the last row
		e      api.Errno
	}{
		{"a field", strings.Repeat("a", size), 1, 1, api.OK},
		{"commas", strings.Repeat(",", size), 1, size + 1, api.OK},
		{"line breaks", strings.Repeat("\r\n", size/2), size / 2, 1, api.OK},
		{"an open field of commas", "\"" + strings.Repeat(",", size), 0, 0, api.ErrQuote},
		{"a quoted field of line breaks", "\"" + strings.Repeat("\r\n", size/2) + "\"", 1, 1, api.OK},
		{"quotation marks", strings.Repeat("\"", size), 1, 1, api.OK},
		{"an odd number of quotation marks", strings.Repeat("\"", size+1), 0, 0, api.ErrQuote},
		{"rows with a wrong one at the end", strings.Repeat("a,\"b\"\r\n", size/8) + "\n", 0, 0, api.ErrBreak},
	} {
		rows, e := csv.Parse(c.text)
		if e != c.e || len(rows) != c.rows || c.rows > 0 && len(rows[len(rows)-1]) != c.fields {
			t.Errorf("%s: %d rows, %v", c.what, len(rows), e)
		}
		if text, e := csv.Print([][]string{{c.text}}); e != api.OK || text != writeField(c.text)+"\r\n" {
			t.Errorf("%s: Print: %v", c.what, e)
		}
	}
}
