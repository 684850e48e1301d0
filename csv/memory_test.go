package csv_test

import (
	"slices"
	"strings"
	"testing"
	"unsafe"

	"satchel/api"
	"satchel/csv"
)

// area is the memory of a slice, with its spare capacity, or that of a string.
type area struct {
	from, to uintptr
}

func ofStrings(list []string) area {
	from := uintptr(unsafe.Pointer(unsafe.SliceData(list)))
	return area{from, from + uintptr(cap(list))*unsafe.Sizeof("")}
}

func ofString(s string) area {
	from := uintptr(unsafe.Pointer(unsafe.StringData(s)))
	return area{from, from + uintptr(len(s))}
}

// wantApart finds memory that two rows share.
func wantApart(t *testing.T, rows [][]string) {
	t.Helper()
	var all []area
	for _, row := range rows {
		all = append(all, ofStrings(row))
	}
	slices.SortFunc(all, func(a, b area) int {
		if a.from < b.from {
			return -1
		}
		return 1
	})
	for i := 1; i < len(all); i++ {
		if all[i-1].to > all[i].from {
			t.Error("two rows share memory")
		}
	}
}

// overwrite overwrites a row with its spare capacity.
func overwrite(row []string) {
	row = row[:cap(row)]
	for i := range row {
		row[i] = "odd"
	}
}

// sample is the text of three rows with fields of all kinds.
func sample() (string, [][]string) {
	text := "a,b,\"c,c\",d,e\r\n\r\n\"x\"\"y\",plain,\"\""
	return text, [][]string{{"a", "b", "c,c", "d", "e"}, {""}, {"x\"y", "plain", ""}}
}

// P21.4
func TestPrintMemory(t *testing.T) {
	_, want := sample()
	rows := make([][]string, 0, len(want)+2)
	for _, row := range want {
		rows = append(rows, append(slices.Clone(row), "spare", "spare")[:len(row)])
	}
	rows[:cap(rows)][len(rows)] = []string{"spare"}
	text, e := csv.Print(rows)
	if e != api.OK || text != write(want) {
		t.Errorf("Print = %q, %v", text, e)
	}
	if !sameRows(rows, want) || rows[:cap(rows)][len(rows)][0] != "spare" || rows[:cap(rows)][len(rows)+1] != nil {
		t.Error("Print has changed the rows")
	}
	for _, row := range rows {
		if spare := row[len(row):cap(row)]; spare[0] != "spare" || spare[1] != "spare" {
			t.Error("Print has changed what stands behind a row")
		}
		overwrite(row)
	}
	if text != write(want) {
		t.Error("the text has changed with the rows")
	}
}

// P21.4
func TestParseMemory(t *testing.T) {
	text, want := sample()
	first, _ := csv.Parse(text)
	second, e := csv.Parse(text)
	wantApart(t, slices.Concat(first, second))
	for i, row := range first {
		overwrite(row)
		first[i] = nil
	}
	if e != api.OK || !sameRows(second, want) {
		t.Errorf("Parse = %q, %v", second, e)
	}
}

// P21.3, P21.4: the rows of an iterator may be overwritten as they come, and it may be used within itself.
func TestRowsMemory(t *testing.T) {
	text, want := sample()
	rows := csv.Rows(text)
	var all [][]string
	check := func(what string, i int, row []string, e api.Errno) {
		if e != api.OK || i >= len(want) || !slices.Equal(row, want[i]) {
			t.Errorf("%s %d is %q, %v", what, i, row, e)
		}
		overwrite(row)
		all = append(all, row)
	}
	i := 0
	for row, e := range rows {
		check("row", i, row, e)
		k := 0
		for row, e := range rows {
			check("row within a row", k, row, e)
			k++
		}
		i++
	}
	if len(all) != len(want)*(1+len(want)) {
		t.Errorf("%d rows in all", len(all))
	}
	wantApart(t, all)
}

// P21.4: a field is no piece of the text, and a text no field.
func TestFieldsAreCopies(t *testing.T) {
	text := strings.Repeat("plain,\"quoted\",", 3) + "last"
	in := ofString(text)
	rows, e := csv.Parse(text)
	if e != api.OK || len(rows) != 1 {
		t.Fatalf("Parse = %q, %v", rows, e)
	}
	for _, field := range rows[0] {
		if a := ofString(field); a.from < in.to && in.from < a.to {
			t.Errorf("%q is a piece of the text", field)
		}
	}
	whole, _ := csv.Parse(text[:5])
	if a := ofString(whole[0][0]); a.from == in.from {
		t.Error("the only field is the text")
	}
}
