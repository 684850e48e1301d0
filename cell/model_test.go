package cell_test

import (
	"regexp"
	"strings"

	"satchel/api"
	"satchel/number"
	"satchel/value"
)

// letters are those of the kinds, in their order.
const letters = "bifs"

var (
	beginning = regexp.MustCompile(`(?s)^([bifs])(\[\])?:(.*)$`)
	textAhead = regexp.MustCompile(`(?s)^((?:[^\\;]|\\[\\;])*);(.*)$`)
	escaped   = regexp.MustCompile(`\\([\\;])`)
)

// read is what the document says of a cell.
func read(s string) (api.Value, api.Errno) {
	parts := beginning.FindStringSubmatch(s)
	if parts == nil {
		return api.Value{}, api.ErrCell
	}
	v := api.Value{Kind: 1 + strings.Index(letters, parts[1])}
	element := v.Kind
	if parts[2] != "" {
		v.Kind += 4
	}
	var e api.Errno
	switch v.Kind {
	case 4:
		v.Text = parts[3]
	case 8:
		v.Texts, e = readTexts(parts[3])
	case 5, 6, 7:
		v.Nums, e = readNums(element, parts[3])
	default:
		v.Num, e = readNum(element, parts[3])
	}
	if e == api.OK {
		e = value.Check(v)
	}
	if e != api.OK {
		return api.Value{}, e
	}
	return v, api.OK
}

func readNum(element int, s string) (int64, api.Errno) {
	switch element {
	case 2:
		return number.ParseInt(s)
	case 3:
		bits, e := number.ParseFloat(s)
		return int64(bits), e
	}
	n, found := map[string]int64{"false": 0, "true": 1}[s]
	if !found {
		return 0, api.ErrCell
	}
	return n, api.OK
}

func readNums(element int, s string) ([]int64, api.Errno) {
	parts := strings.SplitAfter(s, ";")
	if parts[len(parts)-1] == "" {
		parts = parts[:len(parts)-1]
	}
	var nums []int64
	for _, part := range parts {
		if !strings.HasSuffix(part, ";") {
			return nil, api.ErrCell
		}
		n, e := readNum(element, part[:len(part)-1])
		if e != api.OK {
			return nil, e
		}
		nums = append(nums, n)
	}
	return nums, api.OK
}

func readTexts(s string) ([]string, api.Errno) {
	var texts []string
	for s != "" {
		parts := textAhead.FindStringSubmatch(s)
		if parts == nil {
			return nil, api.ErrCell
		}
		texts = append(texts, escaped.ReplaceAllString(parts[1], "$1"))
		s = parts[2]
	}
	return texts, api.OK
}

// write is the form of a valid value.
func write(v api.Value) string {
	form := letters[(v.Kind-1)%4 : (v.Kind-1)%4+1]
	if v.Kind <= 4 {
		if v.Kind == 4 {
			return form + ":" + v.Text
		}
		return form + ":" + writeNum(v.Kind, v.Num)
	}
	form += "[]:"
	for _, n := range v.Nums {
		form += writeNum(v.Kind-4, n) + ";"
	}
	for _, text := range v.Texts {
		for _, c := range []byte(text) {
			if c == ';' || c == '\\' {
				form += "\\"
			}
			form += string([]byte{c})
		}
		form += ";"
	}
	return form
}

func writeNum(element int, n int64) string {
	switch element {
	case 2:
		return number.FormatInt(n)
	case 3:
		return number.FormatFloat(uint64(n))
	}
	return []string{"false", "true"}[n]
}
