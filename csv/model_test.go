package csv_test

import "satchel/api"

// What the model has read last.
const (
	afterBreak = iota // or nothing
	afterComma
	inPlain
	inQuoted
	afterQuote // in a quoted field: its end, or the first one of two
	afterCR
)

// model reads a text byte by byte.
type model struct {
	rows  [][]string
	row   []string
	field string
	state int
}

func (m *model) endField() {
	m.row = append(m.row, m.field)
	m.field = ""
}

func (m *model) endRow() {
	m.rows = append(m.rows, m.row)
	m.row = nil
}

// outside takes a byte that isn't in a quoted field.
func (m *model) outside(c byte) api.Errno {
	switch c {
	case '"':
		if m.state != afterBreak && m.state != afterComma {
			return api.ErrQuote
		}
		m.state = inQuoted
	case ',':
		m.endField()
		m.state = afterComma
	case 13:
		m.endField()
		m.state = afterCR
	case 10:
		return api.ErrBreak
	default:
		m.field += string([]byte{c})
		m.state = inPlain
	}
	return api.OK
}

func (m *model) take(c byte) api.Errno {
	switch m.state {
	case inQuoted:
		if c == '"' {
			m.state = afterQuote
		} else {
			m.field += string([]byte{c})
		}
		return api.OK
	case afterQuote:
		if c == '"' {
			m.field += "\""
			m.state = inQuoted
			return api.OK
		}
		if c != ',' && c != 13 && c != 10 {
			return api.ErrQuote
		}
	case afterCR:
		if c != 10 {
			return api.ErrBreak
		}
		m.endRow()
		m.state = afterBreak
		return api.OK
	}
	return m.outside(c)
}

// end takes the end of the text.
func (m *model) end() api.Errno {
	switch m.state {
	case inQuoted:
		return api.ErrQuote
	case afterCR:
		return api.ErrBreak
	case afterBreak:
		return api.OK
	}
	m.endField()
	m.endRow()
	return api.OK
}

// read gives the rows that are complete ahead of the first error, and that error.
func read(text string) ([][]string, api.Errno) {
	m := &model{}
	for i := range len(text) {
		if e := m.take(text[i]); e != api.OK {
			return m.rows, e
		}
	}
	e := m.end()
	return m.rows, e
}

// write is the text of rows that have fields.
func write(rows [][]string) string {
	var text []byte
	for _, row := range rows {
		for i, field := range row {
			if i > 0 {
				text = append(text, 44)
			}
			text = append(text, writeField(field)...)
		}
		text = append(text, 13, 10)
	}
	return string(text)
}

func writeField(field string) string {
	quoted := false
	text := []byte{34}
	for _, c := range []byte(field) {
		quoted = quoted || c == 34 || c == 44 || c == 13 || c == 10
		if c == 34 {
			text = append(text, 34)
		}
		text = append(text, c)
	}
	if !quoted {
		return field
	}
	return string(append(text, 34))
}
