package csv

import (
	"strings"

	"satchel/api"
)

// reader reads a text from left to right.
type reader struct {
	rest string // what is not read yet
}

// row reads the next row with its line break.
func (r *reader) row() ([]string, api.Errno) {
	var fields []string
	for more := true; more; {
		field, e := r.field()
		if e != api.OK {
			return nil, e
		}
		fields = append(fields, field)
		more, e = r.separator()
		if e != api.OK {
			return nil, e
		}
	}
	return fields, api.OK
}

// separator reads what stands behind a field, and tells whether the row goes on.
func (r *reader) separator() (bool, api.Errno) {
	switch {
	case r.rest == "":
		return false, api.OK
	case r.skip(comma):
		return true, api.OK
	case r.skip(lineBreak):
		return false, api.OK
	case strings.ContainsAny(r.rest[:1], lineBreak): // half of one
		return false, api.ErrBreak
	}
	// A quotation mark in a field that is not quoted, or anything behind one that is.
	return false, api.ErrQuote
}

// skip reads a part, if it comes next.
func (r *reader) skip(part string) bool {
	rest, found := strings.CutPrefix(r.rest, part)
	r.rest = rest
	return found
}

func (r *reader) field() (string, api.Errno) {
	if r.skip(quote) {
		return r.quoted()
	}
	return r.plain(), api.OK
}

// plain reads a field that is not quoted, up to a byte that it can't have.
func (r *reader) plain() string {
	end := strings.IndexAny(r.rest, special)
	if end < 0 {
		end = len(r.rest)
	}
	// A piece of the text would keep all of it from being freed.
	field := strings.Clone(r.rest[:end])
	r.rest = r.rest[end:]
	return field
}

// quoted reads a field whose first quotation mark is read.
func (r *reader) quoted() (string, api.Errno) {
	var field strings.Builder
	for i := 0; i < len(r.rest); i++ {
		switch r.rest[i] {
		case quote[0]:
			if !strings.HasPrefix(r.rest[i+1:], quote) {
				r.rest = r.rest[i+1:]
				return field.String(), api.OK
			}
			i++
			fallthrough
		default:
			field.WriteByte(r.rest[i])
		}
	}
	return "", api.ErrQuote
}
