// Package textual belongs to no layer: it has what the texts that graphs are written as have in common (see shared/doc/22-cell.md, 23-table.md and 25-cypher.md).
package textual

import (
	"satchel/api"
	"satchel/graph"
	"satchel/number"
)

// The forms of bools.
const (
	True  = "true"
	False = "false"
)

// Number gives the form of a valid scalar that is not a text.
func Number(kind int, n int64) string {
	switch kind {
	case api.KindInt:
		return number.FormatInt(n)
	case api.KindFloat:
		return number.FormatFloat(uint64(n))
	}
	if n == 0 {
		return False
	}
	return True
}

// Id reads an id below limit, and tells whether s is one.
func Id(s string, limit int64) (int, bool) {
	n, e := number.ParseInt(s)
	if e != api.OK || n < 0 || n >= limit {
		return 0, false
	}
	return int(n), true
}

// Names holds names of which none may occur a second time.
type Names map[string]struct{}

// Add takes the next name, or returns what is wrong with it.
func (n Names) Add(name string) api.Errno {
	if !graph.GoodName(name) {
		return api.ErrName
	}
	if _, found := n[name]; found {
		return api.ErrTwice
	}
	n[name] = struct{}{}
	return api.OK
}

// CheckNames returns the error of the first name that is not valid, or occurs earlier.
func CheckNames(names []string) api.Errno {
	earlier := Names{}
	for _, name := range names {
		if e := earlier.Add(name); e != api.OK {
			return e
		}
	}
	return api.OK
}

// Settle gives a graph with its lists in order, if it is valid then.
func Settle(g api.Graph) (api.Graph, api.Errno) {
	g = graph.Canon(g)
	if e, _ := graph.Check(g); e != api.OK {
		return api.Graph{}, e
	}
	return g, api.OK
}
