package table

import (
	"slices"
	"strings"

	"satchel/api"
	"satchel/cell"
	"satchel/graph"
	"satchel/textual"
)

// set holds ids of which none may occur a second time.
type set map[int]struct{}

func (s set) has(id int) bool {
	_, found := s[id]
	return found
}

// add tells whether id is new.
func (s set) add(id int) bool {
	if s.has(id) {
		return false
	}
	s[id] = struct{}{}
	return true
}

// readHeader returns the keys in the first row, which stand behind the fields of head.
func readHeader(rows [][]string, head []string) ([]string, api.Errno) {
	if len(rows) == 0 || len(rows[0]) < len(head) || !slices.Equal(rows[0][:len(head)], head) {
		return nil, api.ErrHeader
	}
	keys := rows[0][len(head):]
	if textual.CheckNames(keys) != api.OK {
		return nil, api.ErrHeader
	}
	return keys, api.OK
}

// readRows reads the rows of one of the texts by read, which is given rows that begin with the fields that head names, and end with a value for each key.
func readRows[T any](rows [][]string, head []string, read func(row, keys []string) (T, api.Errno)) ([]T, api.Errno) {
	keys, e := readHeader(rows, head)
	if e != api.OK {
		return nil, e
	}
	var all []T
	for _, row := range rows[1:] {
		if len(row) != len(rows[0]) {
			return nil, api.ErrColumns
		}
		one, e := read(row, keys)
		if e != api.OK {
			return nil, e
		}
		all = append(all, one)
	}
	return all, api.OK
}

// reader reads the rows of both texts.
type reader struct {
	nodes, rels set // the ids in the rows that are read
}

// readGraph gives the graph that rows stand for, whether it is valid or not.
func readGraph(nodes, rels [][]string) (api.Graph, api.Errno) {
	r := reader{nodes: set{}, rels: set{}}
	var g api.Graph
	var e api.Errno
	if g.Nodes, e = readRows(nodes, nodeHead(), r.node); e != api.OK {
		return g, e
	}
	g.Rels, e = readRows(rels, relHead(), r.rel)
	return g, e
}

func (r reader) node(row, keys []string) (api.Node, api.Errno) {
	var n api.Node
	var e api.Errno
	if n.Id, e = newId(row[0], api.MaxNodes, r.nodes, api.ErrNodeId); e != api.OK {
		return n, e
	}
	if n.Labels, e = readLabels(row[1]); e != api.OK {
		return n, e
	}
	n.Props, e = readProps(row, keys)
	return n, e
}

func (r reader) rel(row, keys []string) (api.Rel, api.Errno) {
	rel := api.Rel{Type: row[3]}
	var e api.Errno
	if rel.Id, e = newId(row[0], api.MaxRels, r.rels, api.ErrRelId); e != api.OK {
		return rel, e
	}
	if rel.From, e = r.end(row[1]); e != api.OK {
		return rel, e
	}
	if rel.To, e = r.end(row[2]); e != api.OK {
		return rel, e
	}
	if !graph.GoodName(rel.Type) {
		return rel, api.ErrName
	}
	rel.Props, e = readProps(row, keys)
	return rel, e
}

// newId reads an id that no earlier row has; wrong is the error of a field that is no id.
func newId(field string, limit int64, earlier set, wrong api.Errno) (int, api.Errno) {
	id, right := textual.Id(field, limit)
	if !right {
		return 0, wrong
	}
	if !earlier.add(id) {
		return 0, api.ErrTwice
	}
	return id, api.OK
}

// end reads the id of a node at which a relationship starts or ends.
func (r reader) end(field string) (int, api.Errno) {
	id, right := textual.Id(field, api.MaxNodes)
	if !right || !r.nodes.has(id) {
		return 0, api.ErrEnd
	}
	return id, api.OK
}

func readLabels(field string) ([]string, api.Errno) {
	if field == "" {
		return nil, api.OK
	}
	labels := strings.Split(field, separator)
	return labels, textual.CheckNames(labels)
}

// readProps reads the values with which a row ends.
func readProps(row, keys []string) ([]api.Prop, api.Errno) {
	var props []api.Prop
	for i, field := range row[len(row)-len(keys):] {
		if field == "" {
			continue
		}
		v, e := cell.Parse(field)
		if e != api.OK {
			return nil, e
		}
		props = append(props, api.Prop{Key: keys[i], Val: v})
	}
	return props, api.OK
}
