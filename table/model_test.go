package table_test

import (
	"cmp"
	"regexp"
	"slices"
	"strconv"
	"strings"

	"satchel/api"
	"satchel/cell"
	"satchel/csv"
	"satchel/graph"
)

var (
	goodName = regexp.MustCompile(`^[A-Za-z_][A-Za-z0-9_]{0,39}$`)
	goodId   = regexp.MustCompile(`^(0|[1-9][0-9]{0,3})$`)
)

// read is what the document says of the two texts. It calls the layers below for what is said to be their error.
func read(nodes, rels string) (api.Graph, api.Errno) {
	if len(nodes) > 16777216 || len(rels) > 16777216 {
		return api.Graph{}, api.ErrLong
	}
	a, e := csv.Parse(nodes)
	if e != api.OK {
		return api.Graph{}, e
	}
	b, e := csv.Parse(rels)
	if e != api.OK {
		return api.Graph{}, e
	}
	var g api.Graph
	if e := readNodes(&g, a); e != api.OK {
		return api.Graph{}, e
	}
	if e := readRels(&g, b); e != api.OK {
		return api.Graph{}, e
	}
	sortGraph(g)
	if e, _ := graph.Check(g); e != api.OK {
		return api.Graph{}, e
	}
	return g, api.OK
}

func readNodes(g *api.Graph, rows [][]string) api.Errno {
	if !goodHeader(rows, ":ID", ":LABEL") {
		return api.ErrHeader
	}
	for _, row := range rows[1:] {
		if len(row) != len(rows[0]) {
			return api.ErrColumns
		}
		id := idOf(row[0], 1024)
		if id < 0 {
			return api.ErrNodeId
		}
		if hasNode(*g, id) {
			return api.ErrTwice
		}
		labels, e := labelsOf(row[1])
		if e != api.OK {
			return e
		}
		props, e := propsOf(rows[0][2:], row[2:])
		if e != api.OK {
			return e
		}
		g.Nodes = append(g.Nodes, api.Node{Id: id, Labels: labels, Props: props})
	}
	return api.OK
}

func readRels(g *api.Graph, rows [][]string) api.Errno {
	if !goodHeader(rows, ":ID", ":START", ":END", ":TYPE") {
		return api.ErrHeader
	}
	for _, row := range rows[1:] {
		if len(row) != len(rows[0]) {
			return api.ErrColumns
		}
		id, from, to := idOf(row[0], 2048), idOf(row[1], 1024), idOf(row[2], 1024)
		if id < 0 {
			return api.ErrRelId
		}
		if slices.ContainsFunc(g.Rels, func(r api.Rel) bool { return r.Id == id }) {
			return api.ErrTwice
		}
		if !hasNode(*g, from) || !hasNode(*g, to) {
			return api.ErrEnd
		}
		if !goodName.MatchString(row[3]) {
			return api.ErrName
		}
		props, e := propsOf(rows[0][4:], row[4:])
		if e != api.OK {
			return e
		}
		g.Rels = append(g.Rels, api.Rel{Id: id, Type: row[3], From: from, To: to, Props: props})
	}
	return api.OK
}

func goodHeader(rows [][]string, head ...string) bool {
	if len(rows) == 0 || len(rows[0]) < len(head) {
		return false
	}
	for i, field := range rows[0] {
		if i < len(head) && field != head[i] {
			return false
		}
		if i >= len(head) && (!goodName.MatchString(field) || slices.Contains(rows[0][:i], field)) {
			return false
		}
	}
	return true
}

// idOf gives -1 for a field that isn't the form of an id.
func idOf(field string, limit int) int {
	if !goodId.MatchString(field) {
		return -1
	}
	n, _ := strconv.Atoi(field)
	if n >= limit {
		return -1
	}
	return n
}

func hasNode(g api.Graph, id int) bool {
	return slices.ContainsFunc(g.Nodes, func(n api.Node) bool { return n.Id == id })
}

func labelsOf(field string) ([]string, api.Errno) {
	var labels []string
	for rest, more := field, field != ""; more; {
		var label string
		label, rest, more = strings.Cut(rest, ";")
		if !goodName.MatchString(label) {
			return nil, api.ErrName
		}
		if slices.Contains(labels, label) {
			return nil, api.ErrTwice
		}
		labels = append(labels, label)
	}
	return labels, api.OK
}

func propsOf(keys, fields []string) ([]api.Prop, api.Errno) {
	var props []api.Prop
	for i, key := range keys {
		if fields[i] != "" {
			v, e := cell.Parse(fields[i])
			if e != api.OK {
				return nil, e
			}
			props = append(props, api.Prop{Key: key, Val: v})
		}
	}
	return props, api.OK
}

func sortGraph(g api.Graph) {
	byKey := func(a, b api.Prop) int { return strings.Compare(a.Key, b.Key) }
	slices.SortFunc(g.Nodes, func(a, b api.Node) int { return cmp.Compare(a.Id, b.Id) })
	slices.SortFunc(g.Rels, func(a, b api.Rel) int { return cmp.Compare(a.Id, b.Id) })
	for _, n := range g.Nodes {
		slices.Sort(n.Labels)
		slices.SortFunc(n.Props, byKey)
	}
	for _, r := range g.Rels {
		slices.SortFunc(r.Props, byKey)
	}
}

// sheets are the rows of the two texts.
type sheets struct {
	nodes, rels [][]string
}

// write gives the rows of a valid graph.
func write(g api.Graph) sheets {
	var nodeKeys, relKeys []string
	for _, n := range g.Nodes {
		nodeKeys = append(nodeKeys, keysOf(n.Props)...)
	}
	for _, r := range g.Rels {
		relKeys = append(relKeys, keysOf(r.Props)...)
	}
	slices.Sort(nodeKeys)
	slices.Sort(relKeys)
	nodeKeys, relKeys = slices.Compact(nodeKeys), slices.Compact(relKeys)
	s := sheets{
		nodes: [][]string{slices.Concat([]string{":ID", ":LABEL"}, nodeKeys)},
		rels:  [][]string{slices.Concat([]string{":ID", ":START", ":END", ":TYPE"}, relKeys)},
	}
	for _, n := range g.Nodes {
		s.nodes = append(s.nodes, slices.Concat([]string{strconv.Itoa(n.Id), strings.Join(n.Labels, ";")}, fieldsOf(n.Props, nodeKeys)))
	}
	for _, r := range g.Rels {
		s.rels = append(s.rels, slices.Concat([]string{strconv.Itoa(r.Id), strconv.Itoa(r.From), strconv.Itoa(r.To), r.Type}, fieldsOf(r.Props, relKeys)))
	}
	return s
}

func keysOf(props []api.Prop) []string {
	var keys []string
	for _, p := range props {
		keys = append(keys, p.Key)
	}
	return keys
}

func fieldsOf(props []api.Prop, keys []string) []string {
	var fields []string
	for _, key := range keys {
		field := ""
		for _, p := range props {
			if p.Key == key {
				field, _ = cell.Print(p.Val)
			}
		}
		fields = append(fields, field)
	}
	return fields
}

// texts gives the rows as texts.
func (s sheets) texts() (string, string) {
	nodes, _ := csv.Print(s.nodes)
	rels, _ := csv.Print(s.rels)
	return nodes, rels
}
