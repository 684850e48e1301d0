package cypher

import (
	"strings"

	"satchel/api"
	"satchel/graph"
	"satchel/textual"
	"satchel/value"
)

// pattern is a part of a script that creates a node or a relationship.
type pattern interface {
	create(c *creator) api.Errno
}

// node is the pattern of a node.
type node struct {
	word   string
	labels []string
	props  []api.Prop
}

// relation is the pattern of a relationship.
type relation struct {
	from, word, kind, to string
	props                []api.Prop
}

// creator holds what patterns have created.
type creator struct {
	graph api.Graph
	nodes [api.MaxNodes]bool // which ids are in the graph
	rels  [api.MaxRels]bool
}

// create gives the graph that patterns create, whether it is valid or not.
func create(patterns []pattern) (api.Graph, api.Errno) {
	c := &creator{}
	for _, p := range patterns {
		if e := p.create(c); e != api.OK {
			return api.Graph{}, e
		}
	}
	return c.graph, api.OK
}

// readId reads the word of an id below limit, and tells whether it is one.
func readId(word, letter string, limit int64) (int, bool) {
	form, found := strings.CutPrefix(word, letter)
	if !found {
		return 0, false
	}
	return textual.Id(form, limit)
}

func checkProps(props []api.Prop) api.Errno {
	earlier := textual.Names{}
	for _, p := range props {
		if e := earlier.Add(p.Key); e != api.OK {
			return e
		}
		if e := value.Check(p.Val); e != api.OK {
			return e
		}
	}
	return api.OK
}

func (n node) create(c *creator) api.Errno {
	id, right := readId(n.word, nodeLetter, api.MaxNodes)
	if !right {
		return api.ErrNodeId
	}
	if c.nodes[id] {
		return api.ErrTwice
	}
	if e := textual.CheckNames(n.labels); e != api.OK {
		return e
	}
	if e := checkProps(n.props); e != api.OK {
		return e
	}
	c.nodes[id] = true
	c.graph.Nodes = append(c.graph.Nodes, api.Node{Id: id, Labels: n.labels, Props: n.props})
	return api.OK
}

func (r relation) create(c *creator) api.Errno {
	from, e := c.end(r.from)
	if e != api.OK {
		return e
	}
	id, right := readId(r.word, relLetter, api.MaxRels)
	if !right {
		return api.ErrRelId
	}
	if c.rels[id] {
		return api.ErrTwice
	}
	if !graph.GoodName(r.kind) {
		return api.ErrName
	}
	if e := checkProps(r.props); e != api.OK {
		return e
	}
	to, e := c.end(r.to)
	if e != api.OK {
		return e
	}
	c.rels[id] = true
	c.graph.Rels = append(c.graph.Rels, api.Rel{Id: id, Type: r.kind, From: from, To: to, Props: r.props})
	return api.OK
}

// end reads the word of a node at which a relationship starts or ends.
func (c *creator) end(word string) (int, api.Errno) {
	id, right := readId(word, nodeLetter, api.MaxNodes)
	if !right {
		return 0, api.ErrNodeId
	}
	if !c.nodes[id] {
		return 0, api.ErrEnd
	}
	return id, api.OK
}
