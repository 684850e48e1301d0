package store

import (
	"satchel/api"
	"satchel/blocks"
	"satchel/graph"
	"satchel/links"
	"satchel/recfile"
	"satchel/record"
)

// Set is a set of ids.
type Set map[int]struct{}

// Add puts an id into the set, and tells whether it is new there.
func (s Set) Add(id int) bool {
	_, found := s[id]
	s[id] = struct{}{}
	return !found
}

// At gives the id at a place of a chain, and none in front of it and behind it.
func At(chain []int, i int) int {
	if i < 0 || i >= len(chain) {
		return record.None
	}
	return chain[i]
}

// Links gives relationships, which stand in no chain yet, as the list that layer 13 takes. Their ids ascend.
func Links(rels []api.Rel) []api.Link {
	var list []api.Link
	for _, r := range rels {
		list = append(list, make([]api.Link, r.Id-len(list))...)
		list = append(list, api.Link{Live: true, From: r.From, To: r.To})
	}
	return list
}

// CheckChain walks along a node's chain. A walk meets only relationships of the node, and none twice, so that their number tells whether it met all.
func CheckChain(list []api.Link, node, head int) {
	chain := Must(links.Walk(list, node, head))
	Expect(len(chain) == len(links.Incident(list, node)), api.ErrChain)
}

// ReadAll gives the records of a file, by ids; those that are not in use are blank. Each is checked before the next is read.
func ReadAll[T any](f *recfile.File, get func([]byte) (T, api.Errno), check func(T)) []T {
	all := make([]T, f.Count())
	for id, contents := range f.All() {
		all[id] = Must(get(contents))
		check(all[id])
	}
	return all
}

// Has tells whether a record is in use.
func (s *Store) Has(kind, id int) bool {
	_, e := s.Records[kind].Get(id)
	return e == api.OK
}

// Graph gives the graph of a store, with all its lists in order. All nodes are read before the relationships.
func (s *Store) Graph(node func(id int) api.Node, rel func(id int) api.Rel) api.Graph {
	var g api.Graph
	for id := range s.Records[Nodes].All() {
		g.Nodes = append(g.Nodes, node(id))
	}
	for id := range s.Records[Rels].All() {
		g.Rels = append(g.Rels, rel(id))
	}
	return graph.Canon(g)
}

// CheckGraph looks whether a graph is valid.
func CheckGraph(g api.Graph) {
	e, _ := graph.Check(g)
	Demand(e)
}

// Token gives the number of a name that is in the table of its kind.
func (s *Store) Token(kind int, name string) int {
	return Must(s.Tables[kind].Intern(name))
}

// Tokens gives the numbers of names that are in the table of their kind.
func (s *Store) Tokens(kind int, list []string) []int {
	var tokens []int
	for _, name := range list {
		tokens = append(tokens, s.Token(kind, name))
	}
	return tokens
}

// Name gives the name of a number.
func (s *Store) Name(kind, token int) string {
	name, found := s.Tables[kind].Name(token)
	Expect(found, api.ErrToken)
	return name
}

// Names gives the names of numbers.
func (s *Store) Names(kind int, tokens []int) []string {
	var list []string
	for _, token := range tokens {
		list = append(list, s.Name(kind, token))
	}
	return list
}

// CheckRel looks at what relationships have in both versions.
func (s *Store) CheckRel(link api.Link, token int) {
	Expect(s.Has(Nodes, link.From) && s.Has(Nodes, link.To), api.ErrEnd)
	s.Name(Types, token)
}

// Blob gives the bytes of a blob. No two owners may lead to the same.
func (s *Store) Blob(id int) []byte {
	data := Must(blocks.Load(s.Records[Blobs], id))
	Expect(s.owned.Add(id), api.ErrChain)
	return data
}

// CheckBlobs looks for a blob that was not read. All blocks stand in valid chains, so that a walk can begin only where a blob begins.
func (s *Store) CheckBlobs() {
	for id := range s.Records[Blobs].All() {
		_, owned := s.owned[id]
		_, e := blocks.Walk(s.Records[Blobs], id)
		Expect(owned || e != api.OK, api.ErrOrphan)
	}
}
