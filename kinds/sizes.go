package kinds

import (
	"satchel/api"
	"satchel/graph"
)

// sizes are the numbers of a graph on which the bytes of its files depend.
type sizes struct {
	// A store has a record for each id up to the greatest.
	nodeRecords, relRecords int
	nodes, rels             int
	props                   int
	// names are the labels, the types and the keys.
	names  int
	weight int
}

// measure gives the sizes of a valid graph, whose last ids are the greatest.
func measure(g api.Graph) sizes {
	s := sizes{nodes: len(g.Nodes), rels: len(g.Rels), weight: graph.Weight(g)}
	for _, n := range g.Nodes {
		s.nodeRecords = n.Id + 1
		s.props += len(n.Props)
	}
	for _, r := range g.Rels {
		s.relRecords = r.Id + 1
		s.props += len(r.Props)
	}
	for sort := 1; sort <= 3; sort++ {
		s.names += len(graph.Names(g, sort))
	}
	return s
}
