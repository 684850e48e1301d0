package storeone

import (
	"satchel/api"
	"satchel/blocks"
	"satchel/graph"
	"satchel/links"
	"satchel/recone"
	"satchel/record"
	"satchel/tokens"
	"satchel/value"
)

// build makes a store of a valid graph, whose lists are in order.
func build(g api.Graph) *store {
	s := &store{
		labels: newTable(g, labelsFile),
		types:  newTable(g, typesFile),
		keys:   newTable(g, keysFile),
		nodes:  newRecords(nodesFile),
		rels:   newRecords(relsFile),
		props:  newRecords(propsFile),
		blobs:  newRecords(blobsFile),
	}
	rels := byId(g.Rels)
	for _, n := range g.Nodes {
		order := links.Incident(rels, n.Id)
		rels = must(links.Thread(rels, n.Id, order))
		s.putNode(n, at(order, 0))
	}
	for _, r := range g.Rels {
		s.putRel(r, rels[r.Id])
	}
	return s
}

// newTable makes a table of the names in a graph. The kinds of tables are the sorts of names.
func newTable(g api.Graph, file int) *tokens.Table {
	kind := shapes[file].kind
	t := must(tokens.New(kind, version))
	for _, name := range graph.Names(g, kind) {
		must(t.Intern(name))
	}
	return t
}

// byId returns relationships that stand in no chain yet, as the list that layer 13 takes.
func byId(rels []api.Rel) []api.Link {
	var list []api.Link
	for _, r := range rels {
		list = append(list, make([]api.Link, r.Id-len(list))...)
		list = append(list, api.Link{Live: true, From: r.From, To: r.To})
	}
	return list
}

// at returns the id at a place of a chain, and none in front of it and behind it.
func at(chain []int, i int) int {
	if i < 0 || i >= len(chain) {
		return record.None
	}
	return chain[i]
}

// putNode stores a node, whose first relationship is head.
func (s *store) putNode(n api.Node, head int) {
	stored := api.NodeOne{Rel: head, Prop: s.putProps(n.Props)}
	for _, label := range n.Labels {
		stored.Labels = append(stored.Labels, must(s.labels.Intern(label)))
	}
	demand(s.nodes.Put(n.Id, must(recone.PutNode(stored))))
}

func (s *store) putRel(r api.Rel, link api.Link) {
	stored := api.RelOne{Link: link, Type: must(s.types.Intern(r.Type)), Prop: s.putProps(r.Props)}
	demand(s.rels.Put(r.Id, must(recone.PutRel(stored))))
}

// putProps stores the properties of one owner as a chain, and returns the id of the first.
func (s *store) putProps(props []api.Prop) int {
	ids := make([]int, len(props))
	for i := range ids {
		ids[i] = must(s.props.Alloc())
	}
	for i, p := range props {
		stored := api.PropOne{
			Key:  must(s.keys.Intern(p.Key)),
			Kind: p.Val.Kind,
			Num:  p.Val.Num,
			Blob: s.putBlob(p.Val),
			Prev: at(ids, i-1),
			Next: at(ids, i+1),
		}
		demand(s.props.Put(ids[i], must(recone.PutProp(stored))))
	}
	return at(ids, 0)
}

// isInline tells whether a property's record has room for a value of this kind.
func isInline(kind int) bool {
	return kind < api.KindText
}

// putBlob stores a value that isn't inline, and returns the id of its blob.
func (s *store) putBlob(v api.Value) int {
	if isInline(v.Kind) {
		return record.None
	}
	return must(blocks.Store(s.blobs, must(value.Encode(v))))
}
