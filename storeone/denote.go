package storeone

import (
	"satchel/api"
	"satchel/blocks"
	"satchel/graph"
	"satchel/links"
	"satchel/recfile"
	"satchel/recone"
	"satchel/record"
	"satchel/tokens"
	"satchel/value"
)

// reader reads the graph of a store, and gives up at the first thing that is wrong.
type reader struct {
	store *store
	nodes map[int]api.NodeOne
	rels  map[int]api.RelOne
	props map[int]api.PropOne

	// The ids of what an owner leads to.
	ownedProps, ownedBlobs map[int]struct{}
}

// denote returns the graph of a store.
func denote(s *store) api.Graph {
	r := &reader{store: s, ownedProps: map[int]struct{}{}, ownedBlobs: map[int]struct{}{}}
	r.readRecords()
	r.checkChains()
	g := r.readGraph()
	r.checkOrphans()
	wrong, _ := graph.Check(g)
	demand(wrong)
	return g
}

func (r *reader) readRecords() {
	r.nodes = readAll(r.store.nodes, recone.GetNode, r.checkNode)
	r.rels = readAll(r.store.rels, recone.GetRel, r.checkRel)
	r.props = readAll(r.store.props, recone.GetProp, r.checkProp)
}

// readAll returns the records in use of a file. Each is checked before the next is read.
func readAll[T any](f *recfile.File, get func([]byte) (T, api.Errno), check func(T)) map[int]T {
	all := map[int]T{}
	for id, contents := range f.All() {
		stored := must(get(contents))
		check(stored)
		all[id] = stored
	}
	return all
}

func (r *reader) checkNode(n api.NodeOne) {
	namesOf(r.store.labels, n.Labels)
}

func (r *reader) checkRel(rel api.RelOne) {
	_, from := r.nodes[rel.From]
	_, to := r.nodes[rel.To]
	expect(from && to, api.ErrEnd)
	nameOf(r.store.types, rel.Type)
}

func (r *reader) checkProp(p api.PropOne) {
	nameOf(r.store.keys, p.Key)
}

func nameOf(t *tokens.Table, token int) string {
	name, found := t.Name(token)
	expect(found, api.ErrToken)
	return name
}

func namesOf(t *tokens.Table, numbers []int) []string {
	var names []string
	for _, token := range numbers {
		names = append(names, nameOf(t, token))
	}
	return names
}

// checkChains walks along the chain of each node. A walk meets only relationships of the node, and none twice, so that their number tells whether it met all.
func (r *reader) checkChains() {
	list := make([]api.Link, r.store.rels.Count())
	for id, rel := range r.rels {
		list[id] = rel.Link
	}
	for id := range r.store.nodes.All() {
		chain := must(links.Walk(list, id, r.nodes[id].Rel))
		expect(len(chain) == len(links.Incident(list, id)), api.ErrChain)
	}
}

// readGraph returns the graph, with all its lists in order.
func (r *reader) readGraph() api.Graph {
	var g api.Graph
	for id := range r.store.nodes.All() {
		n := r.nodes[id]
		labels := namesOf(r.store.labels, n.Labels)
		g.Nodes = append(g.Nodes, api.Node{Id: id, Labels: labels, Props: r.readProps(n.Prop)})
	}
	for id := range r.store.rels.All() {
		rel := r.rels[id]
		name := nameOf(r.store.types, rel.Type)
		g.Rels = append(g.Rels, api.Rel{Id: id, Type: name, From: rel.From, To: rel.To, Props: r.readProps(rel.Prop)})
	}
	return graph.Canon(g)
}

// readProps returns the properties of one owner.
func (r *reader) readProps(first int) []api.Prop {
	var props []api.Prop
	keys := map[int]struct{}{}
	previous := record.None
	for id := first; id != record.None; {
		expect(len(props) < api.MaxProps, api.ErrProps)
		p, found := r.props[id]
		expect(found, api.ErrId)
		expect(add(r.ownedProps, id) && p.Prev == previous, api.ErrChain)
		expect(add(keys, p.Key), api.ErrTwice)
		props = append(props, api.Prop{Key: nameOf(r.store.keys, p.Key), Val: r.readValue(p)})
		previous, id = id, p.Next
	}
	return props
}

// add puts an id into a set, and tells whether it is new there.
func add(set map[int]struct{}, id int) bool {
	_, found := set[id]
	set[id] = struct{}{}
	return !found
}

func (r *reader) readValue(p api.PropOne) api.Value {
	if isInline(p.Kind) {
		v := api.Value{Kind: p.Kind, Num: p.Num}
		demand(value.Check(v))
		return v
	}
	data := must(blocks.Load(r.store.blobs, p.Blob))
	expect(add(r.ownedBlobs, p.Blob), api.ErrChain)
	v := must(value.Decode(data))
	expect(v.Kind == p.Kind, api.ErrKind)
	return v
}

// checkOrphans looks for what no owner leads to. All blocks stand in valid chains, so that a walk can begin only where a blob begins.
func (r *reader) checkOrphans() {
	expect(len(r.ownedProps) == len(r.props), api.ErrOrphan)
	for id := range r.store.blobs.All() {
		_, owned := r.ownedBlobs[id]
		_, e := blocks.Walk(r.store.blobs, id)
		expect(owned || e != api.OK, api.ErrOrphan)
	}
}
