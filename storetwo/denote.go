package storetwo

import (
	"satchel/api"
	"satchel/groups"
	"satchel/links"
	"satchel/record"
	"satchel/rectwo"
	"satchel/slots"
	"satchel/store"
)

// reader reads the graph of a store.
type reader struct {
	*store.Store
	files  []api.File
	nodes  []api.NodeTwo
	rels   []api.RelTwo
	groups []api.Group
	links  []api.Link // the relationships by id
	types  []int      // the tokens of their types
	read   int        // how many groups belong to nodes
	graph  api.Graph
}

func (r *reader) open() {
	r.Store = store.Open(r.files, format())
}

func (r *reader) readRecords() {
	r.nodes = store.ReadAll(r.Records[store.Nodes], rectwo.GetNode, r.checkNode)
	r.rels = store.ReadAll(r.Records[store.Rels], rectwo.GetRel, r.checkRel)
	r.groups = store.ReadAll(r.Records[store.Groups], rectwo.GetGroup, r.checkGroup)
	for _, rel := range r.rels {
		r.links = append(r.links, rel.Link)
		r.types = append(r.types, rel.Type)
	}
}

func (r *reader) checkNode(n api.NodeTwo) {
	r.Names(store.Labels, n.Labels)
}

func (r *reader) checkRel(rel api.RelTwo) {
	r.CheckRel(rel.Link, rel.Type)
}

func (r *reader) checkGroup(g api.Group) {
	store.Expect(r.Has(store.Nodes, g.Owner), api.ErrEnd)
	r.Name(store.Types, g.Type)
}

func (r *reader) checkChains() {
	for id := range r.Records[store.Nodes].All() {
		n := r.nodes[id]
		store.Expect(n.Dense == isDense(len(links.Incident(r.links, id))), api.ErrDense)
		if n.Dense {
			r.read += len(store.Must(groups.Read(r.links, r.types, r.groups, id, n.First)))
		} else {
			store.CheckChain(r.links, id, n.First)
		}
	}
}

func (r *reader) readGraph() {
	r.graph = r.Graph(r.readNode, r.readRel)
}

func (r *reader) readNode(id int) api.Node {
	n := r.nodes[id]
	return api.Node{Id: id, Labels: r.Names(store.Labels, n.Labels), Props: r.readProps(n.Slots, n.Over)}
}

func (r *reader) readRel(id int) api.Rel {
	rel := r.rels[id]
	return api.Rel{Id: id, Type: r.Name(store.Types, rel.Type), From: rel.From, To: rel.To, Props: r.readProps(rel.Slots, rel.Over)}
}

// readProps returns the properties of one owner.
func (r *reader) readProps(inline []byte, over int) []api.Prop {
	var props []api.Prop
	for _, p := range store.Must(slots.Unpack(inline, r.readOver(over))) {
		props = append(props, api.Prop{Key: r.Name(store.Keys, p.Key), Val: p.Val})
	}
	return props
}

// readOver returns what an owner has outside its slots.
func (r *reader) readOver(over int) []byte {
	if over == record.None {
		return nil
	}
	outside := r.Blob(over)
	store.Expect(len(outside) > 0, api.ErrOver)
	return outside
}

// checkOrphans looks for what no owner leads to. No two nodes have a group in common, as it has one owner, and none has a group twice.
func (r *reader) checkOrphans() {
	store.Expect(r.read == r.Records[store.Groups].Live(), api.ErrOrphan)
	r.CheckBlobs()
}

func (r *reader) checkGraph() {
	store.CheckGraph(r.graph)
}
