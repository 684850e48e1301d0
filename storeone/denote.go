package storeone

import (
	"satchel/api"
	"satchel/recone"
	"satchel/record"
	"satchel/store"
	"satchel/value"
)

// reader reads the graph of a store.
type reader struct {
	*store.Store
	nodes []api.NodeOne
	rels  []api.RelOne
	props []api.PropOne
	owned store.Set // the properties to which an owner leads
}

// denote returns the graph of a store.
func denote(s *store.Store) api.Graph {
	r := &reader{Store: s, owned: store.Set{}}
	r.readRecords()
	r.checkChains()
	g := r.Graph(r.readNode, r.readRel)
	r.checkOrphans()
	store.CheckGraph(g)
	return g
}

func (r *reader) readRecords() {
	r.nodes = store.ReadAll(r.Records[store.Nodes], recone.GetNode, r.checkNode)
	r.rels = store.ReadAll(r.Records[store.Rels], recone.GetRel, r.checkRel)
	r.props = store.ReadAll(r.Records[store.Props], recone.GetProp, r.checkProp)
}

func (r *reader) checkNode(n api.NodeOne) {
	r.Names(store.Labels, n.Labels)
}

func (r *reader) checkRel(rel api.RelOne) {
	r.CheckRel(rel.Link, rel.Type)
}

func (r *reader) checkProp(p api.PropOne) {
	r.Name(store.Keys, p.Key)
}

func (r *reader) checkChains() {
	list := make([]api.Link, len(r.rels))
	for id, rel := range r.rels {
		list[id] = rel.Link
	}
	for id := range r.Records[store.Nodes].All() {
		store.CheckChain(list, id, r.nodes[id].Rel)
	}
}

func (r *reader) readNode(id int) api.Node {
	n := r.nodes[id]
	return api.Node{Id: id, Labels: r.Names(store.Labels, n.Labels), Props: r.readProps(n.Prop)}
}

func (r *reader) readRel(id int) api.Rel {
	rel := r.rels[id]
	return api.Rel{Id: id, Type: r.Name(store.Types, rel.Type), From: rel.From, To: rel.To, Props: r.readProps(rel.Prop)}
}

// readProps returns the properties of one owner.
func (r *reader) readProps(first int) []api.Prop {
	var props []api.Prop
	keys := store.Set{}
	previous := record.None
	for id := first; id != record.None; {
		store.Expect(len(props) < api.MaxProps, api.ErrProps)
		store.Expect(r.Has(store.Props, id), api.ErrId)
		p := r.props[id]
		store.Expect(r.owned.Add(id) && p.Prev == previous, api.ErrChain)
		store.Expect(keys.Add(p.Key), api.ErrTwice)
		props = append(props, api.Prop{Key: r.Name(store.Keys, p.Key), Val: r.readValue(p)})
		previous, id = id, p.Next
	}
	return props
}

func (r *reader) readValue(p api.PropOne) api.Value {
	if isInline(p.Kind) {
		v := api.Value{Kind: p.Kind, Num: p.Num}
		store.Demand(value.Check(v))
		return v
	}
	v := store.Must(value.Decode(r.Blob(p.Blob)))
	store.Expect(v.Kind == p.Kind, api.ErrKind)
	return v
}

// checkOrphans looks for what no owner leads to.
func (r *reader) checkOrphans() {
	store.Expect(len(r.owned) == r.Records[store.Props].Live(), api.ErrOrphan)
	r.CheckBlobs()
}
