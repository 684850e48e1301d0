package storetwo

import (
	"satchel/api"
	"satchel/blocks"
	"satchel/groups"
	"satchel/links"
	"satchel/record"
	"satchel/rectwo"
	"satchel/slots"
	"satchel/store"
)

// builder makes a store of a graph.
type builder struct {
	*store.Store
	graph api.Graph
	links []api.Link // the relationships by id, with the chains that were laid so far
	types []int      // the tokens of their types
}

func (b *builder) checkGraph() {
	store.CheckGraph(b.graph)
}

// start makes a store without records.
func (b *builder) start() {
	b.Store = store.New(b.graph, format())
	b.links = store.Links(b.graph.Rels)
	b.types = make([]int, len(b.links))
	for _, r := range b.graph.Rels {
		b.types[r.Id] = b.Token(store.Types, r.Type)
	}
}

// putNodes stores the nodes, and lays the chains of all of them.
func (b *builder) putNodes() {
	for _, n := range b.graph.Nodes {
		stored := api.NodeTwo{Labels: b.Tokens(store.Labels, n.Labels)}
		stored.Dense, stored.First = b.chain(n.Id)
		stored.Slots, stored.Over = b.putProps(n.Props, api.NodeSlots)
		store.Demand(b.Records[store.Nodes].Put(n.Id, store.Must(rectwo.PutNode(stored))))
	}
}

func (b *builder) putRels() {
	for _, r := range b.graph.Rels {
		stored := api.RelTwo{Link: b.links[r.Id], Type: b.types[r.Id]}
		stored.Slots, stored.Over = b.putProps(r.Props, api.RelSlots)
		store.Demand(b.Records[store.Rels].Put(r.Id, store.Must(rectwo.PutRel(stored))))
	}
}

// chain lays a node's relationships into one chain or, if it's dense, into those of its groups. It returns the first of its chain or of its groups.
func (b *builder) chain(node int) (dense bool, first int) {
	order := links.Incident(b.links, node)
	if isDense(len(order)) {
		return true, b.putGroups(node)
	}
	b.links = store.Must(links.Thread(b.links, node, order))
	return false, store.At(order, 0)
}

// putGroups stores the groups of a node, which has some, and returns the id of the first.
func (b *builder) putGroups(node int) int {
	f := b.Records[store.Groups]
	first := f.Count()
	threaded, made, e := groups.Make(b.links, b.types, node, first)
	store.Demand(e)
	b.links = threaded
	for i, g := range made {
		store.Demand(f.Put(first+i, store.Must(rectwo.PutGroup(g))))
	}
	return first
}

// putProps packs the properties of one owner into slots, and returns these, and where to find what doesn't fit.
func (b *builder) putProps(props []api.Prop, room int) (inline []byte, over int) {
	var list []api.KeyVal
	for _, p := range props {
		list = append(list, api.KeyVal{Key: b.Token(store.Keys, p.Key), Val: p.Val})
	}
	inline, outside, e := slots.Pack(list, room)
	store.Demand(e)
	if len(outside) == 0 {
		return inline, record.None
	}
	return inline, store.Must(blocks.Store(b.Records[store.Blobs], outside))
}
