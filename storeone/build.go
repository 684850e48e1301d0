package storeone

import (
	"satchel/api"
	"satchel/blocks"
	"satchel/links"
	"satchel/recone"
	"satchel/record"
	"satchel/store"
	"satchel/value"
)

// builder makes a store.
type builder struct {
	*store.Store
}

// build makes a store of a valid graph, whose lists are in order.
func build(g api.Graph) *store.Store {
	b := builder{store.New(g, format())}
	rels := store.Links(g.Rels)
	for _, n := range g.Nodes {
		order := links.Incident(rels, n.Id)
		rels = store.Must(links.Thread(rels, n.Id, order))
		b.putNode(n, store.At(order, 0))
	}
	for _, r := range g.Rels {
		b.putRel(r, rels[r.Id])
	}
	return b.Store
}

// putNode stores a node, whose first relationship is head.
func (b builder) putNode(n api.Node, head int) {
	stored := api.NodeOne{Rel: head, Prop: b.putProps(n.Props), Labels: b.Tokens(store.Labels, n.Labels)}
	store.Demand(b.Records[store.Nodes].Put(n.Id, store.Must(recone.PutNode(stored))))
}

func (b builder) putRel(r api.Rel, link api.Link) {
	stored := api.RelOne{Link: link, Type: b.Token(store.Types, r.Type), Prop: b.putProps(r.Props)}
	store.Demand(b.Records[store.Rels].Put(r.Id, store.Must(recone.PutRel(stored))))
}

// putProps stores the properties of one owner as a chain, and returns the id of the first.
func (b builder) putProps(props []api.Prop) int {
	f := b.Records[store.Props]
	ids := make([]int, len(props))
	for i := range ids {
		ids[i] = store.Must(f.Alloc())
	}
	for i, p := range props {
		stored := api.PropOne{
			Key:  b.Token(store.Keys, p.Key),
			Kind: p.Val.Kind,
			Num:  p.Val.Num,
			Blob: b.putBlob(p.Val),
			Prev: store.At(ids, i-1),
			Next: store.At(ids, i+1),
		}
		store.Demand(f.Put(ids[i], store.Must(recone.PutProp(stored))))
	}
	return store.At(ids, 0)
}

// isInline tells whether a property's record has room for a value of this kind.
func isInline(kind int) bool {
	return kind < api.KindText
}

// putBlob stores a value that isn't inline, and returns the id of its blob.
func (b builder) putBlob(v api.Value) int {
	if isInline(v.Kind) {
		return record.None
	}
	return store.Must(blocks.Store(b.Records[store.Blobs], store.Must(value.Encode(v))))
}
