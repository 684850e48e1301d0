package archive

import (
	"satchel/api"
	"satchel/value"
	"satchel/wire"
)

// The widths of numbers in the data of nodes and relationships.
const (
	idWidth    = 4
	countWidth = 1 // also that of a name's length
	valueWidth = 2 // of a value's length
)

// writer writes the data of a node or a relationship of a valid graph.
type writer struct {
	*wire.Writer
}

func (w writer) id(id int) {
	w.Num(idWidth, uint64(id))
}

func (w writer) count(n int) {
	w.Num(countWidth, uint64(n))
}

func (w writer) name(name string) {
	w.count(len(name))
	w.Str(name)
}

func (w writer) names(names []string) {
	w.count(len(names))
	for _, name := range names {
		w.name(name)
	}
}

func (w writer) props(props []api.Prop) {
	w.count(len(props))
	for _, p := range props {
		w.name(p.Key)
		b, _ := value.Encode(p.Val)
		w.Num(valueWidth, uint64(len(b)))
		w.Raw(b)
	}
}

func nodeData(n api.Node) []byte {
	w := writer{wire.NewWriter()}
	w.id(n.Id)
	w.names(n.Labels)
	w.props(n.Props)
	return w.Bytes()
}

func relData(r api.Rel) []byte {
	w := writer{wire.NewWriter()}
	w.id(r.Id)
	w.id(r.From)
	w.id(r.To)
	w.name(r.Type)
	w.props(r.Props)
	return w.Bytes()
}

// reader reads the data of a node or a relationship.
type reader struct {
	*wire.Reader
	wrong bool // layer 4 refused a value
}

func (r *reader) id() int {
	return int(r.Num(idWidth))
}

func (r *reader) count() int {
	return int(r.Num(countWidth))
}

func (r *reader) name() string {
	return string(r.Raw(r.count()))
}

func (r *reader) names() []string {
	var names []string
	for range r.count() {
		names = append(names, r.name())
	}
	return names
}

func (r *reader) value() api.Value {
	v, e := value.Decode(r.Raw(int(r.Num(valueWidth))))
	r.wrong = r.wrong || e != api.OK
	return v
}

func (r *reader) props() []api.Prop {
	var props []api.Prop
	for range r.count() {
		props = append(props, api.Prop{Key: r.name(), Val: r.value()})
	}
	return props
}

// end tells whether all of the data could be read.
func (r *reader) end() api.Errno {
	if r.wrong || r.End() != api.OK {
		return api.ErrRecord
	}
	return api.OK
}

func nodeOf(data []byte) (api.Node, api.Errno) {
	r := &reader{Reader: wire.NewReader(data)}
	n := api.Node{Id: r.id(), Labels: r.names(), Props: r.props()}
	return n, r.end()
}

func relOf(data []byte) (api.Rel, api.Errno) {
	r := &reader{Reader: wire.NewReader(data)}
	rel := api.Rel{Id: r.id(), From: r.id(), To: r.id(), Type: r.name(), Props: r.props()}
	return rel, r.end()
}
