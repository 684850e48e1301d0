package archive_test

import (
	"bytes"
	"encoding/binary"
	"hash/crc32"
	"slices"

	"satchel/api"
	"satchel/graph"
	"satchel/value"
)

// num are the lowest bytes of n, most significant first.
func num(width, n int) []byte {
	return binary.BigEndian.AppendUint64(nil, uint64(n))[8-width:]
}

func nameBytes(name string) []byte {
	return append(num(1, len(name)), name...)
}

func propsBytes(props []api.Prop) []byte {
	b := num(1, len(props))
	for _, p := range props {
		v, _ := value.Encode(p.Val)
		b = append(b, nameBytes(p.Key)...)
		b = append(append(b, num(2, len(v))...), v...)
	}
	return b
}

func nodeBytes(n api.Node) []byte {
	b := append(num(4, n.Id), num(1, len(n.Labels))...)
	for _, label := range n.Labels {
		b = append(b, nameBytes(label)...)
	}
	return append(b, propsBytes(n.Props)...)
}

func relBytes(r api.Rel) []byte {
	return slices.Concat(num(4, r.Id), num(4, r.From), num(4, r.To), nameBytes(r.Type), propsBytes(r.Props))
}

// part is a frame of an archive. What is wrong with it stands in its last fields.
type part struct {
	kind     int
	data     []byte
	wrongSum uint32
	length   func(int) int // what stands in place of the length; the checksum is that of it
}

// bytes puts a frame together, with a checksum that is not the program's.
func (p part) bytes() []byte {
	length := len(p.data)
	if p.length != nil {
		length = p.length(length)
	}
	b := slices.Concat(num(1, p.kind), num(4, length), p.data)
	return binary.BigEndian.AppendUint32(b, crc32.ChecksumIEEE(b)^p.wrongSum)
}

// body are the frames of an archive but for the last.
func body(g api.Graph) []part {
	parts := []part{{kind: 1, data: []byte{0, 1}}}
	for _, n := range g.Nodes {
		parts = append(parts, part{kind: 2, data: nodeBytes(n)})
	}
	for _, r := range g.Rels {
		parts = append(parts, part{kind: 3, data: relBytes(r)})
	}
	return parts
}

// weight is the sum of the sizes of all values.
func weight(g api.Graph) int {
	sum := 0
	add := func(props []api.Prop) {
		for _, p := range props {
			v, _ := value.Encode(p.Val)
			sum += len(v)
		}
	}
	for _, n := range g.Nodes {
		add(n.Props)
	}
	for _, r := range g.Rels {
		add(r.Props)
	}
	return sum
}

// trailBytes are the data of the last frame, behind some bytes.
func trailBytes(g api.Graph, ahead []byte) []byte {
	return slices.Concat(num(4, len(g.Nodes)), num(4, len(g.Rels)), num(4, weight(g)), num(4, int(crc32.ChecksumIEEE(ahead))))
}

// write are the pieces of the archive of any graph that has its numbers in range, valid or not.
func write(g api.Graph) [][]byte {
	pieces := [][]byte{[]byte("SATCHEL1")}
	for _, p := range body(g) {
		pieces = append(pieces, p.bytes())
	}
	return append(pieces, part{kind: 4, data: trailBytes(g, bytes.Join(pieces, nil))}.bytes())
}

func written(g api.Graph) []byte {
	return bytes.Join(write(g), nil)
}

// cursor reads the data of a record.
type cursor struct {
	b     []byte
	wrong bool
}

func (c *cursor) take(n int) []byte {
	if n > len(c.b) {
		c.wrong = true
		c.b = nil
	}
	if c.wrong {
		return make([]byte, 8)
	}
	b := c.b[:n]
	c.b = c.b[n:]
	return b
}

func (c *cursor) num(width int) int {
	n := 0
	for _, b := range c.take(width)[:width] {
		n = 256*n + int(b)
	}
	return n
}

func (c *cursor) name() string {
	return string(c.take(c.num(1)))
}

func (c *cursor) props() []api.Prop {
	var props []api.Prop
	for n := c.num(1); n > 0 && !c.wrong; n-- {
		p := api.Prop{Key: c.name()}
		v, e := value.Decode(c.take(c.num(2)))
		c.wrong = c.wrong || e != api.OK
		p.Val = v
		props = append(props, p)
	}
	return props
}

func (c *cursor) node() api.Node {
	n := api.Node{Id: c.num(4)}
	for count := c.num(1); count > 0 && !c.wrong; count-- {
		n.Labels = append(n.Labels, c.name())
	}
	n.Props = c.props()
	return n
}

func (c *cursor) rel() api.Rel {
	r := api.Rel{}
	r.Id = c.num(4)
	r.From = c.num(4)
	r.To = c.num(4)
	r.Type = c.name()
	r.Props = c.props()
	return r
}

func (c *cursor) end() api.Errno {
	if c.wrong || len(c.b) > 0 {
		return api.ErrRecord
	}
	return api.OK
}

// scan takes the steps 1 to 4 of P20.3.
func scan(b []byte) (api.Graph, api.Errno) {
	if len(b) > 16777216 {
		return api.Graph{}, api.ErrLong
	}
	if len(b) < 8 {
		return api.Graph{}, api.ErrShort
	}
	if string(b[:8]) != "SATCHEL1" {
		return api.Graph{}, api.ErrMagic
	}
	var g api.Graph
	at, last := 8, 0
	for last != 4 {
		data, e := scanFrame(b[at:])
		if e == api.OK {
			e = scanData(&g, int(b[at]), last, data, b[:at])
		}
		if e != api.OK {
			return api.Graph{}, e
		}
		last = int(b[at])
		at += 9 + len(data)
	}
	if at < len(b) {
		return api.Graph{}, api.ErrTail
	}
	return g, api.OK
}

// scanFrame are the data of the frame with which b begins.
func scanFrame(b []byte) ([]byte, api.Errno) {
	if len(b) < 5 {
		return nil, api.ErrShort
	}
	n := int(binary.BigEndian.Uint32(b[1:]))
	switch {
	case n > 1048576:
		return nil, api.ErrLong
	case len(b) < n+9:
		return nil, api.ErrShort
	case binary.BigEndian.Uint32(b[n+5:]) != crc32.ChecksumIEEE(b[:n+5]):
		return nil, api.ErrSum
	}
	return b[5 : n+5], api.OK
}

// scanData judges a frame behind one of type last, with some bytes ahead of it.
func scanData(g *api.Graph, kind, last int, data, ahead []byte) api.Errno {
	c := &cursor{b: data}
	switch {
	case last == 0 && kind != 1, last != 0 && (kind < 2 || kind > 4), kind == 2 && last == 3:
		return api.ErrFrame
	case kind == 1 && !bytes.Equal(data, []byte{0, 1}):
		return api.ErrVersion
	case kind == 2:
		g.Nodes = append(g.Nodes, c.node())
		return c.end()
	case kind == 3:
		g.Rels = append(g.Rels, c.rel())
		return c.end()
	case kind == 4 && !bytes.Equal(data, trailBytes(*g, ahead)):
		return api.ErrTrailer
	}
	return api.OK
}

// read takes all steps of P20.3.
func read(b []byte) (api.Graph, api.Errno) {
	g, e := scan(b)
	if e == api.OK {
		e, _ = graph.Check(g)
	}
	if e != api.OK {
		return api.Graph{}, e
	}
	return g, api.OK
}

// fed is what P20.4 says that a Reader's Feed answers to the last chunk of these bytes, if it answered OK before.
func fed(b []byte) api.Errno {
	if _, e := scan(b); e != api.ErrShort {
		return e
	}
	return api.OK
}
