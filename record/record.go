// Package record writes and reads the contents of a store's records: a method of each kind of record tells its fields, one after another, and serves both ways. It has the kinds of fields that occur in records of both versions (see shared/doc/12-recone.md and 15-rectwo.md).
package record

import (
	"slices"

	"satchel/api"
	"satchel/wire"
)

const (
	// None is where a pointer leads that leads nowhere.
	None = -1

	// SlotSize is the size of a slot, in which properties stand inline.
	SlotSize = 8
)

// Coder goes over the fields of one record, which it either writes or reads.
type Coder struct {
	writer *wire.Writer // nil if it reads
	reader *wire.Reader // nil if it writes
	wrong  bool
}

// Write gives the bytes of a record, whose fields a method of its kind tells.
func Write[T any](content T, fields func(*T, *Coder)) ([]byte, api.Errno) {
	c := &Coder{writer: wire.NewWriter()}
	if _, e := code(c, content, fields); e != api.OK {
		return nil, e
	}
	return c.writer.Bytes(), api.OK
}

// Read gives the record that b is. In blank stands what no field tells.
func Read[T any](b []byte, blank T, fields func(*T, *Coder)) (T, api.Errno) {
	return code(&Coder{reader: wire.NewReader(b)}, blank, fields)
}

// code goes over the fields of a record of any kind, and returns the record with what was read.
func code[T any](c *Coder, content T, fields func(*T, *Coder)) (T, api.Errno) {
	fields(&content, c)
	if e := c.end(); e != api.OK {
		var none T
		return none, e
	}
	return content, api.OK
}

// end returns what is wrong with the record as a whole: its size comes before its fields.
func (c *Coder) end() api.Errno {
	if c.reader != nil && c.reader.End() != api.OK {
		return api.ErrSize
	}
	if c.wrong {
		return api.ErrField
	}
	return api.OK
}

// bits is a field for the lowest bits of n. It returns what is then in the field.
func (c *Coder) bits(width int, n uint64) uint64 {
	if c.reader != nil {
		return c.reader.Num(width)
	}
	c.writer.Num(width, n)
	return n
}

// number is a field for a number from least on and below limit, in which stands by how much it is above least.
func (c *Coder) number(n *int, width, least, limit int) {
	*n = least + int(c.bits(width, uint64(*n-least)))
	c.Expect(least <= *n && *n < limit)
}

// Expect says what has to be so in a record without an error.
func (c *Coder) Expect(right bool) {
	c.wrong = c.wrong || !right
}

// Bits is a field of eight bytes for any number.
func (c *Coder) Bits(n *int64) {
	*n = int64(c.bits(8, uint64(*n)))
}

// Below is a field for a number from 0 on and below limit.
func (c *Coder) Below(n *int, width, limit int) {
	c.number(n, width, 0, limit)
}

// Node is a field for a node's number.
func (c *Coder) Node(id *int) {
	c.Below(id, 4, api.MaxNodes)
}

// Token is a field for a name's number.
func (c *Coder) Token(token *int) {
	c.Below(token, 2, api.MaxTokens)
}

// Pointer is a field for None, or an id from 0 on and below limit.
func (c *Coder) Pointer(id *int, limit int) {
	c.number(id, 4, None, limit)
}

// Flag is a field with a byte that is 1 or 0.
func (c *Coder) Flag(set *bool) {
	n := 0
	if *set {
		n = 1
	}
	c.Below(&n, 1, 2)
	*set = n == 1
}

// Rel are the fields with which a relationship begins in both versions: its ends, the token of its type, and its places in chains.
func (c *Coder) Rel(link *api.Link, token *int) {
	c.Node(&link.From)
	c.Node(&link.To)
	c.Token(token)
	c.Pointer(&link.FromPrev, api.MaxRels)
	c.Pointer(&link.FromNext, api.MaxRels)
	c.Pointer(&link.ToPrev, api.MaxRels)
	c.Pointer(&link.ToNext, api.MaxRels)
}

// Slots is a field of so many slots, whatever they hold.
func (c *Coder) Slots(slots *[]byte, count int) {
	if c.reader != nil {
		*slots = c.reader.Raw(count * SlotSize)
		return
	}
	c.Expect(len(*slots) == count*SlotSize)
	c.writer.Raw(*slots)
}

// Labels is a field with a byte for each label that a node may have; the labels come first and ascend.
func (c *Coder) Labels(labels *[]int) {
	places := slices.Repeat([]int{None}, api.MaxLabels)
	copy(places, *labels)
	for i := range places {
		c.number(&places[i], 1, None, api.MaxTokens)
	}
	if c.reader != nil {
		*labels = withoutEnd(places)
	}
	c.Expect(len(*labels) <= api.MaxLabels && ascend(*labels))
}

// withoutEnd cuts off the places at the end that hold no label. Others of that sort stay, which ascend refuses.
func withoutEnd(places []int) []int {
	for len(places) > 0 && places[len(places)-1] == None {
		places = places[:len(places)-1]
	}
	return places
}

// ascend tells whether each label is above the one before it, and the first above None.
func ascend(labels []int) bool {
	previous := None
	for _, label := range labels {
		if label <= previous {
			return false
		}
		previous = label
	}
	return true
}
