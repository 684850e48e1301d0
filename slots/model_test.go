package slots_test

import (
	"bytes"
	"slices"
	"testing"

	"satchel/api"
	"satchel/slots"
	"satchel/value"
)

// bytesOf is the encoding of a valid value.
func bytesOf(v api.Value) []byte {
	b, _ := value.Encode(v)
	return b
}

// inline is what a property with a valid value takes in slots, as the document words it.
func inline(p api.KeyVal) []byte {
	b := append([]byte{byte((p.Key + 1) / 256), byte((p.Key + 1) % 256)}, bytesOf(p.Val)...)
	for len(b)%8 != 0 {
		b = append(b, 0)
	}
	return b
}

// beside is what a property with a valid value takes outside.
func beside(p api.KeyVal) []byte {
	data := bytesOf(p.Val)
	return append([]byte{byte((p.Key + 1) / 256), byte((p.Key + 1) % 256), byte(len(data) / 256), byte(len(data) % 256)}, data...)
}

// modelPack packs as the document words it.
func modelPack(props []api.KeyVal, room int) (in, out []byte, e api.Errno) {
	switch {
	case room < 0, room > 16:
		return nil, nil, api.ErrArg
	case len(props) > 16:
		return nil, nil, api.ErrProps
	}
	for i, p := range props {
		switch {
		case p.Key < 0, p.Key >= 200:
			return nil, nil, api.ErrToken
		case i > 0 && p.Key <= props[i-1].Key:
			return nil, nil, api.ErrOrder
		case value.Check(p.Val) != api.OK:
			return nil, nil, value.Check(p.Val)
		}
	}
	for _, p := range props {
		if b := inline(p); len(in)+len(b) <= 8*room {
			in = append(in, b...)
		} else {
			out = append(out, beside(p)...)
		}
	}
	for len(in) < 8*room {
		in = append(in, 0)
	}
	return in, out, api.OK
}

// sorted gives a copy of properties in ascending order of keys.
func sorted(props []api.KeyVal) []api.KeyVal {
	props = slices.Clone(props)
	slices.SortStableFunc(props, func(a, b api.KeyVal) int { return a.Key - b.Key })
	return props
}

// modelSlots reads slots by the second step of the document.
func modelSlots(in []byte) ([]api.KeyVal, bool) {
	var props []api.KeyVal
	for len(in) > 0 {
		number := int(in[0])*256 + int(in[1])
		if number == 0 {
			return props, bytes.Equal(in, make([]byte, len(in)))
		}
		v, _, e := value.Prefix(in[2:])
		p := api.KeyVal{Key: number - 1, Val: v}
		if number > 200 || e != api.OK || !bytes.HasPrefix(in, inline(p)) {
			return nil, false
		}
		props = append(props, p)
		in = in[len(inline(p)):]
	}
	return props, true
}

// modelOver reads what stands outside by the third step of the document.
func modelOver(out []byte) ([]api.KeyVal, bool) {
	var props []api.KeyVal
	for len(out) > 0 {
		if len(out) < 4 {
			return nil, false
		}
		number, size := int(out[0])*256+int(out[1]), int(out[2])*256+int(out[3])
		if number < 1 || number > 200 || len(out) < 4+size {
			return nil, false
		}
		v, e := value.Decode(out[4 : 4+size])
		if e != api.OK {
			return nil, false
		}
		props = append(props, api.KeyVal{Key: number - 1, Val: v})
		out = out[4+size:]
	}
	return props, true
}

// modelUnpack goes through the document's five steps.
func modelUnpack(in, out []byte) ([]api.KeyVal, api.Errno) {
	if len(in)%8 != 0 || len(in)/8 > 16 {
		return nil, api.ErrSize
	}
	inside, good := modelSlots(in)
	if !good {
		return nil, api.ErrSlots
	}
	outside, good := modelOver(out)
	if !good {
		return nil, api.ErrOver
	}
	if len(inside)+len(outside) > 16 {
		return nil, api.ErrProps
	}
	props := sorted(slices.Concat(inside, outside))
	wantIn, wantOut, e := modelPack(props, len(in)/8)
	if e != api.OK || !bytes.Equal(in, wantIn) || !bytes.Equal(out, wantOut) {
		return nil, api.ErrShape
	}
	return props, api.OK
}

func same(a, b []api.KeyVal) bool {
	return slices.EqualFunc(a, b, func(a, b api.KeyVal) bool { return a.Key == b.Key && value.Same(a.Val, b.Val) })
}

// copyOf gives properties that share no memory with those given.
func copyOf(props []api.KeyVal) []api.KeyVal {
	props = slices.Clone(props)
	for i := range props {
		props[i].Val.Nums = slices.Clone(props[i].Val.Nums)
		props[i].Val.Texts = slices.Clone(props[i].Val.Texts)
	}
	return props
}

// wantPack packs properties, and unpacks what comes of valid ones.
func wantPack(t *testing.T, props []api.KeyVal, room int) {
	t.Helper()
	before := copyOf(props)
	wantIn, wantOut, wrong := modelPack(props, room)
	in, out, e := slots.Pack(props, room)
	if e != wrong || !bytes.Equal(in, wantIn) || !bytes.Equal(out, wantOut) {
		t.Fatalf("Pack(%v, %d) = %v, %v, %v, want %v, %v, %v", props, room, in, out, e, wantIn, wantOut, wrong)
	}
	if !same(props, before) {
		t.Fatalf("Pack changed its argument from %v to %v", before, props)
	}
	if e != api.OK {
		return
	}
	if got, e := slots.Unpack(in, out); e != api.OK || !same(got, props) {
		t.Fatalf("Unpack(%v, %v) = %v, %v, want %v", in, out, got, e, props)
	}
}

// wantUnpack unpacks any bytes. What is accepted must be what Pack returns.
func wantUnpack(t *testing.T, in, out []byte) {
	t.Helper()
	// Without spare capacity, nothing can be read behind the end.
	in, out = slices.Clip(in), slices.Clip(out)
	inBefore, outBefore := bytes.Clone(in), bytes.Clone(out)
	want, wrong := modelUnpack(in, out)
	got, e := slots.Unpack(in, out)
	if e != wrong || !same(got, want) {
		t.Fatalf("Unpack(%v, %v) = %v, %v, want %v, %v", in, out, got, e, want, wrong)
	}
	if !bytes.Equal(in, inBefore) || !bytes.Equal(out, outBefore) {
		t.Fatalf("Unpack changed its arguments from %v and %v to %v and %v", inBefore, outBefore, in, out)
	}
	if e != api.OK {
		return
	}
	if backIn, backOut, e := slots.Pack(got, len(in)/8); e != api.OK || !bytes.Equal(backIn, in) || !bytes.Equal(backOut, out) {
		t.Fatalf("Pack(%v) = %v, %v, %v, want %v, %v", got, backIn, backOut, e, in, out)
	}
}

// wantError unpacks bytes of which the document's error, or OK, is written down beside them.
func wantError(t *testing.T, in, out []byte, want api.Errno) {
	t.Helper()
	if got, e := slots.Unpack(in, out); e != want || want != api.OK && len(got) > 0 {
		t.Fatalf("Unpack(%v, %v) = %v, %v, want %v", in, out, got, e, want)
	}
	wantUnpack(t, in, out)
}
