package op

import (
	"huddle/api"
	"huddle/pack"
)

// mostItems is how many of something may be got at one place: more would be no operation of any use, and take room as long as it is read.
const mostItems = 1000

// Put is an operation's bytes.
func Put(o api.Op) []byte {
	var out pack.Out
	write(&out, o)
	out.Num(o.Sig.R)
	out.Num(o.Sig.S)
	return out.Bytes()
}

// Get is the operation of bytes.
func Get(b []byte) (api.Op, api.Errno) {
	in := pack.Open(b)
	o := read(in)
	o.Sig = api.Sig{R: in.Num(), S: in.Num()}
	if wrong := in.End(); wrong != api.OK {
		return api.Op{}, wrong
	}
	return o, api.OK
}

// content are the bytes that an operation is signed by, and has its name of.
func content(o api.Op) []byte {
	var out pack.Out
	write(&out, o)
	return out.Bytes()
}

// write writes all of an operation but its signature.
func write(out *pack.Out, o api.Op) {
	out.Int(o.By)
	out.Int(o.Seq)
	out.Int(o.Kind)
	out.Int(o.At)
	writeEach(out, o.Past, out.Ident)
	out.Int(o.Device)
	out.Int(o.Old)
	out.Int(o.Member)
	out.Int(o.Role)
	writeEach(out, o.Path, func(n api.Node) {
		out.Num(n.Pub)
		writeBoxes(out, n.Boxes)
	})
	out.Ident(o.Epoch)
	out.Int(o.N)
	out.Text(string(o.Body))
	writeEach(out, o.Refs, out.Num)
	out.Ident(o.Of)
	writeEach(out, o.Guards, out.Int)
	out.Int(o.Need)
	out.Int(o.Wait)
	writeBoxes(out, o.Boxes)
	out.Num(o.Pub)
	writeEach(out, o.Hist, func(s api.Sealed) {
		out.Ident(s.Of)
		out.Text(string(s.Body))
	})
}

// read reads what write wrote. (What a literal calls is called in its row.)
func read(in *pack.In) api.Op {
	return api.Op{
		By: in.Int(), Seq: in.Int(), Kind: in.Int(), At: in.Int(),
		Past:   readEach(in, in.Ident),
		Device: in.Int(), Old: in.Int(), Member: in.Int(), Role: in.Int(),
		Path: readEach(in, func() api.Node {
			return api.Node{Pub: in.Num(), Boxes: readBoxes(in)}
		}),
		Epoch: in.Ident(), N: in.Int(), Body: readBytes(in),
		Refs:   readEach(in, in.Num),
		Of:     in.Ident(),
		Guards: readEach(in, in.Int),
		Need:   in.Int(), Wait: in.Int(), Boxes: readBoxes(in), Pub: in.Num(),
		Hist: readEach(in, func() api.Sealed {
			return api.Sealed{Of: in.Ident(), Body: readBytes(in)}
		}),
	}
}

// writeEach writes how many there are, and each one.
func writeEach[T any](out *pack.Out, l []T, one func(T)) {
	out.Int(len(l))
	for _, item := range l {
		one(item)
	}
}

// readEach reads what writeEach wrote, as far as nothing is wrong.
func readEach[T any](in *pack.In, one func() T) []T {
	var l []T
	for range in.Many(mostItems) {
		item := one()
		if in.Err() != api.OK {
			return nil
		}
		l = append(l, item)
	}
	return l
}

func writeBoxes(out *pack.Out, l []api.Box) {
	writeEach(out, l, func(b api.Box) {
		out.Num(b.To)
		out.Num(b.Eph)
		out.Num(b.Body)
		out.Num(b.Tag)
	})
}

func readBoxes(in *pack.In) []api.Box {
	return readEach(in, func() api.Box {
		return api.Box{To: in.Num(), Eph: in.Num(), Body: in.Num(), Tag: in.Num()}
	})
}

// readBytes reads a text as bytes.
func readBytes(in *pack.In) []byte { return append([]byte(nil), in.Text()...) }
