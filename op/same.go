package op

import (
	"bytes"
	"slices"

	"huddle/api"
)

// Same tells whether two are the same.
func Same(a, b api.Op) bool {
	return a.By == b.By && a.Seq == b.Seq && a.Kind == b.Kind && a.At == b.At &&
		slices.Equal(a.Past, b.Past) &&
		a.Device == b.Device && a.Old == b.Old && a.Member == b.Member && a.Role == b.Role &&
		slices.EqualFunc(a.Path, b.Path, sameNode) &&
		a.Epoch == b.Epoch && a.N == b.N &&
		bytes.Equal(a.Body, b.Body) && slices.Equal(a.Refs, b.Refs) &&
		a.Of == b.Of &&
		slices.Equal(a.Guards, b.Guards) && a.Need == b.Need && a.Wait == b.Wait &&
		slices.Equal(a.Boxes, b.Boxes) && a.Pub == b.Pub &&
		slices.EqualFunc(a.Hist, b.Hist, sameSealed) &&
		a.Sig == b.Sig
}

func sameNode(a, b api.Node) bool { return a.Pub == b.Pub && slices.Equal(a.Boxes, b.Boxes) }

func sameSealed(a, b api.Sealed) bool { return a.Of == b.Of && bytes.Equal(a.Body, b.Body) }

// clone is the same operation in other memory, at every depth.
func clone(o api.Op) api.Op {
	o.Past = slices.Clone(o.Past)
	o.Path = slices.Clone(o.Path)
	for i, node := range o.Path {
		o.Path[i].Boxes = slices.Clone(node.Boxes)
	}
	o.Body = bytes.Clone(o.Body)
	o.Refs = slices.Clone(o.Refs)
	o.Guards = slices.Clone(o.Guards)
	o.Boxes = slices.Clone(o.Boxes)
	o.Hist = slices.Clone(o.Hist)
	for i, sealed := range o.Hist {
		o.Hist[i].Body = bytes.Clone(sealed.Body)
	}
	return o
}
