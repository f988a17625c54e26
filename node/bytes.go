package node

import (
	"concertina/api"
	"concertina/cell"
)

// Encode returns the bytes of a valid node.
func Encode(n Node) ([]byte, api.Errno) {
	if !May(n) {
		return nil, api.ErrArg
	}
	w := &cell.Writer{}
	w.Num(n.Height)
	w.Num(len(n.Keys))
	for i, key := range n.Keys {
		w.Num(key)
		if n.isLeaf() {
			writePlace(w, n.Places[i], n.Gens[i])
		} else {
			writeKid(w, n.Kids[i])
		}
	}
	return w.Out(), api.OK
}

// Decode returns the node that has the bytes b.
func Decode(b []byte) (Node, api.Errno) {
	var n Node
	tooMany := false
	e := cell.Read(b, func(r *cell.Reader) {
		n.Height = r.Num()
		keys := r.Num()
		tooMany = keys > api.Fan
		if tooMany {
			return
		}
		for range keys {
			readKey(r, &n)
		}
	})
	// With too many keys it does not matter which bytes are left.
	if tooMany || e == api.OK && !May(n) {
		e = api.ErrForm
	}
	if e != api.OK {
		return Node{}, e
	}
	return n, api.OK
}

// readKey reads one key, with what is stored for it, to the end of n. It does
// not ask what the numbers mean: a number that is malformed comes before one
// that makes no sense.
func readKey(r *cell.Reader, n *Node) {
	n.Keys = append(n.Keys, r.Num())
	if !n.isLeaf() {
		n.Kids = append(n.Kids, Kid{At: r.Num(), N: r.Num(), Gen: r.Num()})
		return
	}
	n.Places = append(n.Places, api.Place{At: r.Num(), N: r.Num(), Slot: r.Num()})
	n.Gens = append(n.Gens, r.Num())
}

func writePlace(w *cell.Writer, p api.Place, gen int) {
	w.Num(p.At)
	w.Num(p.N)
	w.Num(p.Slot)
	w.Num(gen)
}

func writeKid(w *cell.Writer, k Kid) {
	w.Num(k.At)
	w.Num(k.N)
	w.Num(k.Gen)
}
