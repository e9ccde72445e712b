package chain

import (
	"bytes"

	"isthmus/api"
	"isthmus/merkle"
	"isthmus/store"
	"isthmus/vals"
	"isthmus/wire"
)

// record: what a block leaves on the disk.
func record(h api.Header, next []api.Val, pairs []api.Pair) []byte {
	b := wire.B(wire.B(nil, vals.Header(h)), vals.Bytes(next))
	b = wire.N(b, uint64(len(pairs)))
	for _, p := range pairs {
		b = append(b, wire.B(wire.T(nil, p.Key), p.Value)...)
	}
	return b
}

// restored: the header, the next set and the state that a record holds.
func restored(b []byte) (api.Header, []api.Val, *store.Store, api.Errno) {
	r := wire.Open(b)
	h, headerError := header(r.B())
	set, setError := validators(r.B())
	var pairs []api.Pair
	for range r.Count(api.MaxLeaves) {
		key := r.T()
		pairs = append(pairs, api.Pair{Key: key, Value: r.B()})
		if r.Err() != api.OK {
			break
		}
	}
	if r.End() != api.OK || headerError != api.OK || setError != api.OK {
		return api.Header{}, nil, nil, api.ErrLost
	}
	state, e := store.New(pairs)
	if e != api.OK || !vals.Right(set) {
		return api.Header{}, nil, nil, api.ErrLost
	}
	root, e := merkle.Root(pairs)
	if e != api.OK || !bytes.Equal(root, h.Root) {
		return api.Header{}, nil, nil, api.ErrLost
	}
	return h, set, state, api.OK
}

// header: the header of its bytes.
func header(b []byte) (api.Header, api.Errno) {
	r := wire.Open(b)
	var h api.Header
	h.Chain = r.T()
	h.Height = r.N()
	h.Time = r.N()
	h.Root = r.B()
	h.Vals = r.B()
	h.Next = r.B()
	return h, r.End()
}

// validators: the list of its bytes.
func validators(b []byte) ([]api.Val, api.Errno) {
	r := wire.Open(b)
	var l []api.Val
	for range r.Count(api.MaxVals) {
		name := r.T()
		l = append(l, api.Val{Name: name, Power: r.N()})
	}
	return l, r.End()
}
