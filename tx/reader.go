package tx

import (
	"isthmus/api"
	"isthmus/limb"
	"isthmus/wire"
)

// reader takes things one behind the other; beside the bytes' own faults it knows that of an amount.
type reader struct {
	in    *wire.Reader
	fault api.Errno
}

// err: the first fault.
func (r *reader) err() api.Errno {
	if r.fault != api.OK {
		return r.fault
	}
	return r.in.Err()
}

// end: the first fault, or ErrTail.
func (r *reader) end() api.Errno {
	if r.fault != api.OK {
		return r.fault
	}
	return r.in.End()
}

func (r *reader) n() uint64 { return r.in.N() }
func (r *reader) t() string { return r.in.T() }
func (r *reader) b() []byte { return r.in.B() }
func (r *reader) f() bool   { return r.in.F() }

// count: a number of at most most; behind an amount's fault none, so that no list is gone through.
func (r *reader) count(most int) int {
	if r.fault != api.OK {
		return 0
	}
	return r.in.Count(most)
}

func (r *reader) u() api.U {
	b := r.in.B()
	if r.err() != api.OK {
		return api.U{}
	}
	a, e := limb.From(b)
	r.fault = e
	return a
}

func (r *reader) msg() api.Msg {
	var m api.Msg
	m.Kind = r.count(Most)
	m.To = r.t()
	m.Denom = r.t()
	m.Amt = r.u()
	for _, s := range []*string{&m.Client, &m.CClient, &m.Conn, &m.CConn, &m.Chan, &m.CChan, &m.Port, &m.CPort, &m.Version} {
		*s = r.t()
	}
	m.Ordered = r.f()
	m.Header = r.header()
	m.Other = r.header()
	m.Vals = r.set()
	m.OtherVals = r.set()
	m.Trusted = r.set()
	m.Votes = r.votes()
	m.OtherVotes = r.votes()
	for _, n := range []*uint64{&m.Height, &m.Time, &m.At, &m.Period} {
		*n = r.n()
	}
	m.Packet = r.packet()
	m.Ack = r.b()
	m.Proof = r.proof()
	m.Next = r.n()
	m.Pay.Denom = r.t()
	m.Pay.Recv = r.u()
	m.Pay.Ack = r.u()
	m.Pay.Timeout = r.u()
	for range r.count(api.MaxSends) {
		m.Orders = append(m.Orders, r.order())
	}
	return m
}

func (r *reader) header() api.Header {
	var h api.Header
	h.Chain = r.t()
	h.Height = r.n()
	h.Time = r.n()
	h.Root = r.b()
	h.Vals = r.b()
	h.Next = r.b()
	return h
}

func (r *reader) set() []api.Val {
	var l []api.Val
	for range r.count(api.MaxVals) {
		var v api.Val
		v.Name = r.t()
		v.Power = r.n()
		l = append(l, v)
	}
	return l
}

func (r *reader) votes() []string {
	var l []string
	for range r.count(api.MaxVals) {
		l = append(l, r.t())
	}
	return l
}

func (r *reader) packet() api.Packet {
	var p api.Packet
	p.Src = r.t()
	p.Dst = r.t()
	p.Seq = r.n()
	p.Data = r.b()
	p.Height = r.n()
	p.Time = r.n()
	return p
}

func (r *reader) proof() api.Proof {
	var p api.Proof
	p.N = r.count(Most)
	for range r.count(Leaves) {
		var l api.Leaf
		l.At = r.count(Most)
		l.Key = r.t()
		l.Value = r.b()
		for range r.count(Path) {
			l.Path = append(l.Path, r.b())
		}
		p.Leaves = append(p.Leaves, l)
	}
	return p
}

func (r *reader) order() api.Order {
	var o api.Order
	o.To = r.t()
	o.Denom = r.t()
	o.Amt = r.u()
	return o
}
