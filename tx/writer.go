package tx

import (
	"isthmus/api"
	"isthmus/limb"
	"isthmus/wire"
)

// writer puts things one behind the other.
type writer struct {
	out []byte
}

func (w *writer) n(n uint64) { w.out = append(w.out, wire.N(nil, n)...) }
func (w *writer) t(s string) { w.out = append(w.out, wire.T(nil, s)...) }
func (w *writer) b(b []byte) { w.out = append(w.out, wire.B(nil, b)...) }
func (w *writer) f(yes bool) { w.out = append(w.out, wire.F(nil, yes)...) }
func (w *writer) u(a api.U)  { w.b(limb.Bytes(a)) }

func (w *writer) msg(m api.Msg) {
	w.n(uint64(m.Kind))
	w.t(m.To)
	w.t(m.Denom)
	w.u(m.Amt)
	for _, s := range []string{m.Client, m.CClient, m.Conn, m.CConn, m.Chan, m.CChan, m.Port, m.CPort, m.Version} {
		w.t(s)
	}
	w.f(m.Ordered)
	w.header(m.Header)
	w.header(m.Other)
	w.set(m.Vals)
	w.set(m.OtherVals)
	w.set(m.Trusted)
	w.votes(m.Votes)
	w.votes(m.OtherVotes)
	for _, n := range []uint64{m.Height, m.Time, m.At, m.Period} {
		w.n(n)
	}
	w.packet(m.Packet)
	w.b(m.Ack)
	w.proof(m.Proof)
	w.n(m.Next)
	w.t(m.Pay.Denom)
	w.u(m.Pay.Recv)
	w.u(m.Pay.Ack)
	w.u(m.Pay.Timeout)
	w.n(uint64(len(m.Orders)))
	for _, o := range m.Orders {
		w.t(o.To)
		w.t(o.Denom)
		w.u(o.Amt)
	}
}

func (w *writer) header(h api.Header) {
	w.t(h.Chain)
	w.n(h.Height)
	w.n(h.Time)
	w.b(h.Root)
	w.b(h.Vals)
	w.b(h.Next)
}

func (w *writer) set(l []api.Val) {
	w.n(uint64(len(l)))
	for _, v := range l {
		w.t(v.Name)
		w.n(v.Power)
	}
}

func (w *writer) votes(l []string) {
	w.n(uint64(len(l)))
	for _, s := range l {
		w.t(s)
	}
}

func (w *writer) packet(p api.Packet) {
	w.t(p.Src)
	w.t(p.Dst)
	w.n(p.Seq)
	w.b(p.Data)
	w.n(p.Height)
	w.n(p.Time)
}

func (w *writer) proof(p api.Proof) {
	w.n(uint64(p.N))
	w.n(uint64(len(p.Leaves)))
	for _, l := range p.Leaves {
		w.n(uint64(l.At))
		w.t(l.Key)
		w.b(l.Value)
		w.n(uint64(len(l.Path)))
		for _, hash := range l.Path {
			w.b(hash)
		}
	}
}
