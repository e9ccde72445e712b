package chain

import (
	"errors"

	"isthmus/api"
	"isthmus/auth"
	"isthmus/bank"
	"isthmus/chans"
	"isthmus/client"
	"isthmus/conn"
	"isthmus/fee"
	"isthmus/ica"
	"isthmus/name"
	"isthmus/packet"
	"isthmus/store"
	"isthmus/transfer"
	"isthmus/wire"
)

// errAbsent: a channel that isn't there.
var errAbsent = errors.New("isthmus: no such channel")

// channel: a channel, or errAbsent.
func channel(s *store.Store, id string) (chans.Chan, error) {
	c, ok := chans.Get(s, id)
	if !ok {
		return chans.Chan{}, errAbsent
	}
	return c, nil
}

// Do: a message, by a signer, at a height and a time; beside an error the store may have changed: do it in a branch.
func Do(s *store.Store, who string, self, now uint64, m api.Msg) api.Errno {
	switch m.Kind {
	case api.Send:
		return bank.Send(s, who, m.To, m.Denom, m.Amt)
	case api.ClientCreate, api.ClientUpdate, api.Misbehave:
		return doClient(s, now, m)
	case api.ConnInit, api.ConnTry, api.ConnAck, api.ConnConfirm:
		return doConn(s, now, m)
	case api.ChanInit, api.ChanTry, api.ChanAck, api.ChanConfirm, api.ChanClose, api.ChanCloseConfirm:
		return doChan(s, who, now, m)
	case api.Transfer:
		_, e := transfer.Send(s, m.Chan, who, m.Denom, m.Amt, m.To, m.Height, m.Time)
		return e
	case api.Recv:
		return receive(s, who, self, now, m)
	case api.Ack:
		return acknowledge(s, who, now, m)
	case api.Timeout:
		return timeOut(s, who, now, m)
	case api.PayFee:
		return fee.Ahead(s, who, m.Chan, m.Next, m.Pay)
	case api.Execute:
		_, e := ica.Execute(s, who, m.Chan, m.Orders, m.Height, m.Time)
		return e
	case api.Rekey:
		return auth.Rekey(s, who, m.Ack)
	}
	return api.ErrKind
}

// doClient: the messages of layer 14.
func doClient(s *store.Store, now uint64, m api.Msg) api.Errno {
	news := client.News{Header: m.Header, Vals: m.Vals, Trusted: m.Trusted, Votes: m.Votes, At: m.At}
	switch m.Kind {
	case api.ClientCreate:
		_, e := client.Create(s, m.Header, m.Period, now)
		return e
	case api.ClientUpdate:
		return client.Update(s, m.Client, news, now)
	}
	other := client.News{Header: m.Other, Vals: m.OtherVals, Trusted: m.Trusted, Votes: m.OtherVotes, At: m.At}
	return client.Misbehave(s, m.Client, news, other, now)
}

// doConn: the messages of layer 15.
func doConn(s *store.Store, now uint64, m api.Msg) api.Errno {
	switch m.Kind {
	case api.ConnInit:
		_, e := conn.Begin(s, m.Client, m.CClient)
		return e
	case api.ConnTry:
		_, e := conn.Try(s, m.Client, m.CClient, m.CConn, m.Height, m.Proof, now)
		return e
	case api.ConnAck:
		return conn.Ack(s, m.Conn, m.CConn, m.Height, m.Proof, now)
	}
	return conn.Confirm(s, m.Conn, m.Height, m.Proof, now)
}

// doChan: the messages of layer 16.
func doChan(s *store.Store, who string, now uint64, m api.Msg) api.Errno {
	switch m.Kind {
	case api.ChanInit:
		return beginChan(s, who, m)
	case api.ChanTry:
		return tryChan(s, now, m)
	case api.ChanAck:
		return chans.Ack(s, m.Chan, m.CChan, m.Height, m.Proof, now)
	case api.ChanConfirm:
		return chans.Confirm(s, m.Chan, m.Height, m.Proof, now)
	case api.ChanClose:
		return closeChan(s, who, m.Chan)
	}
	return chans.CloseConfirm(s, m.Chan, m.Height, m.Proof, now)
}

// beginChan: who begins at the control port owns what is led over the channel.
func beginChan(s *store.Store, who string, m api.Msg) api.Errno {
	if m.Port != chans.Control {
		_, e := chans.Begin(s, m.Conn, m.Port, m.CPort, m.Ordered, m.Version)
		return e
	}
	if m.CPort != chans.Host {
		return api.ErrPort
	}
	if !m.Ordered {
		return api.ErrOrder
	}
	if m.Version != who {
		return api.ErrOwner
	}
	_, e := ica.Register(s, who, m.Conn)
	return e
}

// tryChan: a host takes a channel only for an owner whose account here could have an address.
func tryChan(s *store.Store, now uint64, m api.Msg) api.Errno {
	if m.Port == chans.Host && !name.Ident(ica.Address(m.Conn, m.Version)) {
		return api.ErrOwner
	}
	c := chans.Chan{Ordered: m.Ordered, Port: m.Port, CPort: m.CPort, Conn: m.Conn, CChan: m.CChan, Version: m.Version}
	_, e := chans.Try(s, c, m.Height, m.Proof, now)
	return e
}

// closeChan: the owner alone closes, and from the control end.
func closeChan(s *store.Store, who, id string) api.Errno {
	c, err := channel(s, id)
	if errors.Is(err, errAbsent) {
		return api.ErrChan
	}
	if c.Port != chans.Control || c.Version != who {
		return api.ErrOwner
	}
	return chans.Close(s, id)
}

// receive: a packet comes in; what is answered tells whether it was done, and who brought it.
func receive(s *store.Store, who string, self, now uint64, m api.Msg) api.Errno {
	if e := packet.Recv(s, m.Packet, m.Height, m.Proof, self, now); e != api.OK {
		return e
	}
	done := use(s, m.Packet, self)
	packet.Write(s, m.Packet, wire.T(wire.F(nil, done), who))
	return api.OK
}

// use: is what a packet asks for done?
func use(s *store.Store, p api.Packet, self uint64) bool {
	c, err := channel(s, p.Dst)
	if errors.Is(err, errAbsent) {
		return false
	}
	switch c.Port {
	case chans.Transfer:
		return transfer.Receive(s, p, self) == api.OK
	case chans.Host:
		return ica.Receive(s, p) == api.OK
	}
	return false
}

// acknowledge: a packet's answer comes back.
func acknowledge(s *store.Store, who string, now uint64, m api.Msg) api.Errno {
	if e := packet.Ack(s, m.Packet, m.Ack, m.Height, m.Proof, now); e != api.OK {
		return e
	}
	r := wire.Open(m.Ack)
	done := r.F()
	forward := r.T()
	if r.End() != api.OK {
		return api.ErrData
	}
	return finish(s, m.Packet, done, forward, who, false)
}

// timeOut: a packet was too late.
func timeOut(s *store.Store, who string, now uint64, m api.Msg) api.Errno {
	if e := packet.Timeout(s, m.Packet, m.Next, m.Height, m.Proof, now); e != api.OK {
		return e
	}
	return finish(s, m.Packet, false, "", who, true)
}

// finish: a packet's end: what wasn't done goes back, and those who relayed it are paid.
func finish(s *store.Store, p api.Packet, done bool, forward, by string, late bool) api.Errno {
	c, err := channel(s, p.Src)
	if !errors.Is(err, errAbsent) && c.Port == chans.Transfer && !done {
		if e := transfer.Refund(s, p); e != api.OK {
			return e
		}
	}
	return fee.Settle(s, p, forward, by, late)
}
