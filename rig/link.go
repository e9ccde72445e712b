package rig

import (
	"isthmus/api"
	"isthmus/chain"
	"isthmus/chans"
	"isthmus/conn"
)

// Link leads two chains, 0 and 1, to shake hands.
type Link struct {
	Rig *Rig
	// Chain answers one of the two; Do has a chain make a block with one transaction of somebody's.
	Chain func(i int) *chain.Chain
	Do    func(on int, who string, msgs ...api.Msg)
	// By is who relays; Known the header of the other chain that each one's client was told of last.
	By    string
	Known [2]api.Header
}

// Proof: what a chain proves of a key.
func (l *Link) Proof(on int, key string) api.Proof {
	p, _ := l.Chain(on).Prove(key)
	return p
}

// Tell: the message that tells chain on of the other one's last header.
func (l *Link) Tell(on int) api.Msg {
	h := l.Chain(1 - on).Head()
	m := l.Rig.Update("client-0", l.Known[on], h)
	l.Known[on] = h
	return m
}

// shown: a message to chain on, with what the other one proves of a key, behind what tells of its last header.
func (l *Link) shown(on int, key string, m api.Msg) {
	h := l.Chain(1 - on).Head()
	if h.Height == l.Known[on].Height { // no news: a block more makes some
		l.Do(1-on, l.By)
	}
	tell := l.Tell(on)
	m.Height, m.Proof = l.Known[on].Height, l.Proof(1-on, key)
	l.Do(on, l.By, tell, m)
}

// Connect: client-0 and conn-0 at both.
func (l *Link) Connect(period uint64) {
	for on := range 2 {
		l.Known[on] = l.Chain(1 - on).Head()
		l.Do(on, l.By, api.Msg{Kind: api.ClientCreate, Header: l.Known[on], Period: period})
	}
	l.Do(0, l.By, api.Msg{Kind: api.ConnInit, Client: "client-0", CClient: "client-0"})
	l.shown(1, conn.Key("conn-0"), api.Msg{Kind: api.ConnTry, Client: "client-0", CClient: "client-0", CConn: "conn-0"})
	l.shown(0, conn.Key("conn-0"), api.Msg{Kind: api.ConnAck, Conn: "conn-0", CConn: "conn-0"})
	l.shown(1, conn.Key("conn-0"), api.Msg{Kind: api.ConnConfirm, Conn: "conn-0"})
}

// Open: a channel id at chain 0, cid at chain 1, over conn-0, asked for by who at chain 0.
func (l *Link) Open(who, id, cid, port, cport string, ordered bool, version string) {
	l.Do(0, who, api.Msg{Kind: api.ChanInit, Conn: "conn-0", Port: port, CPort: cport, Ordered: ordered, Version: version})
	l.shown(1, chans.Key(id), api.Msg{Kind: api.ChanTry, Conn: "conn-0", CChan: id, Port: cport, CPort: port, Ordered: ordered, Version: version})
	l.shown(0, chans.Key(cid), api.Msg{Kind: api.ChanAck, Chan: id, CChan: cid})
	l.shown(1, chans.Key(id), api.Msg{Kind: api.ChanConfirm, Chan: cid})
}
