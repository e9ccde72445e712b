package tx

import "isthmus/api"

// numberFits: may a number of type int stand in bytes?
func numberFits(n int) bool {
	return n >= 0 && n <= Most
}

// numbersFit: the numbers of type int of a message.
func numbersFit(m api.Msg) bool {
	if !numberFits(m.Kind) || !numberFits(m.Proof.N) {
		return false
	}
	for _, l := range m.Proof.Leaves {
		if !numberFits(l.At) {
			return false
		}
	}
	return true
}

// listsFit: has no list of a message more than its limit?
func listsFit(m api.Msg) bool {
	for _, l := range [][]api.Val{m.Vals, m.OtherVals, m.Trusted} {
		if len(l) > api.MaxVals {
			return false
		}
	}
	if len(m.Votes) > api.MaxVals || len(m.OtherVotes) > api.MaxVals || len(m.Orders) > api.MaxSends || len(m.Proof.Leaves) > Leaves {
		return false
	}
	for _, l := range m.Proof.Leaves {
		if len(l.Path) > Path {
			return false
		}
	}
	return true
}

// fieldsFit: is no text and are no bytes of a message longer than a field?
func fieldsFit(m api.Msg) bool {
	// the puts cut what is too long, so that the lengths are looked at one by one
	texts := []string{m.To, m.Denom, m.Client, m.CClient, m.Conn, m.CConn, m.Chan, m.CChan, m.Port, m.CPort, m.Version, m.Header.Chain, m.Other.Chain, m.Packet.Src, m.Packet.Dst, m.Pay.Denom}
	parts := [][]byte{m.Header.Root, m.Header.Vals, m.Header.Next, m.Other.Root, m.Other.Vals, m.Other.Next, m.Packet.Data, m.Ack}
	for _, l := range [][]api.Val{m.Vals, m.OtherVals, m.Trusted} {
		for _, v := range l {
			texts = append(texts, v.Name)
		}
	}
	texts = append(texts, m.Votes...)
	texts = append(texts, m.OtherVotes...)
	for _, l := range m.Proof.Leaves {
		texts = append(texts, l.Key)
		parts = append(parts, l.Value)
		parts = append(parts, l.Path...)
	}
	for _, o := range m.Orders {
		texts = append(texts, o.To, o.Denom)
	}
	for _, s := range texts {
		if len(s) > api.MaxField {
			return false
		}
	}
	for _, b := range parts {
		if len(b) > api.MaxField {
			return false
		}
	}
	return true
}
