package chain

import (
	"errors"
	"strconv"

	"isthmus/api"
	"isthmus/auth"
	"isthmus/store"
	"isthmus/tx"
)

// messageError: the error of a message, with its number from 1 on.
type messageError struct {
	number int
	err    error
}

func (m messageError) Error() string {
	return "isthmus: message " + strconv.Itoa(m.number) + ": " + m.err.Error()
}

func (m messageError) Unwrap() error {
	return m.err
}

// Deliver: a transaction's bytes, over a store.
func Deliver(s *store.Store, chain string, self, now uint64, b []byte) api.Result {
	t, e := tx.Decode(b)
	if e != api.OK {
		return api.Result{Err: e}
	}
	if e := auth.Ante(s, chain, t); e != api.OK {
		return api.Result{Err: e}
	}
	if t.Gas < tx.Cost(len(b), len(t.Msgs)) {
		return api.Result{Err: api.ErrGas}
	}
	branch := s.Branch()
	if err := doAll(branch, self, now, t); err != nil {
		return resultOf(err)
	}
	branch.Write()
	return api.Result{}
}

// doAll: a transaction's messages, in order, till one has an error.
func doAll(s *store.Store, self, now uint64, t api.Tx) error {
	for i, m := range t.Msgs {
		if e := Do(s, t.Signer, self, now, m); e != api.OK {
			return messageError{i + 1, e}
		}
	}
	return nil
}

// resultOf: what an error says of a transaction.
func resultOf(err error) api.Result {
	var r api.Result
	var m messageError
	if errors.As(err, &m) {
		r.Msg = m.number
	}
	errors.As(err, &r.Err)
	return r
}
