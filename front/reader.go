package front

import (
	"bytes"
	"errors"

	"breakwater/api"
)

// fault is an error that tells why bytes are none.
type fault struct{ why string }

// Error tells why.
func (f fault) Error() string { return "front: " + f.why }

// errnoOf is the number by which an error is told.
func errnoOf(err error) api.Errno {
	var f fault
	if errors.As(err, &f) {
		return api.ErrFrontAsk
	}
	return api.OK
}

// reader takes parts from the front of bytes.
type reader struct{ rest []byte }

// readLast reads parts behind which there is nothing.
func (r *reader) readLast(parts ...part) error {
	if err := r.read(parts...); err != nil {
		return err
	}
	if len(r.rest) > 0 {
		return fault{"there are bytes behind the end"}
	}
	return nil
}

// read puts what the bytes say to where the parts lead; behind an error some of it is there.
func (r *reader) read(parts ...part) error {
	for _, p := range parts {
		if err := r.readPart(p); err != nil {
			return err
		}
	}
	return nil
}

func (r *reader) readPart(p part) (err error) {
	var v int
	var piece []byte
	switch p := p.(type) {
	case octet:
		*p.at, err = r.number(octetBytes, maxOctet)
	case count:
		*p.at, err = r.number(countBytes, maxCount)
	case code:
		v, err = r.number(countBytes, maxCount)
		*p.at = api.Errno(v)
	case long:
		*p.at, err = r.number(longBytes, p.most)
	case flag:
		v, err = r.number(octetBytes, maxFlag)
		*p.at = v == maxFlag
	case text:
		piece, err = r.piece(shortBytes, p.most)
		*p.at = string(piece)
	case data:
		piece, err = r.piece(countBytes, api.MaxData)
		*p.at = bytes.Clone(piece)
	case entries:
		*p.at, err = r.entries()
	}
	return err
}

// number is one whose lowest byte stands first.
func (r *reader) number(size, most int) (int, error) {
	piece, err := r.take(size)
	if err != nil {
		return 0, err
	}
	var v uint64 // one of 8 bytes may be above every int
	for k, c := range piece {
		v |= uint64(c) << (8 * k)
	}
	if v > uint64(most) {
		return 0, fault{"a number is too great"}
	}
	return int(v), nil
}

// piece is so many bytes as a number ahead of them tells, in place.
func (r *reader) piece(size, most int) ([]byte, error) {
	n, err := r.number(size, most)
	if err != nil {
		return nil, err
	}
	return r.take(n)
}

// entries are as many as a number ahead of them tells.
func (r *reader) entries() ([]api.Entry, error) {
	n, err := r.number(countBytes, api.MaxBlocks)
	if err != nil {
		return nil, err
	}
	var all []api.Entry
	for range n {
		var e api.Entry
		if err := r.read(entryParts(&e)...); err != nil {
			return nil, err
		}
		all = append(all, e)
	}
	return all, nil
}

// take is so many bytes, in place.
func (r *reader) take(n int) ([]byte, error) {
	if n > len(r.rest) {
		return nil, fault{"the bytes end too early"}
	}
	piece := r.rest[:n]
	r.rest = r.rest[n:]
	return piece, nil
}
