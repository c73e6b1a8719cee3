package frame

import (
	"drumline/api"
	"drumline/wire"
)

// reader reads the fields of a frame, and holds the first error that it comes to.
type reader struct {
	in  *wire.Reader
	err error
}

// read returns the frame whose fields are exactly b, or the first error of b.
func read(b []byte) (api.Frame, error) {
	r := &reader{in: wire.New(b)}
	f := r.frame()
	if r.in.At() < len(b) {
		r.fail(errLong, r.in.At())
	}
	if r.err != nil {
		return api.Frame{}, r.err
	}
	return f, nil
}

// frame reads the fields that the kind has.
func (r *reader) frame() api.Frame {
	f := api.Frame{Kind: r.kind()}
	f.Part = r.below(api.MaxParts)
	f.Node = r.below(api.MaxNodes)
	if linked(f.Kind) {
		f.Link = r.below(api.MaxLinks)
	}
	switch f.Kind {
	case api.Cold:
		f.Wait = int(r.plain(2, 0, api.MaxWait))
	case api.Sync:
		f.Cycle = r.plain(6, 0, api.MaxTicks)
		f.Mask = int(r.plain(2, 0, 1<<api.MaxNodes-1))
		fallthrough
	case api.Member:
		f.Ages = r.ages()
	case api.Gate:
		f.Flag = r.plain(1, 0, 1) == 1
		f.Cycle = r.plain(6, 0, api.MaxTicks)
		f.Offset = r.offset()
	case api.Data:
		f.From = r.below(api.MaxParts)
		f.To = r.below(api.MaxParts)
		f.Seq = r.plain(4, 1, 1<<31)
		f.Body = r.body()
	}
	return f
}

// fail takes down an error, unless one was found ahead of it.
func (r *reader) fail(err error, at int) {
	if r.err == nil {
		r.err = &fault{err, at}
	}
}

// kind reads the kind, which has an error of its own.
func (r *reader) kind() int {
	n := int(r.plain(1, 0, 255))
	switch n {
	case api.Cold, api.Sync, api.Gate, api.Member, api.Data:
		return n
	}
	r.fail(errKind, 0)
	return 0
}

// below reads a number of one byte that is less than end.
func (r *reader) below(end int64) int {
	return int(r.plain(1, 0, end-1))
}

// plain reads a number of width bytes that is low to high; 0 if there is an error.
func (r *reader) plain(width int, low, high int64) int64 {
	at := r.in.At()
	return r.check(r.in.Number(width), at, low, high)
}

// offset reads a time that may be negative.
func (r *reader) offset() int64 {
	at := r.in.At()
	return r.check(r.in.Offset(6), at, -api.MaxTicks, api.MaxTicks)
}

// check returns n, the field that was read at this place; 0 if there is an error.
func (r *reader) check(n int64, at int, low, high int64) int64 {
	switch {
	case r.in.Bad():
		r.fail(errShort, at)
	case n < low || n > high:
		r.fail(errForm, at)
	}
	if r.err != nil {
		return 0
	}
	return n
}

// ages reads ages behind their number.
func (r *reader) ages() []int {
	var l []int
	for range r.plain(1, 1, api.MaxParts) {
		l = append(l, int(r.plain(1, 0, api.MaxAges+1)))
	}
	return l
}

// body reads bytes behind their number.
func (r *reader) body() []byte {
	n := int(r.plain(1, 0, api.MaxBody))
	at := r.in.At()
	b := r.in.Take(n)
	if r.in.Bad() {
		r.fail(errShort, at)
	}
	return b
}
