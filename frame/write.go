package frame

import (
	"drumline/api"
	"drumline/wire"
)

// writer puts the fields of a frame behind one another.
type writer struct {
	out   []byte
	unfit bool // a number did not fit into the bytes of its field
}

// write returns the fields of f as bytes; false if it has no kind, or a number that does not fit into its field.
func write(f api.Frame) ([]byte, bool) {
	w := &writer{}
	w.plain(int64(f.Kind), 1)
	w.plain(int64(f.Part), 1)
	w.plain(int64(f.Node), 1)
	if linked(f.Kind) {
		w.plain(int64(f.Link), 1)
	}
	switch f.Kind {
	case api.Cold:
		w.plain(int64(f.Wait), 2)
	case api.Sync:
		w.plain(f.Cycle, 6)
		w.plain(int64(f.Mask), 2)
		fallthrough
	case api.Member:
		w.ages(f.Ages)
	case api.Gate:
		w.flag(f.Flag)
		w.plain(f.Cycle, 6)
		w.put(wire.Signed(f.Offset, 6))
	case api.Data:
		w.plain(int64(f.From), 1)
		w.plain(int64(f.To), 1)
		w.plain(f.Seq, 4)
		w.body(f.Body)
	default:
		return nil, false
	}
	return w.out, !w.unfit
}

// linked reports whether frames of this kind have a Link, which is then the first field behind Node.
func linked(kind int) bool {
	return kind == api.Gate || kind == api.Member || kind == api.Data
}

// put adds a number's bytes, if it did fit into them.
func (w *writer) put(b []byte, ok bool) {
	w.out = append(w.out, b...)
	w.unfit = w.unfit || !ok
}

// plain adds a number of width bytes.
func (w *writer) plain(n int64, width int) {
	w.put(wire.Plain(n, width))
}

// flag adds a bool.
func (w *writer) flag(f bool) {
	if f {
		w.plain(1, 1)
	} else {
		w.plain(0, 1)
	}
}

// ages adds ages behind their number.
func (w *writer) ages(l []int) {
	w.plain(int64(len(l)), 1)
	if w.unfit {
		// A list of any length must not be gone through in vain.
		return
	}
	for _, a := range l {
		w.plain(int64(a), 1)
	}
}

// body adds bytes behind their number.
func (w *writer) body(b []byte) {
	w.plain(int64(len(b)), 1)
	if w.unfit {
		return
	}
	w.out = append(w.out, b...)
}
