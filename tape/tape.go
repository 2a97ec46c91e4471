// Package tape: numbers, texts and lists as bytes, one behind the other.
package tape

import "errors"

const numberBytes = 8

// errWrong is what Read's reader is left by; nobody outside sees it.
var errWrong = errors.New("the bytes are not as they must be")

// Writer is the bytes that were written so far.
type Writer struct{ bytes []byte }

// Number writes eight bytes, the highest first.
func (w *Writer) Number(n int) {
	for shift := 8 * (numberBytes - 1); shift >= 0; shift -= 8 {
		w.bytes = append(w.bytes, byte(uint64(n)>>shift))
	}
}

// Text writes how many bytes there are, and them.
func (w *Writer) Text(s string) {
	w.Number(len(s))
	w.Raw(s)
}

// Raw writes bytes alone: whoever reads them must know where they end.
func (w *Writer) Raw(s string) { w.bytes = append(w.bytes, s...) }

// Bytes is all that was written.
func (w *Writer) Bytes() string { return string(w.bytes) }

// WriteList writes how many elements there are, and of each what one writes.
func WriteList[T any](w *Writer, l []T, one func(T)) {
	w.Number(len(l))
	for _, x := range l {
		one(x)
	}
}

// Reader is the bytes that were not read yet. Its calls leave by a panic, if
// these are not as they must be; so it is only lent, by Read.
type Reader struct{ rest string }

// Read lets what go through bytes, and tells whether they are as they must be,
// to the last one.
func Read(b string, what func(*Reader)) (right bool) {
	defer func() {
		if recover() != nil {
			right = false
		}
	}()
	r := Reader{rest: b}
	what(&r)
	return r.rest == ""
}

// Must leaves, unless something is so.
func (r *Reader) Must(so bool) {
	if !so {
		panic(errWrong)
	}
}

// Number reads eight bytes, the highest first.
func (r *Reader) Number() int {
	var n uint64
	b := r.take(numberBytes)
	for i := range len(b) {
		n = n<<8 | uint64(b[i])
	}
	return int(n)
}

// Text reads how many bytes there are, and them.
func (r *Reader) Text() string { return r.take(r.Number()) }

// Rest reads all that is left.
func (r *Reader) Rest() string { return r.take(len(r.rest)) }

func (r *Reader) take(n int) string {
	r.Must(0 <= n && n <= len(r.rest))
	b := r.rest[:n]
	r.rest = r.rest[n:]
	return b
}

// ReadList reads how many elements there are, and each of them by one, which
// must read a byte at least: whatever number is told, the bytes come to an end.
func ReadList[T any](r *Reader, one func() T) []T {
	n := r.Number()
	r.Must(n >= 0)
	var l []T
	for range n {
		l = append(l, one())
	}
	return l
}
