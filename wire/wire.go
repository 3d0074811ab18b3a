// Package wire: numbers, texts and stores of dots as bytes, and the sum that seals
// them.
package wire

// A number is written seven bits a byte, the lowest first; the top bit says that
// more follow. So small numbers, as most are, take one byte.
const (
	sevenBits = 7
	lowBits   = 1<<sevenBits - 1
	more      = 1 << sevenBits
	mostBytes = 4
)

// MostNumber is the greatest number that can be written.
const MostNumber = 1<<(sevenBits*mostBytes) - 1

// Number writes a number, from 0 to MostNumber.
func Number(out []byte, n int) []byte {
	for n > lowBits {
		out = append(out, byte(n&lowBits|more))
		n >>= sevenBits
	}
	return append(out, byte(n))
}

// Text writes a text, with its length ahead.
func Text(out []byte, text string) []byte {
	return append(Number(out, len(text)), text...)
}

// Reader reads what was written, piece by piece. Bytes that were not written so
// do no harm: from the first one on that does not fit all is read as 0 or empty,
// and the end is not reached.
type Reader struct {
	rest  string
	wrong bool
}

// NewReader begins to read.
func NewReader(bytes string) *Reader { return &Reader{rest: bytes} }

func (r *Reader) fail() {
	r.rest = ""
	r.wrong = true
}

// Number reads a number that is from least to most.
func (r *Reader) Number(least, most int) int {
	n := 0
	for k := 0; k < mostBytes && k < len(r.rest); k++ {
		n |= int(r.rest[k]&lowBits) << (k * sevenBits)
		if r.rest[k]&more != 0 {
			continue
		}
		if n < least || n > most {
			break
		}
		r.rest = r.rest[k+1:]
		return n
	}
	r.fail()
	return 0
}

// Text reads a text.
func (r *Reader) Text() string {
	n := r.Number(0, len(r.rest))
	if n > len(r.rest) {
		r.fail()
		return ""
	}
	text := r.rest[:n]
	r.rest = r.rest[n:]
	return text
}

// AtEnd: all was read, and nothing was wrong.
func (r *Reader) AtEnd() bool { return r.rest == "" && !r.wrong }
