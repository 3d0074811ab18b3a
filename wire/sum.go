package wire

// The sum of bytes is made byte by byte (FNV-1a). Each step takes other sums to
// other sums, and other bytes to other sums: so bytes that differ at one place
// alone never have the same sum.
const (
	sumStart  = 2166136261
	sumFactor = 16777619
	sumBytes  = 4
)

func sum(bytes []byte) uint32 {
	s := uint32(sumStart)
	for _, b := range bytes {
		s = (s ^ uint32(b)) * sumFactor
	}
	return s
}

// Seal writes the sum of all bytes behind them.
func Seal(out []byte) []byte {
	s := sum(out)
	for range sumBytes {
		out = append(out, byte(s))
		s >>= 8
	}
	return out
}

// Unseal is the bytes that were sealed: not ok, if they are not as they were.
func Unseal(bytes string) (inside string, ok bool) {
	end := len(bytes) - sumBytes
	if end < 0 || string(Seal([]byte(bytes[:end]))) != bytes {
		return "", false
	}
	return bytes[:end], true
}
