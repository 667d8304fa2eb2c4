package natural

import (
	"slices"
	"strconv"

	"robuststats/api"
)

// A chunk is the greatest number of decimal digits that always fits into a limb.
const (
	chunkDigits = 9
	chunkBase   = 1_000_000_000
)

// Format returns the decimal digits.
func Format(a []uint32) string {
	rest := slices.Clone(known(a))
	var chunks []uint32
	for len(rest) > 0 {
		chunks = append(chunks, divideByLimb(rest, chunkBase))
		rest = trim(rest)
	}
	if len(chunks) == 0 {
		return "0"
	}
	last := len(chunks) - 1
	text := strconv.AppendUint(nil, uint64(chunks[last]), 10)
	for i := last - 1; i >= 0; i-- {
		// The digit 1 in front keeps the zeros at the start of the chunk.
		text = append(text, strconv.Itoa(chunkBase + int(chunks[i]))[1:]...)
	}
	return string(text)
}

// Parse reads decimal digits.
func Parse(s string) (a []uint32, ok bool) {
	if !isDecimal(s) {
		return nil, false
	}
	for len(s) > 0 {
		// The first chunk takes the digits that are left over when the others are full.
		n := (len(s)-1)%chunkDigits + 1
		a = appendChunk(a, s[:n])
		s = s[n:]
	}
	return a, true
}

// isDecimal reports whether s is what Format writes for some number of at most MaxDigits digits.
func isDecimal(s string) bool {
	if len(s) == 0 || len(s) > api.MaxDigits || len(s) > 1 && s[0] == '0' {
		return false
	}
	for i := range len(s) {
		if s[i] < '0' || s[i] > '9' {
			return false
		}
	}
	return true
}

// appendChunk replaces a by the number whose digits are those of a and of a chunk behind them.
func appendChunk(a []uint32, chunk string) []uint32 {
	carry, _ := strconv.ParseUint(chunk, 10, limbBits)
	for i, limb := range a {
		carry += uint64(limb) * chunkBase
		a[i] = uint32(carry)
		carry >>= limbBits
	}
	if carry > 0 {
		a = append(a, uint32(carry))
	}
	return a
}
