// Package sum: CRC-32C, the sum that guards what lies on the device. See DOC.md, chapter 1.
package sum

import "bursar/api"

// A word is also a polynomial over the bits: its highest bit stands for 1, the next for x, and so on. To shift it by one place is to multiply by x, modulo the polynomial that overlay stands for.
const (
	overlay   = 0x82F63B78 // what is laid over a word when a bit 1 falls out of it
	one       = 1 << 31    // the polynomial 1
	oneByte   = one >> 8   // x to the 8th: what one byte 0 multiplies a word by
	maxLength = 1 << 40    // the longest string that Join and Patch speak of
	sumBytes  = 4          // the bytes of a sum behind what is sealed
)

// Sum tells the sum of b.
func Sum(b []byte) uint32 { return Update(0, b) }

// Update tells the sum of x+b from the sum of x.
func Update(sum uint32, b []byte) uint32 {
	table := byteTable()
	return ^feed(&table, ^sum, b)
}

// Join tells the sum of x+y from those of x and y and y's length.
func Join(a, b uint32, n int) (uint32, api.Errno) {
	if n < 0 || n > maxLength {
		return 0, api.ErrArg
	}
	return carry(a, n) ^ b, api.OK
}

// Patch tells the sum of a text of n bytes in which now stands in the place of old from at on, from the sum of what it was.
func Patch(sum uint32, n, at int, old, now []byte) (uint32, api.Errno) {
	if n < 0 || n > maxLength || at < 0 || at > n || len(old) != len(now) {
		return 0, api.ErrArg
	}
	// at + len(old) could leave the range of int; what is left behind at can't.
	behind := n - at - len(old)
	if behind < 0 {
		return 0, api.ErrArg
	}
	return sum ^ carry(Sum(old)^Sum(now), behind), api.OK
}

// Parts tells the sum of all parts, one behind the other.
func Parts(parts ...[]byte) uint32 {
	table := byteTable()
	word := ^uint32(0)
	for _, part := range parts {
		word = feed(&table, word, part)
	}
	return ^word
}

// Seal tells b with its sum behind it.
func Seal(b []byte) []byte {
	sealed := make([]byte, len(b), len(b)+sumBytes)
	copy(sealed, b)
	s := Sum(b)
	return append(sealed, byte(s), byte(s>>8), byte(s>>16), byte(s>>24))
}

// Open tells what was sealed.
func Open(b []byte) ([]byte, api.Errno) {
	n := len(b) - sumBytes
	if n < 0 {
		return nil, api.ErrShort
	}
	told := uint32(b[n]) | uint32(b[n+1])<<8 | uint32(b[n+2])<<16 | uint32(b[n+3])<<24
	if Sum(b[:n]) != told {
		return nil, api.ErrBad
	}
	opened := make([]byte, n)
	copy(opened, b)
	return opened, api.OK
}

// shift moves the word by one place, as every bit of a string does.
func shift(word uint32) uint32 {
	if word&1 != 0 {
		return word>>1 ^ overlay
	}
	return word >> 1
}

// byteTable tells, for each byte, what is laid over the rest of the word once the byte's eight places are shifted out. That is linear in the byte's bits, so the bytes of a single bit make all others. It is made anew for each call: nothing is kept, and so great a table may not stand at package level.
func byteTable() [256]uint32 {
	var table [256]uint32
	word := uint32(1)
	for bit := 128; bit > 0; bit /= 2 {
		word = shift(word)
		for higher := 0; higher < len(table); higher += 2 * bit {
			table[higher+bit] = table[higher] ^ word
		}
	}
	return table
}

// feed takes the bytes of b into the word.
func feed(table *[256]uint32, word uint32, b []byte) uint32 {
	for _, c := range b {
		word = table[byte(word)^c] ^ word>>8
	}
	return word
}

// carry tells what n bytes 0 make of a word that is the exclusive or of two sums: the ones that each sum begins and ends with fall out, so it is a multiplication alone.
func carry(word uint32, n int) uint32 {
	power := uint32(oneByte)
	for ; n > 0; n >>= 1 {
		if n&1 != 0 {
			word = times(word, power)
		}
		power = times(power, power)
	}
	return word
}

// times multiplies two words as polynomials.
func times(a, b uint32) uint32 {
	product := uint32(0)
	for ; a != 0; a <<= 1 {
		if a&one != 0 {
			product ^= b
		}
		b = shift(b)
	}
	return product
}
