// Package sha is layer 1: SHA-256, step by step: see shared/doc/01-sha.md.
package sha

import (
	"hypostyle/api"
)

// mostBytes is how many bytes a message has at most.
const mostBytes = 1<<31 - 1

// constants are K0 to K63.
var constants = [64]uint32{
	0x428a2f98, 0x71374491, 0xb5c0fbcf, 0xe9b5dba5, 0x3956c25b, 0x59f111f1, 0x923f82a4, 0xab1c5ed5,
	0xd807aa98, 0x12835b01, 0x243185be, 0x550c7dc3, 0x72be5d74, 0x80deb1fe, 0x9bdc06a7, 0xc19bf174,
	0xe49b69c1, 0xefbe4786, 0x0fc19dc6, 0x240ca1cc, 0x2de92c6f, 0x4a7484aa, 0x5cb0a9dc, 0x76f988da,
	0x983e5152, 0xa831c66d, 0xb00327c8, 0xbf597fc7, 0xc6e00bf3, 0xd5a79147, 0x06ca6351, 0x14292967,
	0x27b70a85, 0x2e1b2138, 0x4d2c6dfc, 0x53380d13, 0x650a7354, 0x766a0abb, 0x81c2c92e, 0x92722c85,
	0xa2bfe8a1, 0xa81a664b, 0xc24b8b70, 0xc76c51a3, 0xd192e819, 0xd6990624, 0xf40e3585, 0x106aa070,
	0x19a4c116, 0x1e376c08, 0x2748774c, 0x34b0bcb5, 0x391c0cb3, 0x4ed8aa4a, 0x5b9cca4f, 0x682e6ff3,
	0x748f82ee, 0x78a5636f, 0x84c87814, 0x8cc70208, 0x90befffa, 0xa4506ceb, 0xbef9a3f7, 0xc67178f2,
}

// First tells the state ahead of the first block.
func First() [8]uint32 {
	return [8]uint32{0x6a09e667, 0xbb67ae85, 0x3c6ef372, 0xa54ff53a, 0x510e527f, 0x9b05688c, 0x1f83d9ab, 0x5be0cd19}
}

// turn turns a word to the right.
func turn(x uint32, n int) uint32 { return x>>n | x<<(32-n) }

// schedule tells the words W0 to W63 of a block.
func schedule(block [64]byte) [64]uint32 {
	var w [64]uint32
	for t := range 16 {
		w[t] = uint32(block[4*t])<<24 | uint32(block[4*t+1])<<16 | uint32(block[4*t+2])<<8 | uint32(block[4*t+3])
	}
	for t := 16; t < 64; t++ {
		x, y := w[t-15], w[t-2]
		s := turn(x, 7) ^ turn(x, 18) ^ x>>3
		z := turn(y, 17) ^ turn(y, 19) ^ y>>10
		w[t] = w[t-16] + s + w[t-7] + z
	}
	return w
}

// Compress tells the state behind a block, of the one ahead of it.
func Compress(h [8]uint32, block [64]byte) [8]uint32 {
	w := schedule(block)
	a, b, c, d, e, f, g, i := h[0], h[1], h[2], h[3], h[4], h[5], h[6], h[7]
	for t := range 64 {
		p := i + (turn(e, 6) ^ turn(e, 11) ^ turn(e, 25)) + (e&f ^ ^e&g) + constants[t] + w[t]
		q := (turn(a, 2) ^ turn(a, 13) ^ turn(a, 22)) + (a&b ^ a&c ^ b&c)
		i, g, f, e, d, c, b, a = g, f, e, d+p, c, b, a, p+q
	}
	return [8]uint32{h[0] + a, h[1] + b, h[2] + c, h[3] + d, h[4] + e, h[5] + f, h[6] + g, h[7] + i}
}

// Pad tells what stands behind a message of n bytes.
func Pad(n int) []byte {
	if n < 0 || n > mostBytes {
		return nil
	}
	zeros := 63 - (n+8)%64
	pad := make([]byte, 1+zeros+8)
	pad[0] = 0x80
	for k := range 8 {
		pad[1+zeros+k] = byte(8 * n >> (56 - 8*k))
	}
	return pad
}

// Sum tells the SHA-256 of b.
func Sum(b []byte) api.Digest {
	h := First()
	whole := len(b) - len(b)%64
	for at := 0; at < whole; at += 64 {
		h = Compress(h, [64]byte(b[at:at+64]))
	}
	// Only what is left of b is copied: b itself has no room that may be written to.
	rest := append(append([]byte(nil), b[whole:]...), Pad(len(b))...)
	for len(rest) >= 64 {
		h = Compress(h, [64]byte(rest[:64]))
		rest = rest[64:]
	}
	var d api.Digest
	for k := range d {
		d[k] = byte(h[k/4] >> (24 - k%4*8))
	}
	return d
}
