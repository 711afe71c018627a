package measure

import (
	"math/bits"

	"platformfw/api"
)

const blockBytes = 64

var roundConstants = [64]uint32{
	0x428a2f98, 0x71374491, 0xb5c0fbcf, 0xe9b5dba5, 0x3956c25b, 0x59f111f1, 0x923f82a4, 0xab1c5ed5,
	0xd807aa98, 0x12835b01, 0x243185be, 0x550c7dc3, 0x72be5d74, 0x80deb1fe, 0x9bdc06a7, 0xc19bf174,
	0xe49b69c1, 0xefbe4786, 0x0fc19dc6, 0x240ca1cc, 0x2de92c6f, 0x4a7484aa, 0x5cb0a9dc, 0x76f988da,
	0x983e5152, 0xa831c66d, 0xb00327c8, 0xbf597fc7, 0xc6e00bf3, 0xd5a79147, 0x06ca6351, 0x14292967,
	0x27b70a85, 0x2e1b2138, 0x4d2c6dfc, 0x53380d13, 0x650a7354, 0x766a0abb, 0x81c2c92e, 0x92722c85,
	0xa2bfe8a1, 0xa81a664b, 0xc24b8b70, 0xc76c51a3, 0xd192e819, 0xd6990624, 0xf40e3585, 0x106aa070,
	0x19a4c116, 0x1e376c08, 0x2748774c, 0x34b0bcb5, 0x391c0cb3, 0x4ed8aa4a, 0x5b9cca4f, 0x682e6ff3,
	0x748f82ee, 0x78a5636f, 0x84c87814, 0x8cc70208, 0x90befffa, 0xa4506ceb, 0xbef9a3f7, 0xc67178f2,
}

// Sum returns the SHA-256 digest of s.
func Sum(s string) api.Digest {
	state := [8]uint32{0x6a09e667, 0xbb67ae85, 0x3c6ef372, 0xa54ff53a, 0x510e527f, 0x9b05688c, 0x1f83d9ab, 0x5be0cd19}
	whole := len(s) / blockBytes * blockBytes
	for at := 0; at < whole; at += blockBytes {
		state = compress(state, s[at:at+blockBytes])
	}
	tail := padded(s[whole:], uint64(len(s)))
	for at := 0; at < len(tail); at += blockBytes {
		state = compress(state, tail[at:at+blockBytes])
	}
	var d api.Digest
	for i, v := range state {
		for k := range 4 {
			d[4*i+k] = byte(v >> (24 - 8*k))
		}
	}
	return d
}

// padded returns the last bytes of a message of a length in bytes, with the padding.
func padded(rest string, length uint64) string {
	l := append([]byte(rest), 0x80)
	for len(l)%blockBytes != blockBytes-8 {
		l = append(l, 0)
	}
	for k := range 8 {
		l = append(l, byte(length<<3>>(56-8*k)))
	}
	return string(l)
}

// compress processes a block of a message.
func compress(state [8]uint32, block string) [8]uint32 {
	var w [64]uint32
	for i := range 16 {
		w[i] = uint32(block[4*i])<<24 | uint32(block[4*i+1])<<16 | uint32(block[4*i+2])<<8 | uint32(block[4*i+3])
	}
	for i := 16; i < 64; i++ {
		a, b := w[i-15], w[i-2]
		s0 := rotate(a, 7) ^ rotate(a, 18) ^ a>>3
		s1 := rotate(b, 17) ^ rotate(b, 19) ^ b>>10
		w[i] = w[i-16] + s0 + w[i-7] + s1
	}
	v := state
	for i := range 64 {
		a, e := v[0], v[4]
		s1 := rotate(e, 6) ^ rotate(e, 11) ^ rotate(e, 25)
		choice := e&v[5] ^ ^e&v[6]
		t1 := v[7] + s1 + choice + roundConstants[i] + w[i]
		s0 := rotate(a, 2) ^ rotate(a, 13) ^ rotate(a, 22)
		majority := a&v[1] ^ a&v[2] ^ v[1]&v[2]
		v = [8]uint32{t1 + s0 + majority, a, v[1], v[2], v[3] + t1, e, v[5], v[6]}
	}
	for i := range state {
		state[i] += v[i]
	}
	return state
}

// rotate rotates a word to the right.
func rotate(v uint32, n int) uint32 { return bits.RotateLeft32(v, -n) }
