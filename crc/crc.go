// Package crc is layer 1: a check sum over bytes: see shared/doc/01-crc.md.
package crc

// halves holds what each half byte makes of a sum: bytes are taken by halves so that the table stays short.
var halves = [16]uint32{
	0x00000000, 0x1DB71064, 0x3B6E20C8, 0x26D930AC,
	0x76DC4190, 0x6B6B51F4, 0x4DB26158, 0x5005713C,
	0xEDB88320, 0xF00F9344, 0xD6D6A3E8, 0xCB61B38C,
	0x9B64C2B0, 0x86D3D2D4, 0xA00AE278, 0xBDBDF21C,
}

// Sum is the sum of texts.
func Sum(l ...string) uint32 { return More(0, l...) }

// More is the sum with more texts behind.
func More(sum uint32, l ...string) uint32 {
	state := ^sum // a sum was turned at its end: turned back, it goes on
	for _, s := range l {
		state = text(state, s)
	}
	return ^state
}

func text(state uint32, s string) uint32 {
	for i := 0; i < len(s); i++ {
		state = half(half(state ^ uint32(s[i])))
	}
	return state
}

func half(state uint32) uint32 { return state>>4 ^ halves[state&15] }
