package code

// nibbles is what four bits make of a sum: bit by bit, from the lowest one on,
// each 1 that goes turns what is left by 0xEDB88320.
var nibbles = [16]uint32{
	0x00000000, 0x1DB71064, 0x3B6E20C8, 0x26D930AC,
	0x76DC4190, 0x6B6B51F4, 0x4DB26158, 0x5005713C,
	0xEDB88320, 0xF00F9344, 0xD6D6A3E8, 0xCB61B38C,
	0x9B64C2B0, 0x86D3D2D4, 0xA00AE278, 0xBDBDF21C,
}

// Sum is the CRC-32 of b.
func Sum(b string) uint32 {
	sum := ^uint32(0)
	for i := range len(b) {
		sum ^= uint32(b[i])
		sum = sum>>4 ^ nibbles[sum&15]
		sum = sum>>4 ^ nibbles[sum&15]
	}
	return ^sum
}

const wordBytes = 4

// word is a number as four bytes, the highest first.
func word(n uint32) string {
	return string([]byte{byte(n >> 24), byte(n >> 16), byte(n >> 8), byte(n)})
}
