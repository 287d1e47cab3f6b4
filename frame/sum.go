// Package frame: the bytes in which a machine is written down.
package frame

const (
	allOnes = 1<<32 - 1
	turner  = 0xedb88320
)

// Sum is the CRC-32 in common use of the bytes of s.
func Sum(s string) int {
	sum := allOnes
	for i := 0; i < len(s); i++ {
		sum = sum ^ int(s[i])
		for bit := 0; bit < 8; bit++ {
			fell := sum & 1
			sum = sum >> 1
			if fell == 1 {
				sum = sum ^ turner
			}
		}
	}
	return sum ^ allOnes
}
