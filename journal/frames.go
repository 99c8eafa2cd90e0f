package journal

import (
	"iter"
	"slices"

	"parlance/api"
)

// headSize: the bytes of a frame ahead of its payload.
const headSize = 12

// frame is a frame that was read, and the byte behind it.
type frame struct {
	generation uint32
	payload    []byte
	end        int
}

// Sum: the CRC-32 of all parts.
func Sum(parts ...[]byte) uint32 {
	sum := ^uint32(0)
	for _, part := range parts {
		for _, c := range part {
			sum = shift(sum ^ uint32(c))
		}
	}
	return ^sum
}

// shift takes the lowest eight bits off a sum.
func shift(sum uint32) uint32 {
	for range 8 {
		if sum&1 == 1 {
			sum = sum>>1 ^ 3988292384
		} else {
			sum >>= 1
		}
	}
	return sum
}

// number: four bytes, that of the greatest weight first.
func number(n uint32) []byte {
	return []byte{byte(n >> 24), byte(n >> 16), byte(n >> 8), byte(n)}
}

// value: the number of four bytes.
func value(b []byte) uint32 {
	return uint32(b[0])<<24 | uint32(b[1])<<16 | uint32(b[2])<<8 | uint32(b[3])
}

// head: what stands ahead of a frame's payload.
func head(generation uint32, payload []byte) []byte {
	b := append(number(generation), number(uint32(len(payload)))...)
	return append(b, number(Sum(b, payload))...)
}

// frames goes through the frames at the beginning of b, up to the first that isn't whole or right.
func frames(b []byte) iter.Seq[frame] {
	return func(yield func(frame) bool) {
		at := 0
		for len(b)-at >= headSize {
			size := int(value(b[at+4:]))
			if size > api.MaxRecord || size > len(b)-at-headSize {
				return
			}
			start := at + headSize
			payload := b[start : start+size]
			if Sum(b[at:at+8], payload) != value(b[at+8:]) {
				return
			}
			x := frame{value(b[at:]), slices.Clone(payload), start + size}
			if !yield(x) {
				return
			}
			at = x.end
		}
	}
}

// readBase: a base's generation and records; false, if these bytes aren't a base.
func readBase(b []byte) (uint32, [][]byte, bool) {
	var generation, count uint32
	var records [][]byte
	end := 0
	for x := range frames(b) {
		switch {
		case end == 0 && len(x.payload) == 4:
			generation, count = x.generation, value(x.payload)
		case end == 0 || x.generation != generation:
			return 0, nil, false
		default:
			records = append(records, x.payload)
		}
		end = x.end
	}
	if end == 0 || end != len(b) || len(records) != int(count) {
		return 0, nil, false
	}
	return generation, records, true
}

// readLog: a log's records of a generation, and the byte behind them.
func readLog(b []byte, generation uint32) ([][]byte, int) {
	var records [][]byte
	end := 0
	for x := range frames(b) {
		if x.generation != generation {
			break
		}
		records = append(records, x.payload)
		end = x.end
	}
	return records, end
}
