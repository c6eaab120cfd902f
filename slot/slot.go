// Package slot: the hash slots of keys. See DOC.md, chapter 1.
package slot

import (
	"strings"

	"caravan/api"
)

// The polynomial 0x1021 together with its term x^16, which the short form
// leaves out: so taking it off clears the bit against which it is held.
const (
	degree     = 16
	polynomial = 1<<degree | 0x1021
)

// Crc is the CRC-16 that determines the slots (1.1).
func Crc(b []byte) int {
	var crc uint32
	for _, c := range b {
		crc = remainder(crc<<8 ^ uint32(c)<<degree)
	}
	return int(crc)
}

// remainder divides by the polynomial; the dividend has at most degree+8 bits,
// since one byte goes in at a time.
func remainder(dividend uint32) uint32 {
	rest := dividend
bits:
	for shift := 7; shift >= 0; shift-- {
		// Below the degree nothing can be divided any more.
		if rest>>degree == 0 {
			break bits
		}
		if rest>>(degree+shift)&1 == 1 {
			rest ^= polynomial << shift
		}
	}
	return rest
}

// Tag lets keys be put into one slot on purpose: only these bytes count (1.2).
func Tag(key string) string {
	_, behind, found := strings.Cut(key, "{")
	if !found {
		return key
	}
	tag, _, found := strings.Cut(behind, "}")
	if !found || tag == "" {
		return key
	}
	return tag
}

// Of is the slot of a key (1.2).
func Of(key string) int {
	return Crc([]byte(Tag(key))) % api.Slots
}

// One is the slot of all the keys, if they share one (1.2).
func One(keys ...string) (slot int, ok bool) {
	if len(keys) == 0 {
		return 0, false
	}
	slot = Of(keys[0])
	for _, key := range keys[1:] {
		if Of(key) != slot {
			return 0, false
		}
	}
	return slot, true
}
