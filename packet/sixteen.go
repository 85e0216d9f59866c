package packet

// turned are the last sixteen bits of 11000000000000101; its first one meets the 1 that moves out of the window.
const turned = 0x8005

// sixteen moves a window of sixteen bits on, one by one; ahead of it all bits are 0. A byte is laid over the window's first bits just before those are looked at, instead of coming in behind its last ones: the order of turnings makes no difference. So the sixteen 0s at the end need no steps of their own.
func sixteen(s string) int {
	window := uint16(0)
	for i := range len(s) {
		window ^= uint16(s[i]) << 8
		for range 8 {
			window = moveOn(window)
		}
	}
	return int(window)
}

func moveOn(window uint16) uint16 {
	if window&0x8000 == 0 {
		return window << 1
	}
	return window<<1 ^ turned
}
