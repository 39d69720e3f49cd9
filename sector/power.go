package sector

import "merestone/api"

// power is a disk's power, and how long it lasts.
type power struct {
	down bool
	left int // how many writes and barriers there are till it goes, that one counted; 0: it doesn't
}

// spend counts a write or barrier that would be done, which isn't if the power goes at it.
func (p *power) spend() api.Errno {
	if p.left == 0 {
		return api.OK
	}
	p.left--
	if p.left > 0 {
		return api.OK
	}
	p.down = true
	return api.ErrDown
}
