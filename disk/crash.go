package disk

import "arboretum/api"

// The remainders of a fate: what becomes of a sector that was pending.
const (
	lost = iota
	kept
	torn
	fates // how many there are
)

// Crash lets it live again; of the pending sectors how says which are lost, kept, torn.
func (d *Disk) Crash(how []int) {
	for k, n := range d.Pending() {
		fate := lost
		if k < len(how) {
			fate = how[k]
		}
		d.sectors[n] = behind(fate, d.old[n], d.sectors[n])
	}
	d.settle()
	d.left, d.dead = 0, false
}

// behind is what a crash of that fate leaves of a sector.
func behind(fate int, old, now sector) sector {
	if fate < 0 {
		fate = -(fate + 1) // with the 1, the least number of all has one above 0, too
	}
	switch fate % fates {
	case kept:
		return now
	case torn:
		b := fate / fates % (api.Sector + 1)
		copy(old[:b], now[:b])
	}
	return old
}
