package pager

// state is what a page is. What New took since the last Flip is told apart: no root that is on the disk leads to it, so that it may be free at once.
type state uint8

const (
	free  state = iota
	spare       // free, and New took it since the last Flip
	taken       // in use, and New took it since the last Flip
	kept        // in use
	freed       // in use till the next Flip
)

func (s state) isFree() bool {
	return s == free || s == spare
}

// used answers what a page in that state is behind Use.
func used(s state) state {
	if s == spare || s == taken {
		return taken
	}
	return kept
}

// released answers what a page in that state is behind Free.
func released(s state) state {
	switch s {
	case taken:
		return spare
	case kept:
		return freed
	}
	return s
}

// flipped answers what a page in that state is behind a Flip.
func flipped(s state) state {
	if s == taken || s == kept {
		return kept
	}
	return free
}

// table has the states of all pages, by their numbers.
type table struct {
	states []state // those of the sectors ahead of the pages are not looked at
	room   int     // how many pages are free
	low    int     // no page ahead of it is free
}

// allFree answers the table of a disk that has so many sectors.
func allFree(sectors int) table {
	return table{states: make([]state, sectors), room: sectors - flipSectors, low: flipSectors}
}

func (t *table) has(page int) bool {
	return isPage(page, len(t.states))
}

func (t *table) mayBeRoot(page int) bool {
	return t.has(page) && (t.states[page] == taken || t.states[page] == kept)
}

// firstFree answers the first page that is free, if there is one.
func (t *table) firstFree() (page int, there bool) {
	for t.has(t.low) && !t.states[t.low].isFree() {
		t.low++
	}
	return t.low, t.has(t.low)
}

// set puts a page into a state.
func (t *table) set(page int, now state) {
	if t.states[page].isFree() {
		t.room--
	}
	t.states[page] = now
	if now.isFree() {
		t.room++
		t.low = min(t.low, page)
	}
}

// flip puts all pages into the states that they have behind a Flip.
func (t *table) flip() {
	for page := flipSectors; page < len(t.states); page++ {
		t.set(page, flipped(t.states[page]))
	}
}

// isPage answers whether a disk of so many sectors has that page.
func isPage(page, sectors int) bool {
	return page >= flipSectors && page < sectors
}
