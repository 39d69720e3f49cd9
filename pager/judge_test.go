package pager_test

import (
	"encoding/binary"
	"fmt"
	"hash/crc32"
	"math/rand/v2"
	"slices"
	"strings"
	"testing"

	"merestone/api"
	"merestone/pager"
	"merestone/sector"
)

// The calls as the chapter lists them: this does not compile if one is another.
var (
	_ func(*sector.Disk) (*pager.Pager, api.Errno) = pager.Open
	_ func(*pager.Pager) (int, int)                = (*pager.Pager).Root
	_ func(*pager.Pager, int) ([]byte, api.Errno)  = (*pager.Pager).Read
	_ func(*pager.Pager, []byte) (int, api.Errno)  = (*pager.Pager).New
	_ func(*pager.Pager, ...int) api.Errno         = (*pager.Pager).Use
	_ func(*pager.Pager, ...int) api.Errno         = (*pager.Pager).Free
	_ func(*pager.Pager) int                       = (*pager.Pager).Room
	_ func(*pager.Pager, int) api.Errno            = (*pager.Pager).Flip
)

// A sector's bytes, the most data of a page, and the most sectors, written out.
const (
	size     = 512
	mostData = 505
	most     = 65536
)

// A reckoning of another kind

// judge keeps no states of pages, but all calls since the disk was opened, and reckons from them what a page is.
type judge struct {
	sectors   int
	calls     []call
	seq, root int
	cut       []int           // the root of a Flip that was cut off, if one was
	lost      bool            // ErrDown was answered
	has       map[int]content // what Read of each page has to answer, as far as that is known
	unsure    map[int]bool    // the pages of which a crash may forget what they have
}

// call is one that was not refused, and a page of it.
type call struct {
	name string
	page int
}

// content is what Read answers.
type content struct {
	data string
	e    api.Errno
}

func newJudge(sectors int) *judge {
	j := &judge{sectors: sectors, has: map[int]content{}, unsure: map[int]bool{}}
	for page := 2; page < sectors; page++ {
		j.has[page] = content{"", api.ErrSum}
	}
	return j
}

// opened makes the judge that of the disk as it is opened anew.
func (j *judge) opened() {
	j.calls, j.cut, j.lost = nil, nil, false
}

func (j *judge) note(name string, pages ...int) {
	for _, page := range pages {
		j.calls = append(j.calls, call{name, page})
	}
}

// is tells by the chapter's words what became of a page: is it in use, was it Freed, did New take it since the last Flip?
func (j *judge) is(page int) (inUse, wasFreed, isNew bool) {
	for _, c := range j.calls {
		mine := c.page == page
		switch {
		case c.name == "New" && mine:
			inUse, wasFreed, isNew = true, false, true
		case c.name == "Use" && mine:
			inUse, wasFreed = true, false
		case c.name == "Free" && mine && isNew:
			inUse = false
		case c.name == "Free" && mine:
			wasFreed = inUse
		case c.name == "Flip":
			inUse, wasFreed, isNew = inUse && !wasFreed, false, false
		}
	}
	return inUse, wasFreed, isNew
}

func (j *judge) room() int {
	n := j.sectors - 2
	seen := map[int]bool{0: true}
	for _, c := range j.calls {
		if inUse, _, _ := j.is(c.page); inUse && !seen[c.page] {
			n--
		}
		seen[c.page] = true
	}
	return n
}

func (j *judge) isNone(page int) bool {
	return page <= 1 || page >= j.sectors
}

// faultOfAny is the error of a call of those pages; down tells whether the power is gone.
func (j *judge) faultOfAny(down bool, pages ...int) api.Errno {
	switch {
	case down || j.lost:
		return api.ErrDown
	case slices.ContainsFunc(pages, j.isNone):
		return api.ErrArg
	}
	return api.OK
}

func (j *judge) faultOfNew(down bool, data string) api.Errno {
	switch {
	case down || j.lost:
		return api.ErrDown
	case len(data) > mostData:
		return api.ErrLarge
	case j.room() == 0:
		return api.ErrFull
	}
	return api.OK
}

func (j *judge) faultOfFlip(down bool, root int) api.Errno {
	inUse, wasFreed, _ := j.is(root)
	switch {
	case down || j.lost:
		return api.ErrDown
	case root != 0 && (j.isNone(root) || !inUse || wasFreed):
		return api.ErrArg
	}
	return api.OK
}

// forget takes back what is known of the pages that a crash may have changed.
func (j *judge) forget() {
	for page := range j.unsure {
		delete(j.has, page)
	}
	clear(j.unsure)
}

// What is done to both

// twin is a Pager with its disk, and their judge.
type twin struct {
	disk  *sector.Disk
	pager *pager.Pager
	judge *judge
	tale  []string
}

// A deed is a call, and how it is told.
type deed struct {
	name string
	do   func(t *testing.T, w *twin)
}

func twins(t *testing.T, sectors int) *twin {
	t.Helper()
	d := disk(t, sectors)
	w := &twin{disk: d, pager: opened(t, d), judge: newJudge(sectors)}
	w.hold(t)
	return w
}

// do does the deeds to both, and holds them against each other behind each.
func (w *twin) do(t *testing.T, deeds ...deed) {
	t.Helper()
	for _, x := range deeds {
		w.tale = append(w.tale, x.name)
		x.do(t, w)
		w.hold(t)
	}
}

// asked holds an error against the judge's, if the power did not go in the call.
func (w *twin) asked(t *testing.T, got, want api.Errno) {
	t.Helper()
	if want == api.OK && w.disk.Down() {
		want = api.ErrDown
	}
	if got != want {
		t.Errorf("%s: error %d, not %d", w, got, want)
	}
	if got == api.ErrDown {
		w.judge.lost = true
	}
}

func take(data string) deed {
	return deed{"New of " + brief([]byte(data)), func(t *testing.T, w *twin) {
		t.Helper()
		want := w.judge.faultOfNew(w.disk.Down(), data)
		page, e := w.pager.New([]byte(data))
		w.asked(t, e, want)
		switch {
		case e == api.OK:
			w.took(t, page, data)
		case page != 0:
			t.Errorf("%s: page %d beside error %d", w, page, e)
		case e == api.ErrDown && want == api.OK:
			w.mayHaveBeenWritten()
		}
	}}
}

func (w *twin) took(t *testing.T, page int, data string) {
	t.Helper()
	if inUse, _, _ := w.judge.is(page); inUse || w.judge.isNone(page) {
		t.Errorf("%s: took %d, which was not free", w, page)
	}
	w.judge.note("New", page)
	w.judge.has[page] = content{data, api.OK}
	w.judge.unsure[page] = true
}

// mayHaveBeenWritten lets all free pages be unsure: a New that was cut off does not tell which one it was to be.
func (w *twin) mayHaveBeenWritten() {
	for page := 2; page < w.judge.sectors; page++ {
		if inUse, _, _ := w.judge.is(page); !inUse {
			w.judge.unsure[page] = true
		}
	}
}

func use(pages ...int) deed {
	return deed{fmt.Sprintf("Use%v", pages), func(t *testing.T, w *twin) {
		t.Helper()
		want := w.judge.faultOfAny(w.disk.Down(), pages...)
		w.asked(t, w.pager.Use(pages...), want)
		if want == api.OK {
			w.judge.note("Use", pages...)
		}
	}}
}

func release(pages ...int) deed {
	return deed{fmt.Sprintf("Free%v", pages), func(t *testing.T, w *twin) {
		t.Helper()
		want := w.judge.faultOfAny(w.disk.Down(), pages...)
		w.asked(t, w.pager.Free(pages...), want)
		if want == api.OK {
			w.judge.note("Free", pages...)
		}
	}}
}

func flip(root int) deed {
	return deed{fmt.Sprintf("Flip(%d)", root), func(t *testing.T, w *twin) {
		t.Helper()
		want := w.judge.faultOfFlip(w.disk.Down(), root)
		e := w.pager.Flip(root)
		w.asked(t, e, want)
		switch {
		case e == api.OK:
			w.judge.note("Flip", 0)
			w.judge.seq, w.judge.root = w.judge.seq+1, root
			clear(w.judge.unsure)
		case e == api.ErrDown && want == api.OK:
			w.judge.cut = []int{root}
		}
	}}
}

func limit(n int) deed {
	return deed{fmt.Sprintf("Limit(%d)", n), func(t *testing.T, w *twin) { w.disk.Limit(n) }}
}

// crash leaves the Pager as it is: what it answers then hangs on what it answered.
func crash(mask uint64) deed {
	return deed{fmt.Sprintf("Crash(%x)", mask), func(t *testing.T, w *twin) {
		if w.judge.cut == nil {
			w.judge.forget()
		}
		w.disk.Crash(mask)
	}}
}

// again opens the disk anew; if it has no power, that is refused.
func again() deed {
	return deed{"Open", func(t *testing.T, w *twin) {
		t.Helper()
		p, e := pager.Open(w.disk)
		if w.disk.Down() {
			if p != nil || e != api.ErrDown {
				t.Errorf("%s: %v, error %d, not %d", w, p, e, api.ErrDown)
			}
			return
		}
		if p == nil || e != api.OK {
			t.Errorf("%s: %v, error %d", w, p, e)
			return
		}
		w.pager = p
		w.settled()
		w.judge.opened()
	}}
}

// settled looks at the root that was opened: behind a Flip that was cut off it is the old one, or the new one, and then the pages are sure.
func (w *twin) settled() {
	j := w.judge
	if j.cut == nil {
		return
	}
	if seq, root := w.pager.Root(); seq == j.seq+1 && root == j.cut[0] {
		j.seq, j.root = seq, root
		clear(j.unsure)
	}
	j.forget()
}

// crashed is a Crash behind which the disk is opened anew.
func crashed(mask uint64) deed {
	return deed{fmt.Sprintf("Crash(%x) and Open", mask), func(t *testing.T, w *twin) {
		t.Helper()
		crash(mask).do(t, w)
		again().do(t, w)
	}}
}

func (w *twin) hold(t *testing.T) {
	t.Helper()
	j := w.judge
	if seq, root := w.pager.Root(); seq != j.seq || root != j.root {
		t.Errorf("%s: Root %d, %d, not %d, %d", w, seq, root, j.seq, j.root)
	}
	if got, want := w.pager.Room(), j.room(); got != want {
		t.Errorf("%s: Room %d, not %d", w, got, want)
	}
	for _, page := range places(j.sectors) {
		w.holdPage(t, page)
	}
}

// holdPage holds what a page has against what is known of it; if nothing is, it is known from now on.
func (w *twin) holdPage(t *testing.T, page int) {
	t.Helper()
	down := w.disk.Down()
	b, e := w.pager.Read(page)
	got := content{string(b), e}
	want, known := w.judge.has[page]
	if fault := w.judge.faultOfAny(down, page); fault != api.OK {
		want, known = content{"", fault}, true
	}
	if !known {
		w.judge.has[page], want = got, got
	}
	if got != want || e != api.OK && len(b) > 0 {
		t.Errorf("%s: page %d has %s, error %d, not %s, %d", w, page, brief(b), e, brief([]byte(want.data)), want.e)
	}
	w.judge.lost = w.judge.lost || down
}

func (w *twin) String() string {
	return fmt.Sprintf("%d sectors, %s", w.judge.sectors, strings.Join(w.tale, ", "))
}

// places are the pages that are looked at: all of them and some that are none, but of many some here and there.
func places(n int) []int {
	var list []int
	for page := -2; page <= min(n, 40)+1; page++ {
		list = append(list, page)
	}
	if n > 40 {
		list = append(list, n/2, n-1, n, n+1)
	}
	return list
}

// What is asked for

func disk(t *testing.T, sectors int) *sector.Disk {
	t.Helper()
	d, e := sector.New(sectors)
	if e != api.OK {
		t.Fatalf("New(%d): error %d", sectors, e)
	}
	return d
}

func opened(t *testing.T, d *sector.Disk) *pager.Pager {
	t.Helper()
	p, e := pager.Open(d)
	if p == nil || e != api.OK {
		t.Fatalf("Open: %v, error %d", p, e)
	}
	return p
}

func refuseOpen(t *testing.T, d *sector.Disk, fault api.Errno) {
	t.Helper()
	if p, e := pager.Open(d); p != nil || e != fault {
		t.Errorf("Open: %v, error %d, not %d", p, e, fault)
	}
}

// made has a page for the data.
func made(t *testing.T, p *pager.Pager, data string) int {
	t.Helper()
	page, e := p.New([]byte(data))
	if e != api.OK {
		t.Fatalf("New of %s: error %d", brief([]byte(data)), e)
	}
	return page
}

// madeAll has a page for each.
func madeAll(t *testing.T, p *pager.Pager, list ...string) []int {
	t.Helper()
	var pages []int
	for _, data := range list {
		pages = append(pages, made(t, p, data))
	}
	return pages
}

func refuseNew(t *testing.T, p *pager.Pager, data string, fault api.Errno) {
	t.Helper()
	if page, e := p.New([]byte(data)); page != 0 || e != fault {
		t.Errorf("New of %s: %d, error %d, not %d", brief([]byte(data)), page, e, fault)
	}
}

// give asks for an error, which may be OK.
func give(t *testing.T, name string, got, want api.Errno) {
	t.Helper()
	if got != want {
		t.Errorf("%s: error %d, not %d", name, got, want)
	}
}

func giveRead(t *testing.T, p *pager.Pager, page int, want string) {
	t.Helper()
	if b, e := p.Read(page); string(b) != want || e != api.OK {
		t.Errorf("Read(%d): %s, error %d, not %s", page, brief(b), e, brief([]byte(want)))
	}
}

func refuseRead(t *testing.T, p *pager.Pager, page int, fault api.Errno) {
	t.Helper()
	if b, e := p.Read(page); len(b) != 0 || e != fault {
		t.Errorf("Read(%d): %s, error %d, not %d", page, brief(b), e, fault)
	}
}

func giveRoot(t *testing.T, p *pager.Pager, seq, root int) {
	t.Helper()
	if s, r := p.Root(); s != seq || r != root {
		t.Errorf("Root: %d, %d, not %d, %d", s, r, seq, root)
	}
}

func giveRoom(t *testing.T, p *pager.Pager, want int) {
	t.Helper()
	if got := p.Room(); got != want {
		t.Errorf("Room: %d, not %d", got, want)
	}
}

// brief is bytes to be shown, cut where they are many.
func brief(b []byte) string {
	if len(b) > 20 {
		return fmt.Sprintf("%d bytes %q ..", len(b), b[:8])
	}
	return fmt.Sprintf("%q", b)
}

// Bytes to be tried

// sealed is a sector of those parts by the words of chapter 13, its sum right.
func sealed(kind byte, data string) []byte {
	b := make([]byte, size)
	b[4] = kind
	binary.BigEndian.PutUint16(b[5:], uint16(len(data)))
	copy(b[7:], data)
	return righted(b)
}

// righted makes a sector's sum right.
func righted(b []byte) []byte {
	binary.BigEndian.PutUint32(b, crc32.ChecksumIEEE(b[4:]))
	return b
}

// mixed answers bytes in no order, the same ones for the same seed.
func mixed(many int, seed uint64) []byte {
	from := rand.New(rand.NewPCG(seed, 16))
	b := make([]byte, many)
	for i := range b {
		b[i] = byte(from.Uint32())
	}
	return b
}
