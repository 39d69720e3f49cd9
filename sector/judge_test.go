package sector_test

import (
	"bytes"
	"fmt"
	"math/rand/v2"
	"slices"
	"strings"
	"testing"

	"merestone/api"
	"merestone/sector"
)

// The calls as the chapter lists them: this does not compile if one is another.
var (
	_ func(int) (*sector.Disk, api.Errno)         = sector.New
	_ func(*sector.Disk, int) ([]byte, api.Errno) = (*sector.Disk).Read
	_ func(*sector.Disk, int, []byte) api.Errno   = (*sector.Disk).Write
	_ func(*sector.Disk) api.Errno                = (*sector.Disk).Barrier
	_ func(*sector.Disk, int) api.Errno           = (*sector.Disk).Limit
	_ func(*sector.Disk, uint64) api.Errno        = (*sector.Disk).Crash
	_ func(*sector.Disk) int                      = (*sector.Disk).Len
	_ func(*sector.Disk) bool                     = (*sector.Disk).Down
	_ func(*sector.Disk) []api.Write              = (*sector.Disk).Unsure
	_ func(*sector.Disk) *sector.Disk             = (*sector.Disk).Copy
)

// A sector's bytes, and the most sectors, written out.
const (
	size = 512
	most = 65536
)

// drive is what a disk and its judge have in common.
type drive interface {
	Read(at int) ([]byte, api.Errno)
	Write(at int, b []byte) api.Errno
	Barrier() api.Errno
	Limit(n int) api.Errno
	Crash(mask uint64) api.Errno
	Len() int
	Down() bool
	Unsure() []api.Write
}

// A reckoning of another kind

// judge keeps no sectors, but the log of all writes that were ever done, each with what became of it.
type judge struct {
	sectors int
	log     []entry
	done    uint64 // writes and barriers
	limited bool
	stop    uint64 // the one that is not done, counted as done counts
	down    bool
}

type entry struct {
	at   int
	data []byte
	fate string
}

const (
	open      = "unsure"
	kept      = "sure"
	forgotten = "forgotten"
)

func (j *judge) none(at int) bool {
	return at <= -1 || at >= j.sectors
}

func (j *judge) Read(at int) ([]byte, api.Errno) {
	switch {
	case j.down:
		return nil, api.ErrDown
	case j.none(at):
		return nil, api.ErrArg
	}
	for _, one := range slices.Backward(j.log) {
		if one.at == at && one.fate != forgotten {
			return one.data, api.OK
		}
	}
	return noughts(size), api.OK
}

// goes tells whether the power goes at what would be done now.
func (j *judge) goes() bool {
	j.down = j.limited && j.done == j.stop
	if !j.down {
		j.done++
	}
	return j.down
}

func (j *judge) Write(at int, b []byte) api.Errno {
	switch {
	case j.down:
		return api.ErrDown
	case j.none(at), len(b) != size:
		return api.ErrArg
	case j.goes():
		return api.ErrDown
	}
	j.log = append(j.log, entry{at, b, open})
	return api.OK
}

func (j *judge) Barrier() api.Errno {
	if j.down || j.goes() {
		return api.ErrDown
	}
	j.end(func(int) bool { return true })
	return api.OK
}

func (j *judge) Limit(n int) api.Errno {
	if n < 0 {
		return api.ErrArg
	}
	j.limited = n > 0
	j.stop = j.done + uint64(n) - 1
	return api.OK
}

func (j *judge) Crash(mask uint64) api.Errno {
	digits := fmt.Sprintf("%064b", mask)
	j.end(func(k int) bool { return digits[63-k%64] == '1' })
	j.down, j.limited = false, false
	return api.OK
}

// end tells of all that is unsure what becomes of it.
func (j *judge) end(lasts func(k int) bool) {
	k := 0
	for i := range j.log {
		one := &j.log[i]
		if one.fate != open {
			continue
		}
		one.fate = forgotten
		if lasts(k) {
			one.fate = kept
		}
		k++
	}
}

func (j *judge) Len() int {
	return j.sectors
}

func (j *judge) Down() bool {
	return j.down
}

func (j *judge) Unsure() []api.Write {
	var list []api.Write
	for _, one := range j.log {
		if one.fate == open {
			list = append(list, api.Write{At: one.at, Data: one.data})
		}
	}
	return list
}

func (j *judge) copied() *judge {
	other := *j
	other.log = slices.Clone(j.log)
	return &other
}

// What is done to both

// A deed is a call, and how it is told.
type deed struct {
	name string
	do   func(d drive) api.Errno
}

func write(at int, tag byte) deed {
	return deed{fmt.Sprintf("Write(%d, %d)", at, tag), func(d drive) api.Errno { return d.Write(at, full(tag)) }}
}

// writeOf writes a list of another length.
func writeOf(at, length int) deed {
	return deed{fmt.Sprintf("Write(%d, %d bytes)", at, length), func(d drive) api.Errno { return d.Write(at, mixed(length, 3)) }}
}

func barrier() deed {
	return deed{"Barrier", drive.Barrier}
}

func limit(n int) deed {
	return deed{fmt.Sprintf("Limit(%d)", n), func(d drive) api.Errno { return d.Limit(n) }}
}

func crash(mask uint64) deed {
	return deed{fmt.Sprintf("Crash(%x)", mask), func(d drive) api.Errno { return d.Crash(mask) }}
}

// twin is a disk, and its judge.
type twin struct {
	disk  *sector.Disk
	judge *judge
	tale  []string
}

func twins(t *testing.T, n int) *twin {
	t.Helper()
	return &twin{disk: made(t, n), judge: &judge{sectors: n}}
}

// do does the deeds to both, and holds them against each other behind each.
func (w *twin) do(t *testing.T, deeds ...deed) {
	t.Helper()
	for _, x := range deeds {
		w.tale = append(w.tale, x.name)
		if got, want := x.do(w.disk), x.do(w.judge); got != want {
			t.Errorf("%s: error %d, not %d", w, got, want)
		}
		w.hold(t)
	}
}

func (w *twin) hold(t *testing.T) {
	t.Helper()
	if got, want := w.disk.Down(), w.judge.Down(); got != want {
		t.Errorf("%s: Down %t, not %t", w, got, want)
	}
	if got, want := w.disk.Len(), w.judge.Len(); got != want {
		t.Errorf("%s: Len %d, not %d", w, got, want)
	}
	if got, want := w.disk.Unsure(), w.judge.Unsure(); !sameWrites(got, want) {
		t.Errorf("%s: Unsure is %s, not %s", w, shown(got), shown(want))
	}
	for _, at := range places(w.judge.sectors) {
		got, e := w.disk.Read(at)
		want, fault := w.judge.Read(at)
		if !bytes.Equal(got, want) || e != fault {
			t.Errorf("%s: sector %d is %s, error %d, not %s, %d", w, at, brief(got), e, brief(want), fault)
		}
	}
}

// copied is another pair, with a Copy of the disk.
func (w *twin) copied() *twin {
	return &twin{w.disk.Copy(), w.judge.copied(), append(slices.Clone(w.tale), "Copy")}
}

func (w *twin) String() string {
	return fmt.Sprintf("%d sectors, %s", w.judge.sectors, strings.Join(w.tale, ", "))
}

// places are the sectors that are looked at: all of them and some that are none, but of many some here and there.
func places(n int) []int {
	var list []int
	for at := -2; at <= min(n, 80)+1; at++ {
		list = append(list, at)
	}
	return append(list, n/2, n-1, n, n+1)
}

// What is asked for

func made(t *testing.T, n int) *sector.Disk {
	t.Helper()
	d, e := sector.New(n)
	if d == nil || e != api.OK {
		t.Fatalf("New(%d): %v, error %d", n, d, e)
	}
	return d
}

// succeed asks for no error.
func succeed(t *testing.T, d drive, deeds ...deed) {
	t.Helper()
	for _, x := range deeds {
		if e := x.do(d); e != api.OK {
			t.Errorf("%s: error %d", x.name, e)
		}
	}
}

func refuse(t *testing.T, d drive, fault api.Errno, deeds ...deed) {
	t.Helper()
	for _, x := range deeds {
		if e := x.do(d); e != fault {
			t.Errorf("%s: error %d, not %d", x.name, e, fault)
		}
	}
}

func giveRead(t *testing.T, d *sector.Disk, at int, want []byte) {
	t.Helper()
	if b, e := d.Read(at); !bytes.Equal(b, want) || e != api.OK {
		t.Errorf("Read(%d): %s, error %d, not %s", at, brief(b), e, brief(want))
	}
}

// giveTags asks for the sectors from 0 on, each by the tag of what it is full of; 0 is a new one.
func giveTags(t *testing.T, d *sector.Disk, tags ...byte) {
	t.Helper()
	for at, tag := range tags {
		giveRead(t, d, at, full(tag))
	}
}

func refuseRead(t *testing.T, d *sector.Disk, at int, fault api.Errno) {
	t.Helper()
	if b, e := d.Read(at); len(b) != 0 || e != fault {
		t.Errorf("Read(%d): %s, error %d, not %d", at, brief(b), e, fault)
	}
}

func giveDown(t *testing.T, d *sector.Disk, want bool) {
	t.Helper()
	if got := d.Down(); got != want {
		t.Errorf("Down: %t, not %t", got, want)
	}
}

func giveUnsure(t *testing.T, d *sector.Disk, want ...api.Write) {
	t.Helper()
	if got := d.Unsure(); !sameWrites(got, want) {
		t.Errorf("Unsure: %s, not %s", shown(got), shown(want))
	}
}

func wrote(at int, tag byte) api.Write {
	return api.Write{At: at, Data: full(tag)}
}

func sameWrites(a, b []api.Write) bool {
	return slices.EqualFunc(a, b, func(v, w api.Write) bool { return v.At == w.At && bytes.Equal(v.Data, w.Data) })
}

func shown(list []api.Write) string {
	var texts []string
	for _, w := range list {
		texts = append(texts, fmt.Sprintf("%d: %s", w.At, brief(w.Data)))
	}
	return fmt.Sprintf("%d writes (%s)", len(list), strings.Join(texts, "; "))
}

// brief is bytes to be shown, cut where they are many.
func brief(b []byte) string {
	if len(b) > 20 {
		return fmt.Sprintf("%d bytes %x .. %x", len(b), b[:8], b[len(b)-4:])
	}
	return fmt.Sprintf("%d bytes %x", len(b), b)
}

// Bytes to be tried

func noughts(many int) []byte {
	return make([]byte, many)
}

// full answers a sector by its tag: all 0 for 0, else one that no other tag has at any place.
func full(tag byte) []byte {
	b := make([]byte, size)
	for i := range b {
		b[i] = tag * byte(2*i+1)
	}
	return b
}

// mixed answers bytes in no order, the same ones for the same seed.
func mixed(many int, seed uint64) []byte {
	from := rand.New(rand.NewPCG(seed, 15))
	b := make([]byte, many)
	for i := range b {
		b[i] = byte(from.Uint32())
	}
	return b
}
