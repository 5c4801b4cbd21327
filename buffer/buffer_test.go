package buffer_test

import (
	"fmt"
	"math"
	"slices"
	"testing"

	"assent/api"
	"assent/buffer"
	"assent/fault"
)

// lastAddr is the greatest number of a word.
const lastAddr = api.MaxLines*api.Words - 1

// noAddrs are numbers of no word; some are right ones, once their upper bits are cut off.
func noAddrs() []int {
	return []int{
		-1, -2, -8, -32, -127, -128, -129, lastAddr + 1, lastAddr + 2, 129, 130, 255, 256, 257, 1 << 16, 1<<16 + 1, 1 << 31, 1 << 32, 1<<32 + 1,
		1<<32 + 5, 1<<32 + 127, 1 << 62, -1 << 31, -1 << 32, math.MaxInt, math.MaxInt - 1, math.MinInt, math.MinInt + 1, math.MinInt + 127,
	}
}

func made(t *testing.T, most int) *buffer.Buffer {
	t.Helper()
	b, err := buffer.New(most)
	if b == nil || err != nil {
		t.Fatalf("New(%d) is %v, %v", most, b, err)
	}
	return b
}

// push pushes stores, none of which is to be refused.
func push(t *testing.T, b *buffer.Buffer, writes ...buffer.Write) {
	t.Helper()
	for _, w := range writes {
		if err := b.Push(w.Addr, w.Value); err != nil {
			t.Fatalf("Push of %v is %v", w, err)
		}
	}
}

// some are the first n of a row of stores whose addrs don't rise, with both
// edges of the addrs and of the values, and two stores to one addr.
func some(n int) []buffer.Write {
	return []buffer.Write{
		{Addr: 0, Value: math.MaxUint32}, {Addr: lastAddr, Value: 0}, {Addr: 5, Value: 50}, {Addr: 3, Value: 30},
		{Addr: 5, Value: 51}, {Addr: 64, Value: 1 << 31}, {Addr: 4, Value: 40}, {Addr: 63, Value: 63},
	}[:n]
}

// filled is a buffer in which that many wait, as many as may.
func filled(t *testing.T, most int) *buffer.Buffer {
	t.Helper()
	b := made(t, most)
	push(t, b, some(most)...)
	return b
}

func wantRefused(t *testing.T, err error, op string, at int, which error) {
	t.Helper()
	if f, ok := fault.Find(err); !ok || f != (api.Fault{Op: op, At: at, Err: which}) || fault.Depth(err) != 2 {
		t.Errorf("%#v: not %s, %d, %v", err, op, at, which)
	}
	others := []error{
		api.ErrArg, api.ErrLong, api.ErrShort, api.ErrForm, api.ErrTail, api.ErrFull,
		api.ErrBusy, api.ErrNone, api.ErrOrder, api.ErrValue,
	}
	others = slices.DeleteFunc(others, func(e error) bool { return e == which })
	if fault.Any(err, others...) != -1 {
		t.Errorf("%v is another error too", err)
	}
}

// told is all that a buffer tells, as a text.
func told(b *buffer.Buffer) string {
	head, ok := b.Head()
	out := fmt.Sprint(len(b.List()), b.List(), head, ok)
	for addr := -2; addr <= lastAddr+2; addr++ {
		v, ok := b.Forward(addr)
		out += fmt.Sprint(" ", addr, v, ok)
	}
	return out
}

// wantPushRefused asks that a Push is refused so, and that it changed nothing.
func wantPushRefused(t *testing.T, b *buffer.Buffer, addr int, v uint32, which error) {
	t.Helper()
	was := told(b)
	wantRefused(t, b.Push(addr, v), "buffer.Push", addr, which)
	if now := told(b); now != was {
		t.Errorf("Push(%d, %d), refused, made %s of %s", addr, v, now, was)
	}
}

func wantForward(t *testing.T, b *buffer.Buffer, addr int, v uint32, there bool) {
	t.Helper()
	if got, ok := b.Forward(addr); got != v || ok != there {
		t.Errorf("Forward(%d) is %d, %v, not %d, %v", addr, got, ok, v, there)
	}
}

func wantHead(t *testing.T, b *buffer.Buffer, want buffer.Write, there bool) {
	t.Helper()
	if got, ok := b.Head(); got != want || ok != there {
		t.Errorf("Head is %v, %v, not %v, %v", got, ok, want, there)
	}
}

func wantPop(t *testing.T, b *buffer.Buffer, was bool) {
	t.Helper()
	if got := b.Pop(); got != was {
		t.Errorf("Pop is %v", got)
	}
}

func wantList(t *testing.T, b *buffer.Buffer, want ...buffer.Write) {
	t.Helper()
	if got := b.List(); !slices.Equal(got, want) {
		t.Errorf("the list is %v, not %v", got, want)
	}
}

// wantEmpty asks that nothing waits, and that it stays so though it is popped.
func wantEmpty(t *testing.T, b *buffer.Buffer) {
	t.Helper()
	for range 3 {
		wantList(t, b)
		wantHead(t, b, buffer.Write{}, false)
		wantPop(t, b, false)
		for addr := -1; addr <= lastAddr+1; addr++ {
			wantForward(t, b, addr, 0, false)
		}
	}
}

// The chapter's table.
func TestRuns(t *testing.T) {
	b := made(t, 2)
	for _, v := range []uint32{5, 6} {
		if err := b.Push(1, v); err != nil {
			t.Error(err)
		}
	}
	wantRefused(t, b.Push(2, 7), "buffer.Push", 2, api.ErrFull)
	wantForward(t, b, 1, 6, true)
	wantHead(t, b, buffer.Write{Addr: 1, Value: 5}, true)
	wantPop(t, b, true)
	wantForward(t, b, 1, 6, true)
}

// P8.1, P8.2: each number that may be: nothing waits, and just that many find room.
func TestNew(t *testing.T) {
	for most := 1; most <= api.MaxBuffer; most++ {
		b := made(t, most)
		wantEmpty(t, b)
		for i := range most {
			wantList(t, b, some(i)...)
			push(t, b, some(most)[i])
		}
		wantList(t, b, some(most)...)
		wantPushRefused(t, b, 9, 9, api.ErrFull)
	}
}

func wantNoBuffer(t *testing.T, most int) {
	t.Helper()
	b, err := buffer.New(most)
	if b != nil {
		t.Errorf("New(%d) made one", most)
	}
	wantRefused(t, err, "buffer.New", most, api.ErrArg)
}

// P8.1: numbers that can't be; some are right ones, once their upper bits are cut off.
func TestNewWrong(t *testing.T) {
	if api.MaxBuffer != 8 {
		t.Error(api.MaxBuffer)
	}
	for most := -70; most <= 0; most++ {
		wantNoBuffer(t, most)
	}
	for most := api.MaxBuffer + 1; most <= 70; most++ {
		wantNoBuffer(t, most)
	}
	for _, most := range []int{
		255, 256, 257, 264, 1 << 16, 1<<16 + 1, 1 << 31, 1 << 32, 1<<32 + 1, 1<<32 + 8, 1 << 62,
		-1 << 31, -1 << 32, math.MaxInt, math.MaxInt - 1, math.MinInt, math.MinInt + 1, math.MinInt + 8,
	} {
		wantNoBuffer(t, most)
	}
}

// P8.1: what waits in one buffer does not in another.
func TestBuffersApart(t *testing.T) {
	a, b := made(t, 1), made(t, 1)
	push(t, a, buffer.Write{Addr: 3, Value: 30})
	wantEmpty(t, b)
	push(t, b, buffer.Write{Addr: 3, Value: 31})
	wantList(t, a, buffer.Write{Addr: 3, Value: 30})
	wantPop(t, b, true)
	wantEmpty(t, b)
	wantList(t, a, buffer.Write{Addr: 3, Value: 30})
}

// P8.1: the list goes by when they came, not by their addrs or values; stores that are alike are told each.
func TestListOrder(t *testing.T) {
	x, y, z := buffer.Write{Addr: 9, Value: 1}, buffer.Write{Addr: 2, Value: 8}, buffer.Write{Addr: 5, Value: 0}
	for _, order := range [][]buffer.Write{
		{x, y, z}, {z, y, x}, {y, x, z}, {y, z, x}, {x, x, y, x}, {z, z, z}, {y, x, y, x, z, x, y, z},
	} {
		b := made(t, api.MaxBuffer)
		push(t, b, order...)
		wantList(t, b, order...)
		for i := range order {
			wantHead(t, b, order[i], true)
			wantPop(t, b, true)
			wantList(t, b, order[i+1:]...)
		}
		wantEmpty(t, b)
	}
}

// P8.1, R2: a list is new memory, its spare room too: what is done to it is
// not to be seen, and what is done to the buffer is not to be seen in it.
func TestListNew(t *testing.T) {
	b := made(t, api.MaxBuffer)
	x, y, z := buffer.Write{Addr: 1, Value: 10}, buffer.Write{Addr: 2, Value: 20}, buffer.Write{Addr: 3, Value: 30}
	push(t, b, x, y, z)
	first, second := b.List(), b.List()
	for i := range first {
		first[i] = buffer.Write{Addr: 90, Value: 9}
	}
	_ = append(first[:2], buffer.Write{Addr: 91, Value: 8}, buffer.Write{Addr: 92, Value: 7})
	wantList(t, b, x, y, z)
	wantHead(t, b, x, true)
	wantForward(t, b, 1, 10, true)
	wantForward(t, b, 90, 0, false)
	wantPop(t, b, true)
	push(t, b, buffer.Write{Addr: 4, Value: 40}, buffer.Write{Addr: 5, Value: 50})
	if !slices.Equal(second, []buffer.Write{x, y, z}) {
		t.Error(second)
	}
}

// P8.1, R2: what is written into the room behind a list is not found in the buffer by later pushes.
func TestListRoom(t *testing.T) {
	for n := range api.MaxBuffer {
		b := made(t, api.MaxBuffer)
		push(t, b, some(n)...)
		l := b.List()
		spare := l[:cap(l)]
		next := some(api.MaxBuffer)[n]
		push(t, b, next)
		for i := range spare {
			spare[i] = buffer.Write{Addr: 90, Value: 9}
		}
		wantList(t, b, append(some(n), next)...)
		wantForward(t, b, 90, 0, false)
	}
}

// P8.2 to P8.4: each addr, by itself, with the values at the edges.
func TestEachAddr(t *testing.T) {
	for addr := range lastAddr + 1 {
		for _, v := range []uint32{0, 1, 1 << 31, math.MaxUint32 - 1, math.MaxUint32} {
			b := made(t, 1)
			w := buffer.Write{Addr: addr, Value: v}
			push(t, b, w)
			wantList(t, b, w)
			wantHead(t, b, w, true)
			wantForward(t, b, addr, v, true)
			for other := range lastAddr + 1 {
				if other != addr {
					wantForward(t, b, other, 0, false)
				}
			}
			wantPop(t, b, true)
			wantForward(t, b, addr, 0, false)
			wantPop(t, b, false)
		}
	}
}

// P8.2: an addr that is none, of buffers in which nothing, something and as
// much as may wait: always ErrArg, at the addr, though the buffer is full.
func TestPushWrong(t *testing.T) {
	part := made(t, 3)
	push(t, part, some(2)...)
	for _, b := range []*buffer.Buffer{made(t, 1), made(t, api.MaxBuffer), part, filled(t, 1), filled(t, 3), filled(t, api.MaxBuffer)} {
		for _, addr := range noAddrs() {
			for _, v := range []uint32{0, 7, math.MaxUint32} {
				wantPushRefused(t, b, addr, v, api.ErrArg)
			}
		}
	}
}

// P8.2: a full buffer has no room for any addr, those that wait in it too.
func TestPushFull(t *testing.T) {
	for most := 1; most <= api.MaxBuffer; most++ {
		b := filled(t, most)
		for addr := range lastAddr + 1 {
			wantPushRefused(t, b, addr, 77, api.ErrFull)
		}
		wantList(t, b, some(most)...)
	}
}

// P8.2, P8.4: a Pop makes room for one, and for no more.
func TestPushBehindPop(t *testing.T) {
	for most := 1; most <= api.MaxBuffer; most++ {
		b := filled(t, most)
		wantPop(t, b, true)
		push(t, b, buffer.Write{Addr: 9, Value: 90})
		wantList(t, b, append(some(most)[1:], buffer.Write{Addr: 9, Value: 90})...)
		wantForward(t, b, 9, 90, true)
		wantPushRefused(t, b, 9, 91, api.ErrFull)
	}
}

// P8.2, P8.4: more go through a buffer than it holds at once, with one up to all of its places taken.
func TestMoreThanHeld(t *testing.T) {
	for most := 1; most <= api.MaxBuffer; most++ {
		for held := 1; held <= most; held++ {
			b := made(t, most)
			for i := range 100 {
				push(t, b, buffer.Write{Addr: i, Value: uint32(i) + 1000})
				if i < held-1 {
					continue
				}
				eldest := i - held + 1
				wantHead(t, b, buffer.Write{Addr: eldest, Value: uint32(eldest) + 1000}, true)
				wantForward(t, b, eldest, uint32(eldest)+1000, true)
				wantPop(t, b, true)
				wantForward(t, b, eldest, 0, false)
				if n := len(b.List()); n != held-1 {
					t.Errorf("%d wait, not %d", n, held-1)
				}
			}
		}
	}
}

// P8.3, P8.4: of several stores to one addr the youngest is forwarded, and the eldest is the head.
func TestOneAddr(t *testing.T) {
	for most := 1; most <= api.MaxBuffer; most++ {
		b := made(t, most)
		for i := range most {
			// The values fall, so that the youngest's is not the greatest.
			push(t, b, buffer.Write{Addr: 6, Value: uint32(most - i)})
			wantForward(t, b, 6, uint32(most-i), true)
			wantHead(t, b, buffer.Write{Addr: 6, Value: uint32(most)}, true)
		}
		for i := range most {
			wantForward(t, b, 6, 1, true)
			wantHead(t, b, buffer.Write{Addr: 6, Value: uint32(most - i)}, true)
			wantPop(t, b, true)
		}
		wantEmpty(t, b)
	}
}

// P8.3: the youngest store of an addr isn't the last that was pushed; others
// stand ahead of it, between and behind; a value of 0 is one too.
func TestForwardAmongOthers(t *testing.T) {
	b := made(t, 6)
	push(t, b,
		buffer.Write{Addr: 0, Value: 1}, buffer.Write{Addr: 8, Value: 9}, buffer.Write{Addr: 0, Value: 2},
		buffer.Write{Addr: 8, Value: 0}, buffer.Write{Addr: lastAddr, Value: math.MaxUint32}, buffer.Write{Addr: 4, Value: 8})
	for _, gone := range []int{0, 1, 1} {
		for range gone {
			wantPop(t, b, true)
		}
		wantForward(t, b, 0, 2, true)
		wantForward(t, b, 8, 0, true)
		wantForward(t, b, lastAddr, math.MaxUint32, true)
		wantForward(t, b, 4, 8, true)
		wantForward(t, b, 1, 0, false)
		wantForward(t, b, 9, 0, false)
	}
	wantPop(t, b, true)
	wantForward(t, b, 0, 0, false)
	wantForward(t, b, 8, 0, true)
	wantPop(t, b, true)
	wantForward(t, b, 8, 0, false)
	wantForward(t, b, lastAddr, math.MaxUint32, true)
}

// P8.3: an addr that is none, or never waited, is not forwarded, whatever waits; nothing is changed.
func TestForwardNone(t *testing.T) {
	popped := filled(t, 4)
	for popped.Pop() {
	}
	for _, b := range []*buffer.Buffer{made(t, 1), popped, filled(t, 1), filled(t, 4), filled(t, api.MaxBuffer)} {
		was := told(b)
		for _, addr := range append(noAddrs(), 1, 2, 100) {
			wantForward(t, b, addr, 0, false)
		}
		if now := told(b); now != was {
			t.Errorf("%s, not %s", now, was)
		}
	}
}

// P8.4: Head takes nothing away.
func TestHeadStays(t *testing.T) {
	b := filled(t, 3)
	was := told(b)
	for range 5 {
		wantHead(t, b, some(1)[0], true)
	}
	if now := told(b); now != was {
		t.Errorf("%s, not %s", now, was)
	}
}

// P8.4: a buffer that was emptied is as a new one, and takes as many again.
func TestEmptied(t *testing.T) {
	for most := 1; most <= api.MaxBuffer; most++ {
		b := made(t, most)
		for range 3 {
			push(t, b, some(most)...)
			wantPushRefused(t, b, 1, 1, api.ErrFull)
			for range most {
				wantPop(t, b, true)
			}
			wantEmpty(t, b)
		}
	}
}

// draw is a row of numbers that is the same in each run.
type draw uint64

func (d *draw) below(n int) int {
	*d = *d*6364136223846793005 + 1442695040888963407
	return int(uint64(*d) >> 33 % uint64(n))
}

// plain is a buffer told in another way: all that was ever pushed, and how many of it went.
type plain struct {
	most, gone int
	all        []buffer.Write
}

// push tells which error there is to be, and pushes, if there is none.
func (p *plain) push(addr int, v uint32) error {
	switch {
	case addr < 0 || addr > 127:
		return api.ErrArg
	case len(p.all)-p.gone == p.most:
		return api.ErrFull
	}
	p.all = append(p.all, buffer.Write{Addr: addr, Value: v})
	return nil
}

func (p *plain) pop() bool {
	if p.gone == len(p.all) {
		return false
	}
	p.gone++
	return true
}

// newest is a map from each addr that waits to its youngest value: later ones write over earlier ones.
func (p *plain) newest() map[int]uint32 {
	out := map[int]uint32{}
	for _, w := range p.all[p.gone:] {
		out[w.Addr] = w.Value
	}
	return out
}

// wantSame asks that a buffer tells what the other one does.
func wantSame(t *testing.T, b *buffer.Buffer, p *plain) {
	t.Helper()
	waits := p.all[p.gone:]
	wantList(t, b, waits...)
	if len(waits) == 0 {
		wantHead(t, b, buffer.Write{}, false)
	} else {
		wantHead(t, b, waits[0], true)
	}
	newest := p.newest()
	for addr := -1; addr <= lastAddr+1; addr++ {
		v, ok := newest[addr]
		wantForward(t, b, addr, v, ok)
	}
}

// P8.1 to P8.4: long rows of calls, held against the buffer told in another way.
func TestLongRows(t *testing.T) {
	for most := 1; most <= api.MaxBuffer; most++ {
		b, p, d := made(t, most), &plain{most: most}, draw(most)
		for range 2000 {
			addr, v := d.below(lastAddr+3)-1, uint32(d.below(4))
			// Of addrs by chance few would wait twice.
			if d.below(2) == 0 {
				addr = d.below(4)
			}
			if d.below(5) < 2 {
				wantPop(t, b, p.pop())
			} else if which := p.push(addr, v); which == nil {
				push(t, b, buffer.Write{Addr: addr, Value: v})
			} else {
				wantRefused(t, b.Push(addr, v), "buffer.Push", addr, which)
			}
			wantSame(t, b, p)
		}
	}
}
