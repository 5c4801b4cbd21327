package fabric_test

import (
	"fmt"
	"math"
	"slices"
	"testing"

	"assent/api"
	"assent/fabric"
	"assent/fault"
	"assent/msg"
)

// kinds are all that there are.
func kinds() []int {
	return []int{
		api.QRead, api.QWrite, api.QUpdate, api.QEvict, api.FShare, api.FInval, api.FHold, api.FUpdate, api.FClean, api.FTake,
		api.RAck, api.RFill, api.RData, api.RApply, api.RGone,
	}
}

// kindOf is a kind that goes through a pool.
func kindOf(pool int) int {
	return []int{api.QRead, api.FInval, api.RFill, api.RGone}[pool]
}

// poolOf is the pool of a right message, by chapter 11's words.
func poolOf(m api.Msg) int {
	switch {
	case m.Kind <= api.QEvict:
		return api.PRequest
	case m.Kind <= api.FTake:
		return api.PForward
	case m.Kind <= api.RFill:
		return api.PAnswer
	}
	return api.PData
}

// homes tells whether a pool is the homes', one for all cores.
func homes(pool int) bool { return pool == api.PRequest || pool == api.PAnswer }

func pools() []int { return []int{api.PRequest, api.PForward, api.PAnswer, api.PData} }

// outside are numbers that are none of least to most; some are, once their upper bits are cut off.
func outside(least, most int) []int {
	l := []int{
		-1, -2, -64, -127, -128, -255, -256, -1 << 31, -1 << 32, -1<<32 + 1, math.MinInt, math.MinInt + 1, math.MinInt + 3,
		least - 1, most + 1, most + 2, 256, 257, 1 << 16, 1<<16 + 1, 1 << 31, 1 << 32, 1<<32 + 1, 1<<32 + most,
		1 << 62, 1<<62 + 1, math.MaxInt - 1, math.MaxInt,
	}
	return slices.DeleteFunc(l, func(n int) bool { return least <= n && n <= most })
}

// of is a message that says no more than its kind, its core and its line; an
// RData that says no more is not right.
func of(kind, core, line int) api.Msg {
	m := api.Msg{Kind: kind, Core: core, Line: line}
	if kind == api.RData {
		m.State = api.Shared
	}
	return m
}

// row is n messages through one pool, told apart by their lines as long as these suffice.
func row(pool, core, n int) []api.Msg {
	var l []api.Msg
	for i := range n {
		l = append(l, of(kindOf(pool), core, i%api.MaxLines))
	}
	return l
}

func join(rows ...[]api.Msg) []api.Msg { return slices.Concat(rows...) }

func made(t *testing.T, cores, room int) *fabric.Fabric {
	t.Helper()
	f, err := fabric.New(cores, room)
	if f == nil || err != nil {
		t.Fatalf("New(%d, %d) is %v, %v", cores, room, f, err)
	}
	return f
}

func wantRefused(t *testing.T, err error, op string, at int, which error) {
	t.Helper()
	if f, ok := fault.Find(err); !ok || f != (api.Fault{Op: op, At: at, Err: which}) || fault.Depth(err) != 2 {
		t.Errorf("%#v: not %s, %d, %v", err, op, at, which)
	}
	others := []error{
		api.ErrArg, api.ErrLong, api.ErrShort, api.ErrForm, api.ErrTail, api.ErrFull,
		api.ErrBusy, api.ErrNone, api.ErrOrder, api.ErrValue,
	}
	others = slices.DeleteFunc(others, func(e error) bool { return e == which })
	if fault.Any(err, others...) != -1 {
		t.Errorf("%v is another error too", err)
	}
}

// lists are all that is on its way: each pool's messages, the homes' for the core 0.
func lists(f *fabric.Fabric, cores int) [][]api.Msg {
	var out [][]api.Msg
	for _, pool := range pools() {
		for core := range cores {
			if homes(pool) && core > 0 {
				continue
			}
			out = append(out, listed(f, pool, core))
		}
	}
	return out
}

// listed is a pool's messages, as far as Peek tells any; more than have room are too many, however many they are.
func listed(f *fabric.Fabric, pool, core int) []api.Msg {
	var l []api.Msg
	for k := range api.MaxPool + 1 {
		m, ok := f.Peek(pool, core, k)
		if !ok {
			break
		}
		l = append(l, m)
	}
	return l
}

func told(f *fabric.Fabric, cores int) string {
	return fmt.Sprint(lists(f, cores), f.All())
}

// wantPool asks that these, in this order, are in a pool, and no others.
func wantPool(t *testing.T, f *fabric.Fabric, pool, core int, want ...api.Msg) {
	t.Helper()
	if n := f.Len(pool, core); n != len(want) {
		t.Errorf("Len(%d, %d) is %d, not %d", pool, core, n, len(want))
	}
	if got := listed(f, pool, core); !slices.Equal(got, want) {
		t.Errorf("the pool %d of %d has %+v, not %+v", pool, core, got, want)
	}
}

func wantAll(t *testing.T, f *fabric.Fabric, n int) {
	t.Helper()
	if got := f.All(); got != n {
		t.Errorf("All is %d, not %d", got, n)
	}
}

// wantEmpty asks that nothing is on its way.
func wantEmpty(t *testing.T, f *fabric.Fabric, cores int) {
	t.Helper()
	wantAll(t, f, 0)
	for _, pool := range pools() {
		for core := range cores {
			wantPool(t, f, pool, core)
			wantNone(t, f, pool, core, 0)
		}
	}
}

// wantSent asks that a row fits, and is sent.
func wantSent(t *testing.T, f *fabric.Fabric, cores int, l ...api.Msg) {
	t.Helper()
	was, all := told(f, cores), f.All()
	if err := f.Fits(l...); err != nil {
		t.Errorf("Fits of %+v is %v", l, err)
	}
	if now := told(f, cores); now != was {
		t.Errorf("Fits made %s of %s", now, was)
	}
	if err := f.Send(l...); err != nil {
		t.Errorf("Send of %+v is %v", l, err)
	}
	wantAll(t, f, all+len(l))
}

// wantNotSent asks that a row is refused so, by Fits and by Send, and changes nothing.
func wantNotSent(t *testing.T, f *fabric.Fabric, cores, at int, which error, l ...api.Msg) {
	t.Helper()
	was := told(f, cores)
	for range 2 {
		wantRefused(t, f.Fits(l...), "fabric.Send", at, which)
		wantRefused(t, f.Send(l...), "fabric.Send", at, which)
	}
	if now := told(f, cores); now != was {
		t.Errorf("what was refused made %s of %s", now, was)
	}
}

func wantPeek(t *testing.T, f *fabric.Fabric, pool, core, k int, want api.Msg) {
	t.Helper()
	if m, ok := f.Peek(pool, core, k); m != want || !ok {
		t.Errorf("Peek(%d, %d, %d) is %+v, %v, not %+v", pool, core, k, m, ok, want)
	}
}

func wantTake(t *testing.T, f *fabric.Fabric, pool, core, k int, want api.Msg) {
	t.Helper()
	all := f.All()
	if m, ok := f.Take(pool, core, k); m != want || !ok {
		t.Errorf("Take(%d, %d, %d) is %+v, %v, not %+v", pool, core, k, m, ok, want)
	}
	wantAll(t, f, all-1)
}

// wantNone asks that neither Peek nor Take finds a message there.
func wantNone(t *testing.T, f *fabric.Fabric, pool, core, k int) {
	t.Helper()
	all := f.All()
	if m, ok := f.Peek(pool, core, k); m != (api.Msg{}) || ok {
		t.Errorf("Peek(%d, %d, %d) is %+v, %v", pool, core, k, m, ok)
	}
	if m, ok := f.Take(pool, core, k); m != (api.Msg{}) || ok {
		t.Errorf("Take(%d, %d, %d) is %+v, %v", pool, core, k, m, ok)
	}
	wantAll(t, f, all)
}

// The chapter's table.
func TestRuns(t *testing.T) {
	f := made(t, 2, 1)
	first := of(api.QRead, 0, 0)
	if err := f.Send(first); err != nil {
		t.Error(err)
	}
	wantRefused(t, f.Send(of(api.QRead, 1, 0)), "fabric.Send", 0, api.ErrFull)
	if m, ok := f.Take(api.PRequest, 5, 0); m != first || !ok || f.All() != 0 {
		t.Error(m, ok, f.All())
	}
	wantRefused(t, f.Send(of(api.FInval, 0, 0), of(api.FInval, 1, 0), of(api.FInval, 0, 0)), "fabric.Send", 2, api.ErrFull)
	if n := f.Len(api.PForward, 0); n != 0 {
		t.Error(n)
	}
}

// P12.1, P12.4: each number of cores, and each room, that may be: nothing is on
// its way, each pool that there is takes as many as there is room, and no more.
func TestNew(t *testing.T) {
	for cores := 1; cores <= api.MaxCores; cores++ {
		f := made(t, cores, 2)
		wantEmpty(t, f, cores)
		wantAllFill(t, f, cores, 2)
	}
	for room := 1; room <= api.MaxPool; room++ {
		f := made(t, 2, room)
		wantEmpty(t, f, 2)
		wantAllFill(t, f, 2, room)
	}
	for _, cores := range []int{1, api.MaxCores} {
		for _, room := range []int{1, api.MaxPool} {
			wantAllFill(t, made(t, cores, room), cores, room)
		}
	}
}

// wantAllFill fills each pool of an empty fabric to its room, and asks that it has no more.
func wantAllFill(t *testing.T, f *fabric.Fabric, cores, room int) {
	t.Helper()
	all := 0
	for _, pool := range pools() {
		for core := range cores {
			if homes(pool) && core > 0 {
				continue
			}
			l := row(pool, core, room)
			if err := f.Send(l...); err != nil {
				t.Errorf("of %d, room %d: the pool %d of %d takes not %d: %v", cores, room, pool, core, room, err)
			}
			wantRefused(t, f.Fits(l[0]), "fabric.Send", 0, api.ErrFull)
			wantRefused(t, f.Send(l[0]), "fabric.Send", 0, api.ErrFull)
			wantPool(t, f, pool, core, l...)
			all += room
			wantAll(t, f, all)
		}
	}
	if all != room*(2+2*cores) {
		t.Error(all)
	}
}

func wantNoFabric(t *testing.T, cores, room, at int) {
	t.Helper()
	f, err := fabric.New(cores, room)
	if f != nil {
		t.Errorf("New(%d, %d) made one", cores, room)
	}
	wantRefused(t, err, "fabric.New", at, api.ErrArg)
}

// P12.1: cores that can't be are told at 0, whatever the room is; a room that can't be at 1.
func TestNewWrong(t *testing.T) {
	if api.MaxCores != 64 || api.MaxPool != 64 {
		t.Error(api.MaxCores, api.MaxPool)
	}
	rooms := append(outside(1, api.MaxPool), 0, 65, 128)
	cores := append(outside(1, api.MaxCores), 0, 65, 128)
	for _, c := range cores {
		for _, room := range append([]int{1, 2, 63, 64}, rooms...) {
			wantNoFabric(t, c, room, 0)
		}
	}
	for _, c := range []int{1, 2, 63, 64} {
		for _, room := range rooms {
			wantNoFabric(t, c, room, 1)
		}
	}
}

// P12.1: what is on its way in one fabric is not in another.
func TestFabricsApart(t *testing.T) {
	a, b := made(t, 2, 1), made(t, 2, 1)
	l := []api.Msg{of(api.QWrite, 1, 3), of(api.FTake, 1, 4), of(api.RFill, 0, 5), of(api.RData, 0, 6)}
	wantSent(t, a, 2, l...)
	wantEmpty(t, b, 2)
	wantSent(t, b, 2, of(api.QEvict, 0, 9))
	wantPool(t, a, api.PRequest, 0, l[0])
	wantTake(t, a, api.PRequest, 0, 0, l[0])
	wantPool(t, b, api.PRequest, 0, of(api.QEvict, 0, 9))
}

// P12.1, P12.2: each kind of message, of each core, goes through its pool, and is in no other.
func TestWhere(t *testing.T) {
	cores := 5
	for _, kind := range kinds() {
		for core := range cores {
			f, m := made(t, cores, 3), of(kind, core, 7)
			wantSent(t, f, cores, m)
			for _, pool := range pools() {
				for c := range cores {
					if pool == poolOf(m) && (homes(pool) || c == core) {
						wantPool(t, f, pool, c, m)
					} else {
						wantPool(t, f, pool, c)
					}
				}
			}
		}
	}
}

// P12.1, P12.3: the homes' pools are the same ones whichever core they are
// asked for, one that is none too.
func TestHomesPools(t *testing.T) {
	asked := append(outside(0, 2), 0, 1, 2, 3, 5, 63, 64)
	for _, pool := range []int{api.PRequest, api.PAnswer} {
		for _, core := range asked {
			f := made(t, 3, 4)
			l := []api.Msg{of(kindOf(pool), 2, 1), of(kindOf(pool), 0, 2), of(kindOf(pool), 2, 3), of(kindOf(pool), 1, 4)}
			wantSent(t, f, 3, l...)
			wantPool(t, f, pool, core, l...)
			wantTake(t, f, pool, core, 1, l[1])
			wantPool(t, f, pool, core, l[0], l[2], l[3])
			wantPool(t, f, pool, 1, l[0], l[2], l[3])
			wantTake(t, f, pool, core, 0, l[0])
			wantNone(t, f, pool, core, 2)
			wantPool(t, f, pool, 0, l[2], l[3])
		}
	}
}

// P12.1, P12.3: each core has pools of its own, which go by themselves.
func TestCoresPools(t *testing.T) {
	for _, cores := range []int{1, 2, 3, 63, api.MaxCores} {
		for _, pool := range []int{api.PForward, api.PData} {
			f := made(t, cores, 2)
			for core := range cores {
				wantPool(t, f, pool, core)
				if err := f.Send(row(pool, core, 2)...); err != nil {
					t.Error(err)
				}
				wantPool(t, f, pool, core, row(pool, core, 2)...)
			}
			wantAll(t, f, 2*cores)
			for core := range cores {
				wantTake(t, f, pool, core, 0, row(pool, core, 2)[0])
				for c := range cores {
					if c <= core {
						wantPool(t, f, pool, c, row(pool, c, 2)[1])
					} else {
						wantPool(t, f, pool, c, row(pool, c, 2)...)
					}
				}
			}
		}
	}
}

// P12.3: pools that are none, and cores that are none of a pool of the cores':
// nothing is there, though all the others are full; nothing is changed.
func TestNoPools(t *testing.T) {
	for _, cores := range []int{1, 2, 7, api.MaxCores} {
		f := made(t, cores, 2)
		wantAllFill(t, f, cores, 2)
		was := told(f, cores)
		for _, k := range []int{0, 1, -1, 2} {
			for _, pool := range append(outside(0, 3), 4, 5, 6, 7, 63, 64) {
				for _, core := range []int{0, cores - 1, cores, -1, math.MinInt, math.MaxInt} {
					wantNone(t, f, pool, core, k)
					if n := f.Len(pool, core); n != 0 {
						t.Errorf("Len(%d, %d) is %d", pool, core, n)
					}
				}
			}
			for _, pool := range []int{api.PForward, api.PData} {
				for _, core := range append(outside(0, cores-1), cores, cores+1, cores+63) {
					wantNone(t, f, pool, core, k)
					if n := f.Len(pool, core); n != 0 {
						t.Errorf("Len(%d, %d) is %d", pool, core, n)
					}
				}
			}
		}
		if now := told(f, cores); now != was {
			t.Errorf("%s, not %s", now, was)
		}
	}
}

// P12.3: places that are none of a pool, of one in which nothing, one, some and as many as may be are.
func TestNoPlaces(t *testing.T) {
	for _, pool := range pools() {
		for _, n := range []int{0, 1, 3, api.MaxPool} {
			f := made(t, 2, api.MaxPool)
			wantSent(t, f, 2, row(pool, 1, n)...)
			was := told(f, 2)
			for _, k := range outside(0, n-1) {
				wantNone(t, f, pool, 1, k)
			}
			wantNone(t, f, pool, 1, n)
			if now := told(f, 2); now != was {
				t.Errorf("%s, not %s", now, was)
			}
		}
	}
}

// P12.3: a Peek takes nothing away.
func TestPeekStays(t *testing.T) {
	for _, pool := range pools() {
		f, l := made(t, 1, 3), row(pool, 0, 3)
		wantSent(t, f, 1, l...)
		for range 3 {
			for k, m := range l {
				wantPeek(t, f, pool, 0, k, m)
				wantAll(t, f, 3)
			}
		}
		wantPool(t, f, pool, 0, l...)
	}
}

// P12.3: a Take at each place of a pool, of each length: the others keep their order.
func TestTakeEach(t *testing.T) {
	for _, pool := range pools() {
		for _, n := range []int{1, 2, 3, 5, 31} {
			for k := range n {
				f, l := made(t, 2, n), row(pool, 1, n)
				wantSent(t, f, 2, l...)
				wantTake(t, f, pool, 1, k, l[k])
				wantPool(t, f, pool, 1, slices.Delete(l, k, k+1)...)
				wantNone(t, f, pool, 1, n-1)
			}
		}
	}
}

// P12.2, P12.3: what is sent behind a Take is behind all the others, and there is room for it alone.
func TestSendBehindTake(t *testing.T) {
	for _, pool := range pools() {
		for _, n := range []int{1, 2, 4} {
			for k := range n {
				f, l, next := made(t, 2, n), row(pool, 0, n), of(kindOf(pool), 0, 30)
				wantSent(t, f, 2, l...)
				wantNotSent(t, f, 2, 0, api.ErrFull, next)
				wantTake(t, f, pool, 0, k, l[k])
				wantNotSent(t, f, 2, 1, api.ErrFull, next, next)
				wantSent(t, f, 2, next)
				wantPool(t, f, pool, 0, append(slices.Delete(l, k, k+1), next)...)
				wantNotSent(t, f, 2, 0, api.ErrFull, next)
			}
		}
	}
}

// P12.2: a row of no message, nil and empty, is sent, of an empty fabric and of a full one.
func TestNoRow(t *testing.T) {
	empty, full := made(t, 1, 1), made(t, 1, 1)
	wantAllFill(t, full, 1, 1)
	for _, f := range []*fabric.Fabric{empty, full} {
		wantSent(t, f, 1)
		wantSent(t, f, 1, []api.Msg{}...)
		wantSent(t, f, 1, []api.Msg(nil)...)
	}
	wantEmpty(t, empty, 1)
}

// P12.2: each behind the others in its pool, in order, whether sent in one row, or one by one, or in two rows.
func TestInOrder(t *testing.T) {
	l := []api.Msg{
		of(api.QWrite, 1, 9), of(api.FHold, 0, 8), of(api.QRead, 0, 7), of(api.RGone, 1, 6), of(api.FInval, 0, 5), of(api.RFill, 1, 4),
		of(api.QWrite, 1, 9), of(api.FTake, 1, 3), of(api.RData, 1, 2), of(api.RFill, 0, 1), of(api.FHold, 0, 0), of(api.QEvict, 1, 0),
	}
	for cut := range len(l) + 1 {
		f := made(t, 2, 4)
		wantSent(t, f, 2, l[:cut]...)
		wantSent(t, f, 2, l[cut:]...)
		wantTheTwelve(t, f, l)
	}
	f := made(t, 2, 4)
	for _, m := range l {
		wantSent(t, f, 2, m)
	}
	wantTheTwelve(t, f, l)
}

func wantTheTwelve(t *testing.T, f *fabric.Fabric, l []api.Msg) {
	t.Helper()
	wantAll(t, f, 12)
	wantPool(t, f, api.PRequest, 0, l[0], l[2], l[6], l[11])
	wantPool(t, f, api.PForward, 0, l[1], l[4], l[10])
	wantPool(t, f, api.PForward, 1, l[7])
	wantPool(t, f, api.PAnswer, 0, l[5], l[9])
	wantPool(t, f, api.PData, 0)
	wantPool(t, f, api.PData, 1, l[3], l[8])
}

// P12.2: a row that just fills a pool is sent, one that is one too long is refused at
// the last of it, of an empty pool and of one in which some are; others in the row take no room of it.
func TestRowFills(t *testing.T) {
	for _, pool := range pools() {
		for _, room := range []int{1, 2, 3, api.MaxPool} {
			for _, there := range []int{0, 1, room - 1, room} {
				f := made(t, 2, room)
				wantSent(t, f, 2, row(pool, 1, there)...)
				long := row(pool, 1, room-there+1)
				last := len(long) - 1
				wantNotSent(t, f, 2, last, api.ErrFull, long...)
				wantNotSent(t, f, 2, last, api.ErrFull, append(slices.Clone(long), long...)...)
				other := of(kindOf((pool+1)%4), 1, 2)
				wantNotSent(t, f, 2, last+1, api.ErrFull, append([]api.Msg{other}, long...)...)
				wantSent(t, f, 2, append([]api.Msg{other}, long[:last]...)...)
				wantPool(t, f, pool, 1, append(row(pool, 1, there), long[:last]...)...)
				wantPool(t, f, poolOf(other), 1, other)
			}
		}
	}
}

// P12.2: rows through several pools: at the number of the first for which there
// is no room, those ahead of it in the row having taken theirs.
func TestRowOfSeveralPools(t *testing.T) {
	read, inval0, inval1 := of(api.QRead, 1, 1), of(api.FInval, 0, 2), of(api.FInval, 1, 3)
	fill, gone0, gone1 := of(api.RFill, 0, 4), of(api.RGone, 0, 5), of(api.RGone, 1, 6)
	one := []api.Msg{read, inval0, inval1, fill, gone0, gone1}
	f := made(t, 2, 1)
	for i, m := range one {
		wantNotSent(t, f, 2, 6, api.ErrFull, append(slices.Clone(one), m)...)
		wantNotSent(t, f, 2, i+1, api.ErrFull, slices.Insert(slices.Clone(one), i, m)...)
		wantNotSent(t, f, 2, 6, api.ErrFull, join(one, one)...)
	}
	wantSent(t, f, 2, one...)
	f = made(t, 2, 2)
	wantSent(t, f, 2, gone1, inval0)
	wantNotSent(t, f, 2, 4, api.ErrFull, gone1, inval1, inval0, gone0, gone1, inval0)
	wantNotSent(t, f, 2, 3, api.ErrFull, gone1, inval1, inval0, inval0, gone0, gone1)
	wantNotSent(t, f, 2, 5, api.ErrFull, read, inval1, of(api.QEvict, 0, 1), inval1, fill, of(api.QWrite, 0, 9), inval1)
	wantSent(t, f, 2, gone1, inval1, inval0, gone0, fill, gone0, fill, read, inval1, of(api.QUpdate, 0, 9))
	for _, m := range one {
		wantNotSent(t, f, 2, 0, api.ErrFull, m)
	}
}

// P12.2: the first without room is told, not the one whose pool is the first
// that there is, or the fullest.
func TestFullFirstOfRow(t *testing.T) {
	one := []api.Msg{of(api.QRead, 0, 1), of(api.FInval, 0, 2), of(api.RFill, 0, 4), of(api.RGone, 0, 5)}
	for _, a := range one {
		for _, b := range one {
			f := made(t, 1, 2)
			wantSent(t, f, 1, a)
			if a != b {
				wantSent(t, f, 1, b)
			}
			wantNotSent(t, f, 1, 1, api.ErrFull, a, a, b, b)
			wantNotSent(t, f, 1, 1, api.ErrFull, b, b, a, a)
			if a != b {
				wantNotSent(t, f, 1, 2, api.ErrFull, a, b, b, a)
				wantNotSent(t, f, 1, 2, api.ErrFull, a, b, a, b)
			}
		}
	}
}

// wrongs are messages that are no right ones, or of a core that is none of so many.
func wrongs(cores int) []api.Msg {
	l := []api.Msg{
		{}, {Core: 1}, {Kind: -1}, {Kind: 16}, {Kind: math.MaxInt}, {Kind: math.MinInt}, {Kind: 1<<32 + api.QRead},
		{Kind: api.QRead, Core: -1}, {Kind: api.QRead, Core: 64}, {Kind: api.QRead, Line: -1}, {Kind: api.QRead, Line: 32},
		{Kind: api.QRead, Word: 1}, {Kind: api.QWrite, Value: 1}, {Kind: api.QUpdate, Word: 4}, {Kind: api.QEvict, Mode: api.Moesi},
		{Kind: api.FShare, Mode: 4}, {Kind: api.FInval, Epoch: 1}, {Kind: api.FHold, Has: true}, {Kind: api.FUpdate, Word: -1},
		{Kind: api.FClean, Epoch: 256}, {Kind: api.FTake, State: api.Shared}, {Kind: api.RAck, State: 5},
		{Kind: api.RAck, Data: api.Line{0, 0, 0, 1}}, {Kind: api.RFill, Data: api.Line{1}}, {Kind: api.RData},
		{Kind: api.RData, State: api.Owned}, {Kind: api.RApply, Word: 4}, {Kind: api.RGone, Has: true},
	}
	for _, kind := range kinds() {
		for _, core := range append(outside(0, cores-1), cores, cores+1, cores+63) {
			l = append(l, of(kind, core, 0))
		}
	}
	return l
}

// P12.2: messages that aren't right, or of a core that is none of the fabric's, of
// each kind: at each place of a row, of an empty fabric, and of a full one.
func TestWrong(t *testing.T) {
	for _, cores := range []int{1, 2, 63, api.MaxCores} {
		empty, full := made(t, cores, 4), made(t, cores, 1)
		wantAllFill(t, full, cores, 1)
		ahead := []api.Msg{of(api.QRead, 0, 0), of(api.FInval, cores-1, 1), of(api.RFill, 0, 2), of(api.RGone, cores-1, 3)}
		for i, m := range wrongs(cores) {
			if msg.Right(m) && m.Core < cores {
				t.Fatal(m)
			}
			wantNotSent(t, empty, cores, 0, api.ErrArg, m)
			wantNotSent(t, full, cores, 0, api.ErrArg, m)
			at := i % (len(ahead) + 1)
			l := slices.Insert(slices.Clone(ahead), at, m)
			wantNotSent(t, empty, cores, at, api.ErrArg, l...)
			wantNotSent(t, full, cores, at, api.ErrArg, l...)
		}
		wantEmpty(t, empty, cores)
		wantSent(t, empty, cores, ahead...)
	}
}

// P12.2: of several wrong ones the first is told, whichever way they are wrong.
func TestFirstWrong(t *testing.T) {
	f, right := made(t, 3, 8), of(api.RFill, 2, 1)
	noKind, noCore := api.Msg{Kind: 99}, of(api.QRead, 3, 0)
	for at := range 5 {
		for _, pair := range [][]api.Msg{{noKind, noCore}, {noCore, noKind}, {noKind, noKind}, {noCore, noCore}} {
			for between := range 3 {
				l := []api.Msg{right, right, right, right}[:at:at]
				l = append(append(append(l, pair[0]), []api.Msg{right, right}[:between]...), pair[1])
				wantNotSent(t, f, 3, at, api.ErrArg, l...)
			}
		}
	}
}

// P12.2: a wrong one is told ahead of one that has no room, though it is behind it in the row, and at its own number.
func TestWrongAheadOfFull(t *testing.T) {
	for _, pool := range pools() {
		f := made(t, 2, 2)
		wantSent(t, f, 2, row(pool, 1, 1)...)
		for _, wrong := range []api.Msg{{}, of(api.QWrite, 2, 0), of(kindOf(pool), 2, 0), {Kind: kindOf(pool), Core: 1, Epoch: 1}} {
			for n := 1; n <= 5; n++ {
				l := append(row(pool, 1, n), wrong)
				wantNotSent(t, f, 2, n, api.ErrArg, l...)
				wantNotSent(t, f, 2, n, api.ErrArg, append(l, row(pool, 1, 5)...)...)
				wantNotSent(t, f, 2, 0, api.ErrArg, append([]api.Msg{wrong}, row(pool, 1, n)...)...)
			}
		}
		wantNotSent(t, f, 2, 1, api.ErrFull, row(pool, 1, 5)...)
		wantPool(t, f, pool, 1, row(pool, 1, 1)...)
	}
}

// P12.2: a wrong message takes no room, and a row refused leaves the room that there was.
func TestRefusedTakesNoRoom(t *testing.T) {
	for _, pool := range pools() {
		f := made(t, 2, 3)
		for range 5 {
			wantNotSent(t, f, 2, 3, api.ErrFull, row(pool, 0, 4)...)
			wantNotSent(t, f, 2, 3, api.ErrArg, append(row(pool, 0, 3), api.Msg{})...)
		}
		wantEmpty(t, f, 2)
		wantSent(t, f, 2, row(pool, 0, 3)...)
		wantPool(t, f, pool, 0, row(pool, 0, 3)...)
	}
}

// P12.2: very long rows are refused at their place.
func TestLongRow(t *testing.T) {
	f := made(t, 1, api.MaxPool)
	l := make([]api.Msg, 300000)
	for i := range l {
		l[i] = of(api.QRead, 0, i%api.MaxLines)
	}
	wantNotSent(t, f, 1, api.MaxPool, api.ErrFull, l...)
	l[len(l)-1].Word = 1
	wantNotSent(t, f, 1, len(l)-1, api.ErrArg, l...)
}

// wholes are right messages, each of which has all that its kind names, at its edges.
func wholes() []api.Msg {
	great := api.Line{math.MaxUint32, 0, math.MaxUint32, 1}
	return []api.Msg{
		{Kind: api.QRead, Core: 63, Line: 31}, {Kind: api.QWrite, Core: 63}, {Kind: api.QUpdate, Core: 1, Line: 31, Word: 3, Value: math.MaxUint32},
		{Kind: api.QEvict, Core: 62, Line: 30}, {Kind: api.FShare, Core: 63, Line: 31, Mode: api.Migrant}, {Kind: api.FInval, Core: 63, Line: 31},
		{Kind: api.FHold, Core: 63}, {Kind: api.FUpdate, Core: 63, Line: 1, Word: 2, Value: 1 << 31},
		{Kind: api.FClean, Core: 63, Line: 31, Mode: api.Dragon, Epoch: 255}, {Kind: api.FTake, Core: 0, Line: 31},
		{Kind: api.RAck, Core: 63, Line: 31, State: api.Modified, Has: true, Data: great}, {Kind: api.RAck, Core: 63, State: api.Owned, Has: true},
		{Kind: api.RFill, Core: 63, Line: 31}, {Kind: api.RData, Core: 63, Line: 31, State: api.Exclusive, Mode: api.Moesi, Epoch: 254, Has: true, Data: great},
		{Kind: api.RData, Core: 0, Line: 31, State: api.Modified, Mode: api.Migrant, Epoch: 255},
		{Kind: api.RApply, Core: 63, Line: 31, Word: 1, Value: math.MaxUint32}, {Kind: api.RGone, Core: 63, Line: 31},
	}
}

// P12.2 to P12.4: a message comes out as it went in, all of it, once.
func TestWhole(t *testing.T) {
	for _, m := range wholes() {
		f := made(t, api.MaxCores, 1)
		wantSent(t, f, api.MaxCores, m)
		wantPeek(t, f, poolOf(m), m.Core, 0, m)
		wantTake(t, f, poolOf(m), m.Core, 0, m)
		wantEmpty(t, f, api.MaxCores)
	}
	f := made(t, api.MaxCores, len(wholes()))
	wantSent(t, f, api.MaxCores, wholes()...)
	for i := len(wholes()) - 1; i >= 0; i-- {
		m := wholes()[i]
		wantTake(t, f, poolOf(m), m.Core, f.Len(poolOf(m), m.Core)-1, m)
	}
	wantEmpty(t, f, api.MaxCores)
}

// P12.4: messages that are alike are each one of their own.
func TestAlike(t *testing.T) {
	for _, m := range wholes() {
		f := made(t, api.MaxCores, 3)
		wantSent(t, f, api.MaxCores, m, m)
		wantSent(t, f, api.MaxCores, m)
		for n := 3; n > 0; n-- {
			wantPool(t, f, poolOf(m), m.Core, slices.Repeat([]api.Msg{m}, n)...)
			wantTake(t, f, poolOf(m), m.Core, n/2, m)
		}
		wantEmpty(t, f, api.MaxCores)
	}
}

// P12.2, R2: a row that is handed in is neither changed nor kept, nor is the room behind it.
func TestRowStays(t *testing.T) {
	l := append(wholes(), wholes()...)
	half := len(wholes())
	f := made(t, api.MaxCores, len(l))
	was := slices.Clone(l)
	for range 2 {
		wantSent(t, f, api.MaxCores, l[:half]...)
	}
	if !slices.Equal(l, was) {
		t.Error("the row is another one now")
	}
	sent := told(f, api.MaxCores)
	for i := range l {
		l[i] = api.Msg{Kind: 77, Core: 5, Data: api.Line{7, 7, 7, 7}}
	}
	if now := told(f, api.MaxCores); now != sent {
		t.Errorf("%s, not %s", now, sent)
	}
	for _, m := range was {
		wantTake(t, f, poolOf(m), m.Core, 0, m)
	}
	for i := range l {
		if l[i].Kind != 77 {
			t.Error("the row is changed behind the call")
		}
	}
	wantEmpty(t, f, api.MaxCores)
}

// P12.3, R2: a message that is handed out is the asker's own.
func TestAnswersApart(t *testing.T) {
	for _, m := range wholes() {
		f := made(t, api.MaxCores, 2)
		wantSent(t, f, api.MaxCores, m, m)
		got, _ := f.Peek(poolOf(m), m.Core, 0)
		got.Kind, got.Core, got.Data[0] = 77, 9, 99
		wantPool(t, f, poolOf(m), m.Core, m, m)
		got, _ = f.Take(poolOf(m), m.Core, 0)
		got.Data[3] = 98
		wantPool(t, f, poolOf(m), m.Core, m)
		again, _ := f.Peek(poolOf(m), m.Core, 0)
		wantTake(t, f, poolOf(m), m.Core, 0, m)
		wantSent(t, f, api.MaxCores, of(kindOf(poolOf(m)), m.Core, 1))
		if again != m {
			t.Errorf("%+v, not %+v", again, m)
		}
	}
}

// P12.4: more go through a pool than it holds at once, with one up to all of its places taken.
func TestMoreThanHeld(t *testing.T) {
	for _, pool := range pools() {
		for _, room := range []int{1, 2, 5} {
			for held := 1; held <= room; held++ {
				f := made(t, 2, room)
				for i := range 100 {
					m := of(kindOf(pool), 1, i%api.MaxLines)
					wantSent(t, f, 2, m)
					if i < held-1 {
						continue
					}
					wantTake(t, f, pool, 1, 0, of(kindOf(pool), 1, (i-held+1)%api.MaxLines))
					if n := f.Len(pool, 1); n != held-1 {
						t.Errorf("%d are in it, not %d", n, held-1)
					}
				}
			}
		}
	}
}

// draw is a row of numbers that is the same in each run.
type draw uint64

func (d *draw) below(n int) int {
	*d = *d*6364136223846793005 + 1442695040888963407
	return int(uint64(*d) >> 33 % uint64(n))
}

// plain is a fabric told in another way: all that is on its way, in one list, as it came.
type plain struct {
	cores, room int
	all         []api.Msg
}

// in tells whether a message is in a pool.
func in(m api.Msg, pool, core int) bool {
	return poolOf(m) == pool && (homes(pool) || m.Core == core)
}

// places are the places in p.all of those that are in a pool.
func (p *plain) places(pool, core int) []int {
	var out []int
	for i, m := range p.all {
		if in(m, pool, core) {
			out = append(out, i)
		}
	}
	return out
}

// send tells which error there is to be, and where; if there is none, all are sent.
func (p *plain) send(l []api.Msg) (int, error) {
	for i, m := range l {
		if !msg.Right(m) || m.Core >= p.cores {
			return i, api.ErrArg
		}
	}
	was := len(p.all)
	for i, m := range l {
		if len(p.places(poolOf(m), m.Core)) == p.room {
			p.all = p.all[:was]
			return i, api.ErrFull
		}
		p.all = append(p.all, m)
	}
	return 0, nil
}

func (p *plain) take(pool, core, k int) (api.Msg, bool) {
	places := p.places(pool, core)
	if k < 0 || k >= len(places) {
		return api.Msg{}, false
	}
	m := p.all[places[k]]
	p.all = slices.Delete(p.all, places[k], places[k]+1)
	return m, true
}

// row draws some messages; few of them are wrong. Each has a number of its own
// wherever it can have one, so that none can stand for another.
func (d *draw) row(cores int, number *uint32) []api.Msg {
	var l []api.Msg
	for range d.below(6) {
		m := of(kinds()[d.below(15)], d.below(cores), d.below(api.MaxLines))
		*number++
		switch m.Kind {
		case api.QUpdate, api.FUpdate, api.RApply:
			m.Value = *number
		case api.RAck, api.RData:
			m.Has, m.Data[0] = true, *number
		}
		switch d.below(60) {
		case 0:
			m.Core = cores
		case 1:
			m.Line = -1
		}
		l = append(l, m)
	}
	return l
}

// wantSame asks that a fabric tells what the other one does.
func wantSame(t *testing.T, f *fabric.Fabric, p *plain) {
	t.Helper()
	wantAll(t, f, len(p.all))
	for _, pool := range pools() {
		for core := range p.cores {
			var want []api.Msg
			for _, i := range p.places(pool, core) {
				want = append(want, p.all[i])
			}
			if len(want) > p.room {
				t.Errorf("%d in a pool of room %d", len(want), p.room)
			}
			wantPool(t, f, pool, core, want...)
		}
	}
}

// wantRow asks that a drawn row is sent, or refused, as by the other fabric; it
// tells whether it was refused, and for which error.
func wantRow(t *testing.T, f *fabric.Fabric, p *plain, l []api.Msg) error {
	t.Helper()
	fits := f.Fits(l...)
	wantSame(t, f, p)
	at, which := p.send(l)
	err := f.Send(l...)
	if which == nil {
		if fits != nil || err != nil {
			t.Errorf("%+v: %v, %v", l, fits, err)
		}
		return nil
	}
	wantRefused(t, fits, "fabric.Send", at, which)
	wantRefused(t, err, "fabric.Send", at, which)
	return which
}

// P12.2 to P12.4: long rows of calls, held against the fabric told in another way.
func TestLongRows(t *testing.T) {
	sent, wrong, full, taken, none := 0, 0, 0, 0, 0
	for _, c := range []struct{ cores, room int }{{1, 1}, {1, 3}, {2, 1}, {2, 4}, {3, 2}, {4, 7}, {64, 1}} {
		f, p, d, number := made(t, c.cores, c.room), &plain{cores: c.cores, room: c.room}, draw(c.cores*64+c.room), uint32(0)
		for range 1500 {
			if d.below(5) < 2 {
				switch wantRow(t, f, p, d.row(c.cores, &number)) {
				case nil:
					sent++
				case api.ErrArg:
					wrong++
				default:
					full++
				}
			} else {
				pool, core, k := d.below(4), d.below(c.cores), d.below(c.room+1)
				if d.below(2) == 0 {
					k = 0
				}
				m, ok := p.take(pool, core, k)
				if ok {
					taken++
					wantPeek(t, f, pool, core, k, m)
					wantTake(t, f, pool, core, k, m)
				} else {
					none++
					wantNone(t, f, pool, core, k)
				}
			}
			wantSame(t, f, p)
		}
	}
	if sent < 1000 || wrong < 200 || full < 200 || taken < 1000 || none < 200 {
		t.Errorf("%d sent, %d wrong, %d full, %d taken, %d none", sent, wrong, full, taken, none)
	}
}
