package prog_test

import (
	"bytes"
	"math"
	"slices"
	"testing"

	"assent/api"
	"assent/fault"
	"assent/pack"
	"assent/prog"
)

const (
	mostWords = api.MaxLines * api.Words
	great     = math.MaxUint32
)

func load(addr int) api.Op            { return api.Op{Kind: api.OLoad, Addr: addr} }
func store(addr int, v uint32) api.Op { return api.Op{Kind: api.OStore, Addr: addr, Value: v} }
func cas(addr int, v, old uint32) api.Op {
	return api.Op{Kind: api.OCas, Addr: addr, Value: v, Old: old}
}
func fence() api.Op                         { return api.Op{Kind: api.OFence} }
func repeated(o api.Op, times int) []api.Op { return slices.Repeat([]api.Op{o}, times) }

// noKinds are numbers of no kind; some are right ones, once their upper bits are cut off.
func noKinds() []int {
	return []int{
		0, -1, -2, -3, -4, -5, -128, -256, 5, 6, 7, 8, 9, 255, 256, 257, 258, 259, 260, 1<<16 + 1, 1 << 31, 1 << 32, 1<<32 + 1,
		1<<32 + 4, 1<<62 + 2, -1<<32 + 1, math.MaxInt, math.MinInt, math.MinInt + 1, math.MinInt + 4,
	}
}

// addrs are numbers of words and of none.
func addrs() []int {
	return []int{
		0, 1, 2, 3, 4, 5, 63, 64, mostWords - 2, mostWords - 1, mostWords, mostWords + 1, 255, 256, 1<<32 + 1, -1, -2, -4, -127, -128,
		1 << 31, 1 << 32, 1<<62 + 1, math.MaxInt, math.MinInt, math.MinInt + 1,
	}
}

// wordCounts are memories' sizes, ones that can't be among them.
func wordCounts() []int {
	return []int{
		1, 2, 4, 5, 64, mostWords - 1, mostWords, 0, -1, -2, -4, -mostWords, mostWords + 1, mostWords + 4, 256, 1 << 31, 1 << 32,
		1<<32 + 4, -1 << 31, -1 << 32, math.MaxInt, math.MaxInt - 1, math.MinInt, math.MinInt + 1, math.MinInt + 4,
	}
}

// rightByTheWords is P9.1 word by word: a row of the right operations' forms.
func rightByTheWords(o api.Op, words int) bool {
	if words > 128 {
		return false
	}
	in := words >= 1 && o.Addr >= 0 && o.Addr <= words-1
	return o == api.Op{Kind: 4} ||
		in && o == api.Op{Kind: 1, Addr: o.Addr} ||
		in && o == api.Op{Kind: 2, Addr: o.Addr, Value: o.Value} ||
		in && o == api.Op{Kind: 3, Addr: o.Addr, Value: o.Value, Old: o.Old}
}

// bytesOf are numbers' bytes, by layer 3.
func bytesOf(numbers ...int) []byte {
	var b []byte
	for _, n := range numbers {
		b = pack.Num(b, n)
	}
	return b
}

// written is a right program's bytes, by P9.2's words.
func written(l []api.Op) []byte {
	numbers := []int{len(l)}
	for _, o := range l {
		switch o.Kind {
		case api.OLoad:
			numbers = append(numbers, 1, o.Addr)
		case api.OStore:
			numbers = append(numbers, 2, o.Addr, int(o.Value))
		case api.OCas:
			numbers = append(numbers, 3, o.Addr, int(o.Value), int(o.Old))
		case api.OFence:
			numbers = append(numbers, 4)
		}
	}
	return bytesOf(numbers...)
}

// programs are right ones of a memory of 4 words, with the edges of length, addrs and values.
func programs() [][]api.Op {
	mixed := []api.Op{load(1), store(2, 5), cas(0, 7, 1), fence()}
	return [][]api.Op{
		nil, {}, mixed, {load(0)}, {load(3)}, {store(0, 0)}, {store(3, great)}, {cas(0, 0, 0)}, {cas(3, great, 0)}, {cas(3, 0, great)},
		{cas(1, great, great)}, {fence()}, {fence(), load(0)}, {store(1, 63), store(1, 64), store(1, 1<<31)}, {cas(2, 1, 2), cas(2, 3, 3)},
		repeated(load(3), api.MaxOps), repeated(store(0, 0), api.MaxOps), repeated(cas(3, great, great), api.MaxOps), repeated(fence(), api.MaxOps),
		slices.Repeat(mixed, api.MaxOps/len(mixed)), repeated(fence(), api.MaxOps-1),
	}
}

func wantOnly(t *testing.T, err, which error) {
	t.Helper()
	others := []error{
		api.ErrArg, api.ErrLong, api.ErrShort, api.ErrForm, api.ErrTail, api.ErrFull,
		api.ErrBusy, api.ErrNone, api.ErrOrder, api.ErrValue,
	}
	others = slices.DeleteFunc(others, func(e error) bool { return e == which })
	if fault.Any(err, which) != 0 || fault.Any(err, others...) != -1 {
		t.Errorf("%v is not %v, or another error too", err, which)
	}
}

// wantPut asks that a program is written so, and read as it was.
func wantPut(t *testing.T, l []api.Op, words int, want []byte) {
	t.Helper()
	b, err := prog.Put(l, words)
	if err != nil || !bytes.Equal(b, want) {
		t.Errorf("Put(%v, %d) is % x, %v, not % x", l, words, b, err, want)
	}
	wantParse(t, want, words, l)
}

// wantParse asks that bytes are read so, by Get too, and that Get reads all of them.
func wantParse(t *testing.T, b []byte, words int, want []api.Op) {
	t.Helper()
	if l, err := prog.Parse(b, words); err != nil || !slices.Equal(l, want) {
		t.Errorf("Parse(% x, %d) is %v, %v, not %v", b, words, l, err, want)
	}
	r := pack.Read(b)
	if l := prog.Get(r, words); !slices.Equal(l, want) || r.Wrong() != nil || r.At() != len(b) {
		t.Errorf("Get of % x is %v at %d, %v, not %v", b, l, r.At(), r.Wrong(), want)
	}
}

func wantPutRefused(t *testing.T, l []api.Op, words, at int, which error) {
	t.Helper()
	b, err := prog.Put(l, words)
	if f, ok := fault.Find(err); !ok || f != (api.Fault{Op: "prog.Put", At: at, Err: which}) || fault.Depth(err) != 2 {
		t.Errorf("Put(%v, %d) is %#v: not %d, %v", l, words, err, at, which)
	}
	wantOnly(t, err, which)
	if b != nil {
		t.Errorf("Put(%v, %d), refused, is % x", l, words, b)
	}
}

// wantParseRefused asks that Parse tells the reader's error at that place, wrapped once more, and no operation.
func wantParseRefused(t *testing.T, b []byte, words, at int, which error) {
	t.Helper()
	l, err := prog.Parse(b, words)
	inner := api.Fault{Op: "pack.Read", At: at, Err: which}
	if f, ok := fault.Find(err); !ok || f != (api.Fault{Op: "prog.Parse", At: 0, Err: inner}) || fault.Depth(err) != 3 {
		t.Errorf("Parse(% x, %d) is %#v: not %v at %d", b, words, err, which, at)
	}
	if !slices.Equal(fault.Ops(err), []string{"prog.Parse", "pack.Read"}) {
		t.Errorf("Parse(% x, %d): Ops are %v", b, words, fault.Ops(err))
	}
	wantOnly(t, err, which)
	if l != nil {
		t.Errorf("Parse(% x, %d), refused, is %v", b, words, l)
	}
}

// wantGetNone asks that a reader becomes wrong so, and that there is no operation then.
func wantGetNone(t *testing.T, r *pack.Reader, words, at int, which error) {
	t.Helper()
	if l := prog.Get(r, words); l != nil {
		t.Errorf("Get of a wrong reader is %v", l)
	}
	if f, ok := fault.Find(r.Wrong()); !ok || f != (api.Fault{Op: "pack.Read", At: at, Err: which}) || r.At() != at {
		t.Errorf("the reader is %#v at %d: not %v at %d", r.Wrong(), r.At(), which, at)
	}
}

// wantNone asks that both Parse and Get refuse bytes so.
func wantNone(t *testing.T, b []byte, words, at int, which error) {
	t.Helper()
	wantParseRefused(t, b, words, at, which)
	wantGetNone(t, pack.Read(b), words, at, which)
}

// The chapter's table.
func TestRuns(t *testing.T) {
	l := []api.Op{load(1), store(2, 5), cas(0, 7, 1), fence()}
	wantPut(t, l, 4, []byte{0x08, 0x02, 0x02, 0x04, 0x04, 0x0A, 0x06, 0x00, 0x0E, 0x02, 0x08})
	wantParseRefused(t, []byte{0x02, 0x02, 0x08}, 4, 2, api.ErrForm)
	wantPutRefused(t, []api.Op{load(4)}, 4, 0, api.ErrArg)
}

// P9.1: each kind at the edges, written out.
func TestRight(t *testing.T) {
	for _, c := range []struct {
		o     api.Op
		words int
		want  bool
	}{
		{load(0), 1, true}, {load(1), 1, false}, {load(-1), 1, false}, {load(0), 0, false}, {load(-1), 0, false}, {load(-2), -1, false},
		{load(127), 128, true}, {load(128), 128, false}, {load(0), 128, true}, {load(0), 129, false}, {load(128), 129, false},
		{store(3, great), 4, true}, {store(4, great), 4, false}, {store(0, 0), 4, true}, {store(-1, 0), 4, false}, {store(0, 0), 0, false},
		{store(0, 0), 129, false}, {store(0, 0), math.MinInt, false}, {cas(3, great, great), 4, true}, {cas(4, 1, 1), 4, false},
		{cas(0, 0, 0), 1, true}, {cas(-1, 0, 0), 4, false}, {cas(0, 0, 0), 0, false}, {cas(0, 0, 0), 129, false}, {cas(0, 0, great), 4, true},
		{fence(), 4, true}, {fence(), 1, true}, {fence(), 128, true}, {fence(), 129, false}, {fence(), math.MaxInt, false},
		{fence(), 0, true}, {fence(), -1, true}, {fence(), math.MinInt, true},
		{api.Op{Kind: api.OLoad, Value: 1}, 4, false}, {api.Op{Kind: api.OLoad, Old: 1}, 4, false}, {api.Op{Kind: api.OLoad, Value: great}, 4, false},
		{api.Op{Kind: api.OStore, Value: 1, Old: 1}, 4, false}, {api.Op{Kind: api.OStore, Old: great}, 4, false},
		{api.Op{Kind: api.OFence, Addr: 1}, 4, false}, {api.Op{Kind: api.OFence, Addr: -1}, 4, false}, {api.Op{Kind: api.OFence, Value: 1}, 4, false},
		{api.Op{Kind: api.OFence, Old: 1}, 4, false}, {api.Op{Kind: api.OFence, Addr: math.MinInt}, 4, false},
		{api.Op{}, 4, false}, {api.Op{Kind: -1}, 4, false}, {api.Op{Kind: 5}, 4, false},
	} {
		if got := prog.Right(c.o, c.words); got != c.want {
			t.Errorf("Right(%v, %d) is %v", c.o, c.words, got)
		}
	}
}

// P9.1: every kind with every addr, value, old and size of memory.
func TestRightByTheWords(t *testing.T) {
	values := []uint32{0, 1, 1 << 31, great}
	for _, words := range wordCounts() {
		for _, kind := range append(noKinds(), api.OLoad, api.OStore, api.OCas, api.OFence) {
			for _, addr := range addrs() {
				for _, v := range values {
					for _, old := range values {
						o := api.Op{Kind: kind, Addr: addr, Value: v, Old: old}
						if got := prog.Right(o, words); got != rightByTheWords(o, words) {
							t.Errorf("Right(%v, %d) is %v", o, words, got)
						}
					}
				}
			}
		}
	}
}

// P9.2: each kind's bytes, written out, at the edges of its fields.
func TestPutBytes(t *testing.T) {
	wantPut(t, nil, 4, []byte{0x00})
	wantPut(t, []api.Op{}, 4, []byte{0x00})
	wantPut(t, []api.Op{load(0)}, 1, []byte{0x02, 0x02, 0x00})
	wantPut(t, []api.Op{load(127)}, 128, []byte{0x02, 0x02, 0xFE, 0x01})
	wantPut(t, []api.Op{store(0, 0)}, 1, []byte{0x02, 0x04, 0x00, 0x00})
	wantPut(t, []api.Op{store(3, great)}, 4, []byte{0x02, 0x04, 0x06, 0xFE, 0xFF, 0xFF, 0xFF, 0x1F})
	wantPut(t, []api.Op{cas(1, 2, 3)}, 4, []byte{0x02, 0x06, 0x02, 0x04, 0x06})
	wantPut(t, []api.Op{cas(0, 0, great)}, 4, []byte{0x02, 0x06, 0x00, 0x00, 0xFE, 0xFF, 0xFF, 0xFF, 0x1F})
	wantPut(t, []api.Op{fence()}, 4, []byte{0x02, 0x08})
	wantPut(t, []api.Op{fence(), load(3)}, 4, []byte{0x04, 0x08, 0x02, 0x06})
	wantPut(t, repeated(fence(), api.MaxOps), 4, append([]byte{0x80, 0x01}, bytes.Repeat([]byte{0x08}, api.MaxOps)...))
}

// P9.2, P9.4: whole programs are written by the words, and read as they were.
func TestPutPrograms(t *testing.T) {
	for _, l := range programs() {
		for _, words := range []int{4, 5, 64, mostWords} {
			wantPut(t, l, words, written(l))
		}
	}
}

// P9.1, P9.2: a program without operations has none that isn't right, whatever
// the words; one of fences is right of no words too.
func TestPutOfOddWords(t *testing.T) {
	for _, words := range wordCounts() {
		wantPut(t, nil, words, []byte{0x00})
		if words <= mostWords {
			wantPut(t, []api.Op{fence(), fence()}, words, []byte{0x04, 0x08, 0x08})
		} else {
			wantPutRefused(t, []api.Op{fence(), fence()}, words, 0, api.ErrArg)
		}
		if words < 1 || words > mostWords {
			for _, o := range []api.Op{load(0), store(0, 0), cas(0, 0, 0)} {
				wantPutRefused(t, []api.Op{o}, words, 0, api.ErrArg)
			}
		}
	}
}

// wrongOps are operations that aren't right of 4 words.
func wrongOps() []api.Op {
	out := []api.Op{
		{Kind: api.OLoad, Value: 1}, {Kind: api.OLoad, Old: 1}, {Kind: api.OStore, Value: 1, Old: 1}, {Kind: api.OFence, Addr: 1},
		{Kind: api.OFence, Value: 1}, {Kind: api.OFence, Old: 1}, {Kind: api.OFence, Addr: -1},
	}
	for _, kind := range noKinds() {
		out = append(out, api.Op{Kind: kind})
	}
	for _, addr := range addrs() {
		if addr < 0 || addr >= 4 {
			out = append(out, load(addr), store(addr, 1), cas(addr, 1, 2))
		}
	}
	return out
}

// P9.2, R3: the first that isn't right is told, wherever it stands.
func TestPutRefusesTheFirst(t *testing.T) {
	for _, o := range wrongOps() {
		wantPutRefused(t, []api.Op{o}, 4, 0, api.ErrArg)
		wantPutRefused(t, []api.Op{fence(), load(0), o, store(0, 1)}, 4, 2, api.ErrArg)
		wantPutRefused(t, []api.Op{fence(), o, load(4), o}, 4, 1, api.ErrArg)
		last := append(repeated(cas(3, great, great), api.MaxOps-1), o)
		wantPutRefused(t, last, 4, api.MaxOps-1, api.ErrArg)
	}
}

// P9.2, R3: that there are too many is asked ahead of whether they are right.
func TestPutTooLong(t *testing.T) {
	for _, size := range []int{api.MaxOps + 1, api.MaxOps + 2, 128, 256, 257, 1 << 16, 1<<16 + 1} {
		wantPutRefused(t, repeated(fence(), size), 4, size, api.ErrLong)
		wantPutRefused(t, make([]api.Op, size), 4, size, api.ErrLong)
		wantPutRefused(t, repeated(load(0), size), 0, size, api.ErrLong)
		wantPutRefused(t, repeated(load(0), size), mostWords+1, size, api.ErrLong)
		wantPutRefused(t, append(repeated(fence(), size-1), api.Op{}), 4, size, api.ErrLong)
	}
}

// P9.3: every beginning of a program's bytes is too short, at the number that isn't whole.
func TestParseBeginnings(t *testing.T) {
	for _, l := range programs() {
		b := written(l)
		for size := range b {
			at := size
			for at > 0 && b[at-1] >= 128 {
				at--
			}
			wantNone(t, b[:size], 4, at, api.ErrShort)
		}
	}
	wantNone(t, nil, 4, 0, api.ErrShort)
	wantNone(t, []byte{}, 0, 0, api.ErrShort)
}

// P9.3: each number that is out of its bounds is told at its place.
func TestParseOutOfBounds(t *testing.T) {
	for _, many := range []int{-1, -64, api.MaxOps + 1, 128, 256, 1 << 32, 1<<32 + 1, math.MaxInt, math.MinInt} {
		b := append(bytesOf(many), bytes.Repeat([]byte{0x08}, 70)...)
		wantNone(t, b, 4, 0, api.ErrForm)
	}
	for _, kind := range noKinds() {
		wantNone(t, bytesOf(1, kind, 0, 0, 0), 4, 1, api.ErrForm)
		wantNone(t, bytesOf(3, api.OFence, api.OLoad, 0, kind), 4, 4, api.ErrForm)
	}
	for _, kind := range []int{api.OLoad, api.OStore, api.OCas} {
		for _, addr := range addrs() {
			if addr < 0 || addr >= 4 {
				wantNone(t, bytesOf(1, kind, addr, 0, 0), 4, 2, api.ErrForm)
			}
		}
	}
	for _, v := range []int{-1, -2, -1 << 31, -1 << 32, 1 << 32, 1<<32 + 1, math.MaxInt, math.MinInt} {
		wantNone(t, bytesOf(1, api.OStore, 0, v), 4, 3, api.ErrForm)
		wantNone(t, bytesOf(1, api.OCas, 0, v, 0), 4, 3, api.ErrForm)
		wantNone(t, bytesOf(1, api.OCas, 0, 0, v), 4, 4, api.ErrForm)
	}
}

// P9.3: of two numbers that are out of their bounds the first one stops the reader.
func TestParseTheFirst(t *testing.T) {
	wantNone(t, bytesOf(65, 0), 4, 0, api.ErrForm)
	wantNone(t, bytesOf(2, 0, 9), 4, 1, api.ErrForm)
	wantNone(t, bytesOf(1, api.OCas, 4, -1, -1), 4, 2, api.ErrForm)
	wantNone(t, bytesOf(1, api.OCas, 3, -1, -1), 4, 3, api.ErrForm)
	wantNone(t, append(bytesOf(2, api.OLoad, 4), 0x80), 4, 2, api.ErrForm)
	wantNone(t, append(bytesOf(2, api.OLoad, 3), 0x80), 4, 3, api.ErrShort)
	wantNone(t, bytesOf(64, api.OFence, 5), 4, 3, api.ErrForm)
}

// P9.3: bytes of no number are not in form, whichever number they stand for.
func TestParseNotInForm(t *testing.T) {
	tenth := append(bytes.Repeat([]byte{0xFF}, 9), 0x02)
	for _, bad := range [][]byte{{0x80, 0x00}, {0x82, 0x00}, {0x84, 0x80, 0x00}, tenth} {
		for _, ahead := range [][]int{{}, {1}, {1, api.OLoad}, {1, api.OStore, 0}, {1, api.OCas, 0, 5}, {2, api.OFence}} {
			b := bytesOf(ahead...)
			wantNone(t, append(b, bad...), 4, len(b), api.ErrForm)
		}
	}
}

// P9.3: bytes left over are Parse's fault, at the first of them, and not Get's.
func TestParseLeftOver(t *testing.T) {
	for _, l := range programs() {
		b := written(l)
		for _, rest := range [][]byte{{0x00}, {0x08}, {0x80}, {0x80, 0x00}, {0xFF, 0xFF}, b} {
			long := append(slices.Clone(b), rest...)
			wantParseRefused(t, long, 4, len(b), api.ErrTail)
			r := pack.Read(long)
			if got := prog.Get(r, 4); !slices.Equal(got, l) || r.Wrong() != nil || r.At() != len(b) {
				t.Errorf("Get of % x is %v at %d, %v", long, got, r.At(), r.Wrong())
			}
		}
	}
}

// P9.3: Get begins where the reader stands, and leaves it behind the program.
func TestGetBehindOthers(t *testing.T) {
	for _, l := range programs() {
		b := append(append(bytesOf(-7, 300), written(l)...), bytesOf(99)...)
		b = append(b, written(l)...)
		r := pack.Read(b)
		if r.Num() != -7 || r.Num() != 300 {
			t.Fatal("the numbers ahead")
		}
		if got := prog.Get(r, 4); !slices.Equal(got, l) || r.At() != 3+len(written(l)) {
			t.Errorf("Get is %v at %d, not %v", got, r.At(), l)
		}
		if n := r.Num(); n != 99 {
			t.Errorf("the number behind %v is %d", l, n)
		}
		if got := prog.Get(r, 4); !slices.Equal(got, l) || r.End() != nil {
			t.Errorf("the second is %v, %v, not %v", got, r.End(), l)
		}
	}
}

// P9.3: a reader that is wrong already, or becomes so in the midst, has no operation, and keeps its first error.
func TestGetOfWrong(t *testing.T) {
	whole := written(programs()[2])
	r := pack.Read(append(bytesOf(9), whole...))
	r.In(0, 8)
	wantGetNone(t, r, 4, 0, api.ErrForm)
	wantGetNone(t, r, 128, 0, api.ErrForm)
	r = pack.Read(append([]byte{0x02, 0x80, 0x00}, whole...))
	r.Num()
	r.Num()
	wantGetNone(t, r, 4, 1, api.ErrForm)
	r = pack.Read(append(bytesOf(5, 6), whole...))
	r.Num()
	if r.End() == nil {
		t.Error("End ahead of bytes is nil")
	}
	wantGetNone(t, r, 4, 1, api.ErrTail)
	r = pack.Read(append(bytesOf(5), whole[:7]...))
	r.Num()
	wantGetNone(t, r, 4, 8, api.ErrShort)
	wantGetNone(t, r, 4, 8, api.ErrShort)
	r = pack.Read(bytesOf(5, 3, api.OFence, api.OFence, 5))
	r.Num()
	wantGetNone(t, r, 4, 4, api.ErrForm)
	wantGetNone(t, new(pack.Reader), 4, 0, api.ErrShort)
	if l := prog.Get(nil, 4); l != nil {
		t.Errorf("Get of no reader is %v", l)
	}
}

// P9.3: an addr is below words, and below the greatest memory's, whatever the words;
// of no words there is none, of the least int too.
func TestParseWords(t *testing.T) {
	for _, words := range wordCounts() {
		size := min(words, mostWords)
		for _, kind := range []int{api.OLoad, api.OStore, api.OCas} {
			for _, addr := range addrs() {
				o := api.Op{Kind: kind, Addr: addr}
				b := written([]api.Op{o})
				if addr >= 0 && addr < size {
					wantParse(t, b, words, []api.Op{o})
				} else {
					wantNone(t, b, words, 2, api.ErrForm)
				}
			}
		}
		wantParse(t, bytesOf(2, api.OFence, api.OFence), words, []api.Op{fence(), fence()})
		wantParse(t, bytesOf(0), words, nil)
	}
	for _, words := range []int{mostWords, mostWords + 1, 500, math.MaxInt} {
		wantParse(t, bytesOf(1, api.OCas, 127, great, great), words, []api.Op{cas(127, great, great)})
		wantNone(t, bytesOf(1, api.OLoad, 128), words, 2, api.ErrForm)
	}
}

// P9.4: what Parse takes, of a memory that may be, is written by Put again as it was.
func TestParseIsPuts(t *testing.T) {
	taken := 0
	for _, b := range shortBytes() {
		for _, words := range []int{0, 1, 2, mostWords} {
			l, err := prog.Parse(b, words)
			if err != nil {
				continue
			}
			taken++
			if again, err := prog.Put(l, words); err != nil || !bytes.Equal(again, b) {
				t.Fatalf("Parse took % x as %v, of which Put makes % x, %v", b, l, again, err)
			}
			for _, o := range l {
				if !prog.Right(o, words) {
					t.Fatalf("Parse took % x, in which %v is not right of %d", b, o, words)
				}
			}
		}
	}
	if taken < 200 {
		t.Errorf("only %d were taken", taken)
	}
}

// shortBytes are all rows of up to six bytes out of a few that tell something.
func shortBytes() [][]byte {
	some := []byte{0x00, 0x01, 0x02, 0x04, 0x06, 0x08, 0x80}
	out := [][]byte{nil}
	for begin := 0; len(out[begin]) < 6; begin++ {
		for _, c := range some {
			out = append(out, append(slices.Clone(out[begin]), c))
		}
	}
	return out
}

// R2: what is handed in stays, its spare room too, and is not read there.
func TestHandedInStays(t *testing.T) {
	for _, l := range programs() {
		room := append(slices.Clone(l), repeated(load(77), 9)...)
		was := slices.Clone(room)
		if b, err := prog.Put(room[:len(l)], 4); err != nil || !bytes.Equal(b, written(l)) || !slices.Equal(room, was) {
			t.Errorf("Put of %v is % x, %v, and left %v", l, b, err, room)
		}
		text := append(written(l), bytes.Repeat([]byte{0xAA}, 9)...)
		before, size := slices.Clone(text), len(written(l))
		if got, err := prog.Parse(text[:size], 4); err != nil || !slices.Equal(got, l) || !bytes.Equal(text, before) {
			t.Errorf("Parse of %v is %v, %v, and left % x", l, got, err, text)
		}
		if _, err := prog.Parse(text[:size-1], 4); err == nil || !bytes.Equal(text, before) {
			t.Errorf("Parse of too few is %v, and left % x", err, text)
		}
	}
}

// R2: an answer is new memory, its spare room too.
func TestAnswersAreNew(t *testing.T) {
	for _, l := range programs() {
		mine, text := slices.Clone(l), written(l)
		one, _ := prog.Put(mine, 4)
		two, _ := prog.Put(mine, 4)
		spoil(one, 0x55)
		spoil(mine, load(77))
		if !bytes.Equal(two, written(l)) {
			t.Errorf("Put's answers of %v share memory", l)
		}
		r, again := pack.Read(text), pack.Read(text)
		got, _ := prog.Parse(text, 4)
		other, _ := prog.Parse(text, 4)
		taken := prog.Get(r, 4)
		spoil(got, load(77))
		if !slices.Equal(other, l) || !slices.Equal(taken, l) || !bytes.Equal(text, written(l)) {
			t.Errorf("Parse's answers of %v share memory", l)
		}
		spoil(taken, load(77))
		spoil(text, 0x55)
		if !slices.Equal(other, l) || !slices.Equal(prog.Get(again, 4), l) {
			t.Errorf("what was taken of %v shares memory", l)
		}
	}
}

// spoil overwrites a list and its spare room.
func spoil[T any](l []T, with T) {
	for i := range l[:cap(l)] {
		l[:cap(l)][i] = with
	}
}

// draw makes a row of numbers that is the same each time.
type draw uint64

func (d *draw) below(n int) int {
	*d = *d*6364136223846793005 + 1442695040888963407
	return int(uint64(*d)>>33) % n
}

// op is an operation of a memory of so many words, now and then one that isn't right.
func (d *draw) op(words int) api.Op {
	values := []uint32{0, 1, 63, 64, 1 << 31, great, uint32(d.below(1 << 30))}
	o := api.Op{Kind: api.OLoad + d.below(4)}
	if o.Kind != api.OFence {
		o.Addr = d.below(words)
	}
	if o.Kind == api.OStore || o.Kind == api.OCas {
		o.Value = values[d.below(len(values))]
	}
	if o.Kind == api.OCas {
		o.Old = values[d.below(len(values))]
	}
	switch d.below(200) {
	case 0:
		o.Kind = d.below(7) - 1
	case 1:
		o.Addr = d.below(2*words) - words/2
	case 2:
		o.Value, o.Old = uint32(d.below(2)), uint32(d.below(2))
	}
	return o
}

// P9.1 to P9.4: long rows of drawn programs, held against the words.
func TestDrawnPrograms(t *testing.T) {
	d := draw(9)
	right, refused := 0, 0
	for range 3000 {
		words := 1 + d.below(mostWords)
		l := make([]api.Op, d.below(api.MaxOps+3))
		for i := range l {
			l[i] = d.op(words)
		}
		first := slices.IndexFunc(l, func(o api.Op) bool { return !rightByTheWords(o, words) })
		switch {
		case len(l) > api.MaxOps:
			wantPutRefused(t, l, words, len(l), api.ErrLong)
		case first >= 0:
			refused++
			wantPutRefused(t, l, words, first, api.ErrArg)
		default:
			right++
			wantPut(t, l, words, written(l))
		}
	}
	if right < 500 || refused < 500 {
		t.Errorf("%d right ones, %d refused", right, refused)
	}
}

// P9.3, P9.4: a byte of a program turned: Parse refuses it, or takes what Put writes so.
func TestTurnedBytes(t *testing.T) {
	d := draw(99)
	for range 3000 {
		l := make([]api.Op, 1+d.below(8))
		for i := range l {
			l[i] = load(0)
			if o := d.op(4); rightByTheWords(o, 4) {
				l[i] = o
			}
		}
		b := written(l)
		b[d.below(len(b))] = byte(d.below(256))
		got, err := prog.Parse(b, 4)
		if err != nil {
			if f, ok := fault.Find(err); got != nil || !ok || f.Op != "prog.Parse" || f.At != 0 || fault.Any(err, api.ErrShort, api.ErrForm, api.ErrTail) < 0 {
				t.Fatalf("Parse(% x) is %v, %v", b, got, err)
			}
		} else if again, err := prog.Put(got, 4); err != nil || !bytes.Equal(again, b) {
			t.Fatalf("Parse took % x as %v, of which Put makes % x, %v", b, got, again, err)
		}
	}
}
