package msg_test

import (
	"bytes"
	"math"
	"slices"
	"testing"

	"assent/api"
	"assent/fault"
	"assent/msg"
	"assent/pack"
)

const great = math.MaxUint32

// kinds are all that there are.
func kinds() []int {
	return []int{
		api.QRead, api.QWrite, api.QUpdate, api.QEvict, api.FShare, api.FInval, api.FHold, api.FUpdate, api.FClean, api.FTake,
		api.RAck, api.RFill, api.RData, api.RApply, api.RGone,
	}
}

// past are numbers below 0 and above most; some are within, once their upper bits are cut off.
func past(most int) []int {
	return []int{
		-1, -2, -128, -256, -1 << 31, -1 << 32, -1<<32 + 1, math.MinInt, math.MinInt + 1, most + 1, most + 2, most + 256, most + 1<<16,
		1 << 31, 1 << 32, 1<<32 + 1, 1<<32 + most, 1<<62 + 1, math.MaxInt - 1, math.MaxInt,
	}
}

// noKinds are numbers of no kind.
func noKinds() []int { return append(past(api.RGone), 0) }

// rightByTheWords is P11.1 word by word: what is named is within its limits, and all else is zero.
func rightByTheWords(m api.Msg) bool {
	in := func(n, most int) bool { return n >= 0 && n <= most }
	if !in(m.Core, 63) || !in(m.Line, 31) || !m.Has && m.Data != (api.Line{}) {
		return false
	}
	only := api.Msg{Kind: m.Kind, Core: m.Core, Line: m.Line}
	switch m.Kind {
	case 1, 2, 4, 6, 7, 10, 12, 15:
		return m == only
	case 3, 8, 14:
		only.Word, only.Value = m.Word, m.Value
		return m == only && in(m.Word, 3)
	case 5:
		only.Mode = m.Mode
		return m == only && in(m.Mode, 3)
	case 9:
		only.Mode, only.Epoch = m.Mode, m.Epoch
		return m == only && in(m.Mode, 3) && in(m.Epoch, 255)
	case 11:
		only.State, only.Has, only.Data = m.State, m.Has, m.Data
		return m == only && in(m.State, 4)
	case 13:
		only.State, only.Has, only.Data, only.Mode, only.Epoch = m.State, m.Has, m.Data, m.Mode, m.Epoch
		granted := m.State == api.Shared || m.State == api.Exclusive || m.State == api.Modified
		return m == only && granted && in(m.Mode, 3) && in(m.Epoch, 255)
	}
	return false
}

// bytesOf are numbers' bytes, by layer 3.
func bytesOf(numbers ...int) []byte {
	var b []byte
	for _, n := range numbers {
		b = pack.Num(b, n)
	}
	return b
}

// numbersOf are what a right message's bytes stand for, by P11.2's words.
func numbersOf(m api.Msg) []int {
	numbers := []int{m.Kind, m.Core, m.Line}
	switch m.Kind {
	case api.QUpdate, api.FUpdate, api.RApply:
		return append(numbers, m.Word, int(m.Value))
	case api.FShare:
		return append(numbers, m.Mode)
	case api.FClean:
		return append(numbers, m.Epoch, m.Mode)
	case api.RAck:
		numbers = append(numbers, m.State)
	case api.RData:
		numbers = append(numbers, m.Mode, m.Epoch, m.State)
	default:
		return numbers
	}
	if !m.Has {
		return append(numbers, 0)
	}
	return append(numbers, 1, int(m.Data[0]), int(m.Data[1]), int(m.Data[2]), int(m.Data[3]))
}

func written(m api.Msg) []byte { return bytesOf(numbersOf(m)...) }

// messages are right ones: each kind, at each edge of what it names.
func messages() []api.Msg {
	datas := []api.Line{{}, {1, 2, 3, 4}, {great, 0, great, 0}, {0, great, 0, great}, {great, great, great, great}, {0, 0, 0, 1}, {63, 64, 1 << 31, 5}}
	var out []api.Msg
	for _, kind := range kinds() {
		for _, core := range []int{0, 1, api.MaxCores - 1} {
			for _, line := range []int{0, 2, api.MaxLines - 1} {
				out = append(out, named(api.Msg{Kind: kind, Core: core, Line: line}, datas)...)
			}
		}
	}
	return out
}

// named are messages with what m's kind names put to it.
func named(m api.Msg, datas []api.Line) []api.Msg {
	var out []api.Msg
	modes := []int{api.Mesi, api.Moesi, api.Dragon, api.Migrant}
	epochs := []int{0, 1, 64, api.MaxEpoch}
	switch m.Kind {
	case api.QUpdate, api.FUpdate, api.RApply:
		for m.Word = range api.Words {
			for _, m.Value = range []uint32{0, 1, 63, 64, 1 << 31, great} {
				out = append(out, m)
			}
		}
	case api.FShare:
		for _, m.Mode = range modes {
			out = append(out, m)
		}
	case api.FClean:
		for _, m.Mode = range modes {
			for _, m.Epoch = range epochs {
				out = append(out, m)
			}
		}
	case api.RAck:
		for _, m.State = range []int{api.Invalid, api.Shared, api.Exclusive, api.Owned, api.Modified} {
			out = append(out, filled(m, datas)...)
		}
	case api.RData:
		for _, m.State = range []int{api.Shared, api.Exclusive, api.Modified} {
			for _, m.Mode = range modes {
				for _, m.Epoch = range epochs {
					out = append(out, filled(m, datas)...)
				}
			}
		}
	default:
		out = append(out, m)
	}
	return out
}

// filled are m without data, and with each of them.
func filled(m api.Msg, datas []api.Line) []api.Msg {
	out := []api.Msg{m}
	m.Has = true
	for _, m.Data = range datas {
		out = append(out, m)
	}
	return out
}

func wantOnly(t *testing.T, err, which error) {
	t.Helper()
	others := []error{
		api.ErrArg, api.ErrLong, api.ErrShort, api.ErrForm, api.ErrTail, api.ErrFull,
		api.ErrBusy, api.ErrNone, api.ErrOrder, api.ErrValue,
	}
	others = slices.DeleteFunc(others, func(e error) bool { return e == which })
	if fault.Any(err, which) != 0 || fault.Any(err, others...) != -1 {
		t.Errorf("%v is not %v, or another error too", err, which)
	}
}

// wantPut asks that a message is right and written so, and read as it was.
func wantPut(t *testing.T, m api.Msg, want []byte) {
	t.Helper()
	if !msg.Right(m) {
		t.Errorf("%+v is not right", m)
	}
	if b := msg.Put(m); !bytes.Equal(b, want) {
		t.Errorf("Put(%+v) is % x, not % x", m, b, want)
	}
	if got, err := msg.Get(want); got != m || err != nil {
		t.Errorf("Get(% x) is %+v, %v, not %+v", want, got, err, m)
	}
}

// wantWrong asks that a message is not right, and has no bytes.
func wantWrong(t *testing.T, m api.Msg) {
	t.Helper()
	if msg.Right(m) {
		t.Errorf("%+v is right", m)
	}
	if b := msg.Put(m); len(b) != 0 {
		t.Errorf("Put(%+v) is % x", m, b)
	}
}

// wantRefused asks that Get tells the reader's error at that place, wrapped once more, and no message.
func wantRefused(t *testing.T, b []byte, at int, which error) {
	t.Helper()
	wantFault(t, b, api.Fault{Op: "pack.Read", At: at, Err: which}, which, "msg.Get", "pack.Read")
}

// wantNotRight asks that Get, of bytes that its reader takes, tells of itself that they are not in form, and no message.
func wantNotRight(t *testing.T, b []byte) {
	t.Helper()
	wantFault(t, b, api.ErrForm, api.ErrForm, "msg.Get")
}

func wantFault(t *testing.T, b []byte, inner, root error, ops ...string) {
	t.Helper()
	m, err := msg.Get(b)
	if f, ok := fault.Find(err); !ok || f != (api.Fault{Op: "msg.Get", At: 0, Err: inner}) || fault.Depth(err) != len(ops)+1 {
		t.Errorf("Get(% x) is %#v: not %#v", b, err, inner)
	}
	if !slices.Equal(fault.Ops(err), ops) {
		t.Errorf("Get(% x): Ops are %v, not %v", b, fault.Ops(err), ops)
	}
	wantOnly(t, err, root)
	if m != (api.Msg{}) {
		t.Errorf("Get(% x), refused, is %+v", b, m)
	}
}

// The chapter's table.
func TestRuns(t *testing.T) {
	update := api.Msg{Kind: api.QUpdate, Core: 1, Line: 2, Word: 3, Value: 4}
	wantPut(t, update, []byte{0x06, 0x02, 0x04, 0x06, 0x08})
	wantRefused(t, []byte{0x06, 0x02, 0x04, 0x06}, 4, api.ErrShort)
	wantNotRight(t, bytesOf(api.RData, 1, 2, api.Mesi, 0, api.Owned, 0))
}

// P11.1: each kind's pool; none of what is no kind.
func TestPool(t *testing.T) {
	pools := map[int][]int{
		api.PRequest: {1, 2, 3, 4},
		api.PForward: {5, 6, 7, 8, 9, 10},
		api.PAnswer:  {11, 12},
		api.PData:    {13, 14, 15},
		-1:           append(noKinds(), 16, 17, 18, 255, 257, 261, 267, 269),
	}
	for want, l := range pools {
		for _, kind := range l {
			if got := msg.Pool(kind); got != want {
				t.Errorf("Pool(%d) is %d, not %d", kind, got, want)
			}
		}
	}
}

// P11.1: what is right at the edges, and one past each, written out.
func TestRightEdges(t *testing.T) {
	one := api.Line{0, 0, 0, 1}
	for _, c := range []struct {
		m    api.Msg
		want bool
	}{
		{api.Msg{}, false}, {api.Msg{Kind: -1}, false}, {api.Msg{Kind: api.QRead}, true}, {api.Msg{Kind: api.RGone}, true}, {api.Msg{Kind: 16}, false},
		{api.Msg{Kind: api.QWrite, Core: 63, Line: 31}, true}, {api.Msg{Kind: api.QWrite, Core: 64}, false}, {api.Msg{Kind: api.QWrite, Core: -1}, false},
		{api.Msg{Kind: api.QEvict, Line: 32}, false}, {api.Msg{Kind: api.QEvict, Line: -1}, false}, {api.Msg{Kind: api.QEvict, Word: 1}, false},
		{api.Msg{Kind: api.QUpdate, Word: 3, Value: great}, true}, {api.Msg{Kind: api.QUpdate, Word: 4}, false}, {api.Msg{Kind: api.QUpdate, Word: -1}, false},
		{api.Msg{Kind: api.FUpdate, Word: 3, Value: great}, true}, {api.Msg{Kind: api.FUpdate, Word: 4}, false}, {api.Msg{Kind: api.FUpdate, Mode: 1}, false},
		{api.Msg{Kind: api.RApply, Word: 3, Value: great}, true}, {api.Msg{Kind: api.RApply, Word: 4}, false}, {api.Msg{Kind: api.RApply, State: 1}, false},
		{api.Msg{Kind: api.FShare, Mode: api.Migrant}, true}, {api.Msg{Kind: api.FShare, Mode: 4}, false}, {api.Msg{Kind: api.FShare, Mode: -1}, false},
		{api.Msg{Kind: api.FShare, Epoch: 1}, false}, {api.Msg{Kind: api.FInval, Mode: 1}, false}, {api.Msg{Kind: api.FHold, Value: 1}, false},
		{api.Msg{Kind: api.FClean, Mode: api.Migrant, Epoch: 255}, true}, {api.Msg{Kind: api.FClean, Epoch: 256}, false},
		{api.Msg{Kind: api.FClean, Epoch: -1}, false}, {api.Msg{Kind: api.FClean, Mode: 4}, false}, {api.Msg{Kind: api.FClean, State: 1}, false},
		{api.Msg{Kind: api.FTake, Has: true}, false}, {api.Msg{Kind: api.RFill, Has: true}, false}, {api.Msg{Kind: api.RFill, State: 1}, false},
		{api.Msg{Kind: api.RAck}, true}, {api.Msg{Kind: api.RAck, State: api.Modified}, true}, {api.Msg{Kind: api.RAck, State: 5}, false},
		{api.Msg{Kind: api.RAck, State: -1}, false}, {api.Msg{Kind: api.RAck, Has: true}, true}, {api.Msg{Kind: api.RAck, Has: true, Data: one}, true},
		{api.Msg{Kind: api.RAck, Data: one}, false}, {api.Msg{Kind: api.RAck, Mode: 1}, false}, {api.Msg{Kind: api.RAck, Epoch: 1}, false},
		{api.Msg{Kind: api.RAck, State: api.Owned, Has: true, Data: api.Line{great, great, great, great}}, true},
		{api.Msg{Kind: api.RData}, false}, {api.Msg{Kind: api.RData, State: api.Owned}, false}, {api.Msg{Kind: api.RData, State: api.Shared}, true},
		{api.Msg{Kind: api.RData, State: api.Exclusive}, true}, {api.Msg{Kind: api.RData, State: api.Modified}, true}, {api.Msg{Kind: api.RData, State: 5}, false},
		{api.Msg{Kind: api.RData, State: -1}, false}, {api.Msg{Kind: api.RData, Has: true, Data: one}, false},
		{api.Msg{Kind: api.RData, State: api.Owned, Has: true, Data: one}, false}, {api.Msg{Kind: api.RData, State: api.Shared, Data: one}, false},
		{api.Msg{Kind: api.RData, State: api.Shared, Has: true, Data: one}, true}, {api.Msg{Kind: api.RData, State: api.Shared, Mode: 4}, false},
		{api.Msg{Kind: api.RData, State: api.Shared, Mode: 3, Epoch: 255}, true}, {api.Msg{Kind: api.RData, State: api.Shared, Epoch: 256}, false},
		{api.Msg{Kind: api.RData, State: api.Shared, Word: 1}, false}, {api.Msg{Kind: api.RData, State: api.Shared, Value: 1}, false},
		{api.Msg{Kind: api.RGone, Data: one}, false}, {api.Msg{Kind: api.RGone, Has: true, Data: one}, false}, {api.Msg{Kind: api.RGone, Epoch: 1}, false},
	} {
		if got := msg.Right(c.m); got != c.want {
			t.Errorf("Right(%+v) is %v", c.m, got)
		}
		if got := rightByTheWords(c.m); got != c.want {
			t.Errorf("the words take %+v as %v", c.m, got)
		}
	}
}

// P11.1, P11.2: every kind with every edge of every field: only what is right by the words has bytes.
func TestRightByTheWords(t *testing.T) {
	states := []int{-1, api.Invalid, api.Shared, api.Exclusive, api.Owned, api.Modified, 5}
	datas := []api.Line{{}, {1}, {0, 0, 0, great}}
	for _, kind := range append(kinds(), 0, 16) {
		for _, state := range states {
			for _, mode := range []int{-1, 0, 1, 2, 3, 4} {
				for _, epoch := range []int{-1, 0, 1, 255, 256} {
					for _, word := range []int{-1, 0, 1, 3, 4} {
						for _, data := range datas {
							m := api.Msg{Kind: kind, Core: 63, State: state, Mode: mode, Epoch: epoch, Word: word, Data: data}
							wantByTheWords(t, m)
							m.Has = true
							wantByTheWords(t, m)
							m.Value = great
							wantByTheWords(t, m)
							m.Has = false
							wantByTheWords(t, m)
						}
					}
				}
			}
		}
	}
}

func wantByTheWords(t *testing.T, m api.Msg) {
	t.Helper()
	if got := msg.Right(m); got != rightByTheWords(m) {
		t.Errorf("Right(%+v) is %v", m, got)
	}
	if none := len(msg.Put(m)) == 0; none == rightByTheWords(m) {
		t.Errorf("Put(%+v) is % x", m, msg.Put(m))
	}
}

// P11.1, P11.2: a right message with any one number past its limits is so no more.
func TestPastLimits(t *testing.T) {
	for _, m := range messages() {
		for i, field := range []struct {
			put  func(m *api.Msg, n int)
			most int
		}{
			{func(m *api.Msg, n int) { m.Core = n }, api.MaxCores - 1},
			{func(m *api.Msg, n int) { m.Line = n }, api.MaxLines - 1},
			{func(m *api.Msg, n int) { m.State = n }, api.Modified},
			{func(m *api.Msg, n int) { m.Mode = n }, api.Migrant},
			{func(m *api.Msg, n int) { m.Epoch = n }, api.MaxEpoch},
			{func(m *api.Msg, n int) { m.Word = n }, api.Words - 1},
		} {
			for _, n := range past(field.most) {
				x := m
				field.put(&x, n)
				wantWrong(t, x)
			}
			x := m
			field.put(&x, field.most)
			if right := rightByTheWords(x); msg.Right(x) != right {
				t.Errorf("field %d: Right(%+v) is not %v", i, x, right)
			}
		}
		for _, kind := range noKinds() {
			x := m
			x.Kind = kind
			wantWrong(t, x)
		}
		x := m
		x.Has = false
		for w := range x.Data {
			x.Data = api.Line{}
			x.Data[w] = 1
			wantWrong(t, x)
			x.Data[w] = great
			wantWrong(t, x)
		}
	}
}

// P11.2: each kind's bytes, written out, at the edges of its fields.
func TestPutBytes(t *testing.T) {
	wantPut(t, api.Msg{Kind: api.QRead}, []byte{0x02, 0x00, 0x00})
	wantPut(t, api.Msg{Kind: api.QWrite, Core: 63, Line: 31}, []byte{0x04, 0x7E, 0x3E})
	wantPut(t, api.Msg{Kind: api.QUpdate}, []byte{0x06, 0x00, 0x00, 0x00, 0x00})
	wantPut(t, api.Msg{Kind: api.QUpdate, Word: 3, Value: great}, []byte{0x06, 0x00, 0x00, 0x06, 0xFE, 0xFF, 0xFF, 0xFF, 0x1F})
	wantPut(t, api.Msg{Kind: api.QEvict, Core: 1, Line: 2}, []byte{0x08, 0x02, 0x04})
	wantPut(t, api.Msg{Kind: api.FShare, Mode: api.Migrant}, []byte{0x0A, 0x00, 0x00, 0x06})
	wantPut(t, api.Msg{Kind: api.FInval, Core: 5}, []byte{0x0C, 0x0A, 0x00})
	wantPut(t, api.Msg{Kind: api.FHold, Line: 5}, []byte{0x0E, 0x00, 0x0A})
	wantPut(t, api.Msg{Kind: api.FUpdate, Word: 1, Value: 64}, []byte{0x10, 0x00, 0x00, 0x02, 0x80, 0x01})
	wantPut(t, api.Msg{Kind: api.FClean, Mode: api.Dragon, Epoch: 7}, []byte{0x12, 0x00, 0x00, 0x0E, 0x04})
	wantPut(t, api.Msg{Kind: api.FClean, Mode: api.Mesi, Epoch: 255}, []byte{0x12, 0x00, 0x00, 0xFE, 0x03, 0x00})
	wantPut(t, api.Msg{Kind: api.FTake}, []byte{0x14, 0x00, 0x00})
	wantPut(t, api.Msg{Kind: api.RAck}, []byte{0x16, 0x00, 0x00, 0x00, 0x00})
	wantPut(t, api.Msg{Kind: api.RAck, State: api.Owned, Has: true, Data: api.Line{1, 2, 3, 4}},
		[]byte{0x16, 0x00, 0x00, 0x06, 0x02, 0x02, 0x04, 0x06, 0x08})
	wantPut(t, api.Msg{Kind: api.RAck, State: api.Modified, Has: true, Data: api.Line{great}},
		[]byte{0x16, 0x00, 0x00, 0x08, 0x02, 0xFE, 0xFF, 0xFF, 0xFF, 0x1F, 0x00, 0x00, 0x00})
	wantPut(t, api.Msg{Kind: api.RFill, Core: 63}, []byte{0x18, 0x7E, 0x00})
	wantPut(t, api.Msg{Kind: api.RData, State: api.Shared, Mode: api.Moesi, Epoch: 5}, []byte{0x1A, 0x00, 0x00, 0x02, 0x0A, 0x02, 0x00})
	wantPut(t, api.Msg{Kind: api.RData, State: api.Modified, Mode: api.Migrant, Epoch: 255, Has: true, Data: api.Line{0, 9, 0, 64}},
		[]byte{0x1A, 0x00, 0x00, 0x06, 0xFE, 0x03, 0x08, 0x02, 0x00, 0x12, 0x00, 0x80, 0x01})
	wantPut(t, api.Msg{Kind: api.RData, State: api.Exclusive, Has: true}, []byte{0x1A, 0x00, 0x00, 0x00, 0x00, 0x04, 0x02, 0x00, 0x00, 0x00, 0x00})
	wantPut(t, api.Msg{Kind: api.RApply, Word: 2, Value: 1}, []byte{0x1C, 0x00, 0x00, 0x04, 0x02})
	wantPut(t, api.Msg{Kind: api.RGone, Core: 2, Line: 31}, []byte{0x1E, 0x04, 0x3E})
}

// P11.2, P11.4: whatever is right is written by the words, and read as it was.
func TestPutMessages(t *testing.T) {
	for _, m := range messages() {
		wantPut(t, m, written(m))
	}
}

// P11.3: every beginning of a message's bytes is too short, at the number that isn't whole.
func TestGetBeginnings(t *testing.T) {
	for _, m := range messages() {
		b := written(m)
		for size := range b {
			at := size
			for at > 0 && b[at-1] >= 128 {
				at--
			}
			wantRefused(t, b[:size], at, api.ErrShort)
		}
	}
	wantRefused(t, nil, 0, api.ErrShort)
	wantRefused(t, []byte{}, 0, api.ErrShort)
}

// P11.3: bytes left over are refused at the first of them.
func TestGetLeftOver(t *testing.T) {
	for _, m := range messages() {
		b := written(m)
		for _, rest := range [][]byte{{0x00}, {0x02}, {0x80}, {0x80, 0x00}, {0xFF, 0xFF}, b} {
			wantRefused(t, append(slices.Clone(b), rest...), len(b), api.ErrTail)
		}
	}
}

// mostOf are the greatest numbers that stand at each place of a kind's message with data.
func mostOf(kind int) []int {
	data := []int{1, great, great, great, great}
	most := []int{15, 63, 31}
	switch kind {
	case api.QUpdate, api.FUpdate, api.RApply:
		return append(most, 3, great)
	case api.FShare:
		return append(most, 3)
	case api.FClean:
		return append(most, 255, 3)
	case api.RAck:
		return append(append(most, 4), data...)
	case api.RData:
		return append(append(most, 3, 255, 4), data...)
	}
	return most
}

// takenByTheWords is P11.3 word by word: are b's numbers as many as are asked for, each within its limits, and of what is right?
func takenByTheWords(b []byte) bool {
	r := pack.Read(b)
	var numbers []int
	for r.At() < len(b) && r.Wrong() == nil {
		numbers = append(numbers, r.Num())
	}
	if r.Wrong() != nil || len(numbers) == 0 || numbers[0] < 1 {
		return false
	}
	most := mostOf(numbers[0])
	if has := len(most) - api.Words - 1; has > 3 && len(numbers) > has && numbers[has] == 0 {
		most = most[:has+1]
	}
	if len(numbers) != len(most) || numbers[0] == api.RData && (numbers[5] == api.Invalid || numbers[5] == api.Owned) {
		return false
	}
	for i, n := range numbers {
		if n < 0 || n > most[i] {
			return false
		}
	}
	return true
}

// P11.3: each number that is past its limits is told at its place.
func TestGetPastLimits(t *testing.T) {
	for _, m := range messages() {
		numbers, most := numbersOf(m), mostOf(m.Kind)
		for i := range numbers {
			at := len(bytesOf(numbers[:i]...))
			for _, n := range past(most[i]) {
				if n >= 0 && n <= most[i] {
					continue // of a word, whose limit is the greater one
				}
				turned := slices.Clone(numbers)
				turned[i] = n
				wantRefused(t, bytesOf(turned...), at, api.ErrForm)
			}
		}
	}
}

// P11.3: of what is no kind nothing more is asked for.
func TestGetNoKinds(t *testing.T) {
	for _, kind := range noKinds() {
		wantRefused(t, bytesOf(kind), 0, api.ErrForm)
		wantRefused(t, bytesOf(kind, 0, 0), 0, api.ErrForm)
		wantRefused(t, bytesOf(kind, 64, 32, 9, 9, 9), 0, api.ErrForm)
	}
}

// P11.3: Has is 0 or 1; its other numbers stand for neither.
func TestGetHas(t *testing.T) {
	for _, has := range append(past(1), 2, 3, 127, 128) {
		for _, words := range [][]int{{}, {1, 2, 3, 4}} {
			ack := append([]int{api.RAck, 1, 2, api.Owned, has}, words...)
			wantRefused(t, bytesOf(ack...), 4, api.ErrForm)
			data := append([]int{api.RData, 1, 2, api.Moesi, 3, api.Shared, has}, words...)
			wantRefused(t, bytesOf(data...), 6, api.ErrForm)
		}
	}
	wantRefused(t, bytesOf(api.RAck, 1, 2, api.Owned, 0, 1, 2, 3, 4), 5, api.ErrTail)
	wantRefused(t, bytesOf(api.RData, 1, 2, 3, 4, api.Shared, 0, 1, 2, 3, 4), 7, api.ErrTail)
	wantRefused(t, bytesOf(api.RAck, 1, 2, api.Owned, 1), 5, api.ErrShort)
	wantRefused(t, bytesOf(api.RAck, 1, 2, api.Owned, 1, 1, 2, 3), 8, api.ErrShort)
}

// P11.3: data in a state that isn't right are refused by Get itself, behind whatever its reader refuses.
func TestGetNotRight(t *testing.T) {
	for _, state := range []int{api.Invalid, api.Owned} {
		for _, ahead := range [][]int{{0, 0, 0, 0}, {63, 31, 3, 255}, {1, 2, 1, 9}} {
			b := bytesOf(append([]int{api.RData}, append(ahead, state)...)...)
			for _, whole := range [][]byte{bytesOf(0), bytesOf(1, 0, 0, 0, 0), bytesOf(1, great, great, great, great)} {
				full := append(slices.Clone(b), whole...)
				wantNotRight(t, full)
				wantRefused(t, append(slices.Clone(full), 0), len(full), api.ErrTail)
				wantRefused(t, full[:len(full)-1], len(full)-lastSize(full), api.ErrShort)
			}
			wantRefused(t, append(slices.Clone(b), bytesOf(2)...), len(b), api.ErrForm)
			wantRefused(t, append(slices.Clone(b), bytesOf(1, 0, 0, 0, -1)...), len(b)+4, api.ErrForm)
		}
	}
}

// lastSize is how many bytes the last number of b has.
func lastSize(b []byte) int {
	size := 1
	for size < len(b) && b[len(b)-size-1] >= 128 {
		size++
	}
	return size
}

// P11.3: of two numbers that are refused the first one is told.
func TestGetTheFirst(t *testing.T) {
	wantRefused(t, bytesOf(0, 64), 0, api.ErrForm)
	wantRefused(t, bytesOf(api.QRead, 64, 32), 1, api.ErrForm)
	wantRefused(t, bytesOf(api.QRead, 63, 32, 0), 2, api.ErrForm)
	wantRefused(t, bytesOf(api.QUpdate, 0, 0, 4, -1), 3, api.ErrForm)
	wantRefused(t, bytesOf(api.FClean, 0, 0, 256, 4), 3, api.ErrForm)
	wantRefused(t, bytesOf(api.FClean, 0, 0, 3, 4), 4, api.ErrForm)
	wantRefused(t, bytesOf(api.FClean, 0, 0, 4, 3, 0), 5, api.ErrTail)
	wantRefused(t, bytesOf(api.RData, 0, 0, 4, 256, 5, 2), 3, api.ErrForm)
	wantRefused(t, bytesOf(api.RData, 0, 0, 3, 256, 5, 2), 4, api.ErrForm)
	wantRefused(t, bytesOf(api.RData, 0, 0, 3, 200, 5, 2), 6, api.ErrForm)
	wantRefused(t, append(bytesOf(api.RAck, 0, 0, 5), 0x80), 3, api.ErrForm)
	wantRefused(t, append(bytesOf(api.RAck, 0, 0, 4), 0x80), 4, api.ErrShort)
	wantRefused(t, append(bytesOf(api.RAck, 0, 0), 0x80, 0x00), 3, api.ErrForm)
}

// P11.3: bytes of no number are not in form, wherever they stand.
func TestGetNotInForm(t *testing.T) {
	tenth := append(bytes.Repeat([]byte{0xFF}, 9), 0x02)
	for _, m := range messages() {
		numbers := numbersOf(m)
		for i := range numbers {
			for _, bad := range [][]byte{{0x80, 0x00}, {0x82, 0x00}, {0x84, 0x80, 0x00}, tenth} {
				b := bytesOf(numbers[:i]...)
				rest := bytesOf(numbers[i+1:]...)
				wantRefused(t, slices.Concat(b, bad, rest), len(b), api.ErrForm)
			}
		}
	}
}

// P11.4: what Get takes, of rows of a few bytes that tell something, is written by Put again as it was.
func TestGetIsPuts(t *testing.T) {
	taken := 0
	for _, b := range shortBytes() {
		if wantGet(t, b) {
			taken++
		}
	}
	if taken < 300 {
		t.Errorf("only %d were taken", taken)
	}
}

// shortBytes are rows of a kind and up to five bytes.
func shortBytes() [][]byte {
	out := [][]byte{nil}
	for kind := range 34 {
		rows := [][]byte{{byte(kind)}}
		for begin := 0; len(rows[begin]) < 6; begin++ {
			for _, c := range []byte{0x00, 0x01, 0x02, 0x06, 0x80} {
				rows = append(rows, append(slices.Clone(rows[begin]), c))
			}
		}
		out = append(out, rows...)
	}
	return out
}

// wantGet asks that Get takes just what the words take, of which Put makes these bytes again, and tells whether it does.
func wantGet(t *testing.T, b []byte) bool {
	t.Helper()
	m, err := msg.Get(b)
	if (err == nil) != takenByTheWords(b) {
		t.Errorf("Get(% x) is %+v, %v", b, m, err)
	}
	if err != nil {
		f, ok := fault.Find(err)
		if m != (api.Msg{}) || !ok || f.Op != "msg.Get" || f.At != 0 || fault.Any(err, api.ErrShort, api.ErrForm, api.ErrTail) < 0 {
			t.Errorf("Get(% x), refused, is %+v, %v", b, m, err)
		}
		return false
	}
	if !msg.Right(m) || !rightByTheWords(m) {
		t.Errorf("Get took % x as %+v, which is not right", b, m)
	}
	if again := msg.Put(m); !bytes.Equal(again, b) {
		t.Errorf("Get took % x as %+v, of which Put makes % x", b, m, again)
	}
	return true
}

// R2: what is handed to Get stays, its spare room too, and is not read there.
func TestHandedInStays(t *testing.T) {
	for _, m := range messages() {
		b := append(written(m), bytes.Repeat([]byte{0xAA}, 9)...)
		was, size := slices.Clone(b), len(written(m))
		if got, err := msg.Get(b[:size]); got != m || err != nil || !bytes.Equal(b, was) {
			t.Errorf("Get of %+v is %+v, %v, and left % x", m, got, err, b)
		}
		if _, err := msg.Get(b[:size-1]); err == nil || !bytes.Equal(b, was) {
			t.Errorf("Get of too few is %v, and left % x", err, b)
		}
		if _, err := msg.Get(b); err == nil || !bytes.Equal(b, was) {
			t.Errorf("Get of too many is %v, and left % x", err, b)
		}
	}
}

// R2: neither side's later changes are seen by the other.
func TestAnswersAreNew(t *testing.T) {
	for _, m := range messages() {
		mine := m
		one, two := msg.Put(mine), msg.Put(mine)
		spoil(one)
		mine.Data, mine.Value = api.Line{7, 7, 7, 7}, 7
		if !bytes.Equal(two, written(m)) || !bytes.Equal(msg.Put(m), written(m)) {
			t.Errorf("Put's answers of %+v share memory", m)
		}
		got, err := msg.Get(two)
		again, _ := msg.Get(two)
		got.Data, got.Value = api.Line{7, 7, 7, 7}, 7
		if err != nil || again != m || !bytes.Equal(two, written(m)) {
			t.Errorf("Get's answers of %+v share memory", m)
		}
		spoil(two)
		if again != m {
			t.Errorf("what Get took of %+v shares memory with its bytes", m)
		}
	}
}

// spoil overwrites bytes and their spare room.
func spoil(b []byte) {
	for i := range b[:cap(b)] {
		b[:cap(b)][i] = 0x55
	}
}

// draw makes a row of numbers that is the same each time.
type draw uint64

func (d *draw) below(n int) int {
	*d = *d*6364136223846793005 + 1442695040888963407
	return int(uint64(*d)>>33) % n
}

// P11.3, P11.4: a byte of a message turned, put in or left out: Get refuses it, or takes what Put writes so.
func TestTurnedBytes(t *testing.T) {
	d := draw(11)
	l := messages()
	taken, refused := 0, 0
	for range 60000 {
		b := written(l[d.below(len(l))])
		i := d.below(len(b))
		switch d.below(3) {
		case 0:
			b[i] = byte(d.below(256))
		case 1:
			b = slices.Insert(b, i, byte(d.below(256)))
		case 2:
			b = slices.Delete(b, i, i+1)
		}
		if wantGet(t, b) {
			taken++
		} else {
			refused++
		}
	}
	if taken < 5000 || refused < 5000 {
		t.Errorf("%d were taken, %d refused", taken, refused)
	}
}

// P11.1 to P11.4: drawn messages, most of them wrong in a field or two, held against the words.
func TestDrawnMessages(t *testing.T) {
	d := draw(111)
	l := messages()
	right, wrong := 0, 0
	for range 60000 {
		m := l[d.below(len(l))]
		for range d.below(3) {
			d.turn(&m)
		}
		if rightByTheWords(m) {
			right++
			wantPut(t, m, written(m))
		} else {
			wrong++
			wantWrong(t, m)
		}
	}
	if right < 10000 || wrong < 10000 {
		t.Errorf("%d right ones, %d wrong", right, wrong)
	}
}

// turn turns a field of a message, often to what can't be.
func (d *draw) turn(m *api.Msg) {
	switch d.below(9) {
	case 0:
		m.Kind = d.below(18) - 1
	case 1:
		m.Core = d.below(70) - 3
	case 2:
		m.Line = d.below(38) - 3
	case 3:
		m.State = d.below(8) - 1
	case 4:
		m.Mode = d.below(6) - 1
	case 5:
		m.Epoch = d.below(270) - 7
	case 6:
		m.Word, m.Value = d.below(6)-1, uint32(d.below(3))
	case 7:
		m.Data[d.below(len(m.Data))] = uint32(d.below(1 << 30))
	case 8:
		m.Has = !m.Has
	}
}
