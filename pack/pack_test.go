package pack_test

import (
	"bytes"
	"errors"
	"math"
	"math/big"
	"testing"

	"assent/api"
	"assent/fault"
	"assent/pack"
)

// written is a number's bytes by the chapter's words, in numbers without a bound.
func written(n int) []byte {
	twice := new(big.Int).Mul(big.NewInt(int64(n)), big.NewInt(2))
	if n < 0 {
		twice.Neg(twice).Sub(twice, big.NewInt(1))
	}
	var out []byte
	for {
		rest := new(big.Int)
		twice.DivMod(twice, big.NewInt(128), rest)
		if twice.Sign() == 0 {
			return append(out, byte(rest.Int64()))
		}
		out = append(out, byte(rest.Int64())+128)
	}
}

// edges are the numbers about each power of two, of both signs.
func edges() []int {
	out := []int{0, math.MaxInt, math.MaxInt - 1, math.MinInt, math.MinInt + 1}
	for bit := range 63 {
		for d := -2; d <= 2; d++ {
			out = append(out, 1<<bit+d, -(1<<bit)+d)
		}
	}
	return out
}

// full is nine bytes that have a next one, and the given ones behind them.
func full(c byte, last ...byte) []byte {
	return append(bytes.Repeat([]byte{c}, 9), last...)
}

// wantWrong asks that a reader stands at a place with that error, wrapped once, and stays so.
func wantWrong(t *testing.T, what any, r *pack.Reader, root error, at int) {
	t.Helper()
	want := api.Fault{Op: "pack.Read", At: at, Err: root}
	for range 2 {
		if f, ok := fault.Find(r.Wrong()); !ok || f != want || fault.Depth(r.Wrong()) != 2 {
			t.Errorf("%v: Wrong is %#v, not %v at %d", what, r.Wrong(), root, at)
		}
		if r.At() != at {
			t.Errorf("%v: the place is %d, not %d", what, r.At(), at)
		}
		if n := r.Num(); n != 0 {
			t.Errorf("%v: Num behind the error is %d", what, n)
		}
		if n := r.In(math.MinInt, math.MaxInt); n != 0 {
			t.Errorf("%v: In behind the error is %d", what, n)
		}
		if n := r.In(7, 3); n != 0 {
			t.Errorf("%v: In of nothing behind the error is %d", what, n)
		}
		if err := r.End(); err != r.Wrong() {
			t.Errorf("%v: End behind the error is %#v", what, err)
		}
	}
	for _, other := range []error{api.ErrArg, api.ErrLong, api.ErrShort, api.ErrForm, api.ErrTail,
		api.ErrFull, api.ErrBusy, api.ErrNone, api.ErrOrder, api.ErrValue} {
		if errors.Is(r.Wrong(), other) != (other == root) {
			t.Errorf("%v: %v is found, or is not", what, other)
		}
	}
}

// wantWhole asks that a reader has no error and stands at the end.
func wantWhole(t *testing.T, what any, r *pack.Reader, size int) {
	t.Helper()
	if r.Wrong() != nil || r.At() != size || r.End() != nil || r.Wrong() != nil || r.At() != size {
		t.Errorf("%v: %v at %d, End %v", what, r.Wrong(), r.At(), r.End())
	}
}

// The chapter's table.
func TestRuns(t *testing.T) {
	if b := pack.Num(nil, -1); !bytes.Equal(b, []byte{0x01}) {
		t.Errorf("-1 is % x", b)
	}
	if b := pack.Num(nil, 64); !bytes.Equal(b, []byte{0x80, 0x01}) {
		t.Errorf("64 is % x", b)
	}
	r := pack.Read([]byte{0x02, 0x80})
	if r.Num() != 1 || r.Num() != 0 {
		t.Error("Num twice")
	}
	wantWrong(t, "Num twice", r, api.ErrShort, 1)
	r = pack.Read([]byte{0x0A})
	if n := r.In(0, 4); n != 0 {
		t.Errorf("In(0, 4) is %d", n)
	}
	wantWrong(t, "In(0, 4)", r, api.ErrForm, 0)
	r = pack.Read([]byte{0x02})
	if r.End() == nil {
		t.Error("End ahead of a byte is nil")
	}
	wantWrong(t, "End", r, api.ErrTail, 0)
}

// P3.1: the bytes of numbers at the edges, written out.
func TestNumBytes(t *testing.T) {
	for _, c := range []struct {
		n    int
		want []byte
	}{
		{0, []byte{0x00}},
		{-1, []byte{0x01}},
		{1, []byte{0x02}},
		{-2, []byte{0x03}},
		{63, []byte{0x7E}},
		{-64, []byte{0x7F}},
		{64, []byte{0x80, 0x01}},
		{-65, []byte{0x81, 0x01}},
		{8191, []byte{0xFE, 0x7F}},
		{-8192, []byte{0xFF, 0x7F}},
		{8192, []byte{0x80, 0x80, 0x01}},
		{1<<62 - 1, append([]byte{0xFE}, full(0xFF, 0x7F)[2:]...)},
		{math.MaxInt, append([]byte{0xFE}, full(0xFF, 0x01)[1:]...)},
		{math.MinInt, full(0xFF, 0x01)},
		{1 << 62, full(0x80, 0x01)},
	} {
		if b := pack.Num(nil, c.n); !bytes.Equal(b, c.want) {
			t.Errorf("%d is % x, not % x", c.n, b, c.want)
		}
	}
}

// P3.1: every number about a power of two has the bytes that the chapter's words say.
func TestNumByTheWords(t *testing.T) {
	for _, n := range edges() {
		if b := pack.Num(nil, n); !bytes.Equal(b, written(n)) {
			t.Errorf("%d is % x, not % x", n, b, written(n))
		}
		if b := pack.Num([]byte{9, 0, 255}, n); !bytes.Equal(b, append([]byte{9, 0, 255}, written(n)...)) {
			t.Errorf("%d behind others is % x", n, b)
		}
	}
}

// P3.1, R4: nil and empty lists mean the same.
func TestNumOfNothing(t *testing.T) {
	for _, n := range edges() {
		if !bytes.Equal(pack.Num(nil, n), pack.Num([]byte{}, n)) {
			t.Error(n)
		}
	}
}

// P3.1, R2: what is handed in stays, its spare room too, and the answer is new memory.
func TestNumIsNew(t *testing.T) {
	for _, size := range []int{0, 1, 2, 5} {
		room := bytes.Repeat([]byte{0xAA}, 40)
		for _, n := range edges() {
			one, two := pack.Num(room[:size], n), pack.Num(room[:size], ^n)
			if !bytes.Equal(one[size:], written(n)) || !bytes.Equal(two[size:], written(^n)) {
				t.Fatalf("%d and %d share: % x, % x", n, ^n, one, two)
			}
			for i := range one[:cap(one)] {
				one[:cap(one)][i] = 0x55
			}
			if !bytes.Equal(two[size:], written(^n)) || !bytes.Equal(room, bytes.Repeat([]byte{0xAA}, 40)) {
				t.Fatalf("%d, %d: the answer is not its own", size, n)
			}
		}
	}
}

// P3.2: a new reader stands at 0 without an error, of no bytes too.
func TestReadBegins(t *testing.T) {
	for _, b := range [][]byte{nil, {}, {2}, {128, 0}, full(255, 2)} {
		if r := pack.Read(b); r.At() != 0 || r.Wrong() != nil {
			t.Errorf("% x: %v at %d", b, r.Wrong(), r.At())
		}
	}
	wantWhole(t, "nil", pack.Read(nil), 0)
	wantWhole(t, "empty", pack.Read([]byte{}), 0)
}

// P3.2, R2: a reader keeps and changes nothing of what was handed in, and reads no spare room.
func TestReadIsItsOwn(t *testing.T) {
	b := []byte{0x02, 0x80, 0x01, 0x06, 0x08}
	r, other := pack.Read(b[:4]), pack.Read(b[:4])
	for range 3 {
		other.Num()
	}
	wantWhole(t, "other", other, 4)
	if r.At() != 0 {
		t.Error("two readers of the same bytes move together")
	}
	if r.End() == nil || !bytes.Equal(b, []byte{0x02, 0x80, 0x01, 0x06, 0x08}) {
		t.Errorf("what was handed in is % x", b)
	}
	r = pack.Read(b[:4])
	copy(b, []byte{0x80, 0x00, 0x00, 0x80, 0x00})
	if r.Num() != 1 || r.Num() != 64 || r.Num() != 3 {
		t.Error("a turned byte is read")
	}
	wantWhole(t, "turned", r, 4)
	if n := r.Num(); n != 0 {
		t.Errorf("the spare room is read as %d", n)
	}
	wantWrong(t, "behind the end", r, api.ErrShort, 4)
	r = pack.Read([]byte{0x80, 0x01}[:1])
	if n := r.Num(); n != 0 {
		t.Errorf("the spare room ends a number: %d", n)
	}
	wantWrong(t, "spare", r, api.ErrShort, 0)
}

// refused are bytes that begin with no number.
func refused() map[string]error {
	out := map[string]error{
		"":                       api.ErrShort,
		"\x80":                   api.ErrShort,
		"\xFF":                   api.ErrShort,
		"\x80\x80":               api.ErrShort,
		string(full(0xFF)):       api.ErrShort,
		string(full(0x80)):       api.ErrShort,
		"\x80\x00":               api.ErrForm,
		"\xFF\x00":               api.ErrForm,
		"\x80\x00\x01":           api.ErrForm,
		"\x81\x80\x00":           api.ErrForm,
		string(full(0xFF, 0x00)): api.ErrForm,
		string(full(0x80, 0x00)): api.ErrForm,
		string(full(0x80, 0x02)): api.ErrForm,
		string(full(0xFF, 0x02)): api.ErrForm,
		string(full(0xFF, 0x03)): api.ErrForm,
		string(full(0xFF, 0x7F)): api.ErrForm,
	}
	// The tenth is asked as it comes, ahead of whether another one stands behind it.
	out[string(full(0x80, 0x80))] = api.ErrForm
	out[string(full(0x80, 0x81))] = api.ErrForm
	out[string(full(0xFF, 0xFF))] = api.ErrForm
	out[string(full(0xFF, 0x81, 0x01))] = api.ErrForm
	out[string(full(0xFF, 0xFF, 0x00))] = api.ErrForm
	return out
}

// P3.2, P3.3: bytes of no number are refused, at the beginning and behind numbers.
func TestNumRefuses(t *testing.T) {
	for b, root := range refused() {
		for ahead := range 4 {
			r := pack.Read(append([]byte{0x02, 0x04, 0x06}[:ahead:ahead], b...))
			for i := range ahead {
				if n := r.Num(); n != i+1 {
					t.Errorf("%x: number %d is %d", b, i, n)
				}
			}
			if n := r.Num(); n != 0 {
				t.Errorf("%x is %d", b, n)
			}
			wantWrong(t, []byte(b), r, root, ahead)
		}
	}
}

// P3.3: In has Num's error, whatever its ends are.
func TestInHasNumsError(t *testing.T) {
	for b, root := range refused() {
		for _, ends := range [][2]int{{math.MinInt, math.MaxInt}, {0, 0}, {3, -3}, {1, 9}} {
			r := pack.Read([]byte("\x7F" + b))
			if r.Num() != -64 || r.In(ends[0], ends[1]) != 0 {
				t.Errorf("%x: In(%d, %d)", b, ends[0], ends[1])
			}
			wantWrong(t, []byte(b), r, root, 1)
		}
	}
}

// P3.3: the longest numbers, whose tenth byte is 1, and a byte 0 that is the first.
func TestNumTakes(t *testing.T) {
	r := pack.Read(append(full(0xFF, 0x01), append(full(0x80, 0x01), 0x00, 0x00, 0x80, 0x80, 0x01)...))
	for i, c := range []struct{ n, at int }{{math.MinInt, 10}, {1 << 62, 20}, {0, 21}, {0, 22}, {8192, 25}} {
		if n := r.Num(); n != c.n || r.At() != c.at || r.Wrong() != nil {
			t.Errorf("%d: %d at %d, %v", i, n, r.At(), r.Wrong())
		}
	}
	wantWhole(t, "longest", r, 25)
}

// P3.3: In takes lo and hi, and refuses one below and one past them.
func TestIn(t *testing.T) {
	for _, n := range edges() {
		b := pack.Num([]byte{0x02}, n)
		for _, c := range []struct {
			lo, hi int
			right  bool
		}{
			{n, n, true},
			{math.MinInt, n, true},
			{n, math.MaxInt, true},
			{math.MinInt, math.MaxInt, true},
			{n + 1, math.MaxInt, n == math.MaxInt},
			{math.MinInt, n - 1, n == math.MinInt},
			{n, n - 1, n == math.MinInt},
			{n + 1, n, n == math.MaxInt},
			{math.MaxInt, math.MinInt, false},
		} {
			r := pack.Read(b)
			r.Num()
			got := r.In(c.lo, c.hi)
			if !c.right {
				if got != 0 {
					t.Errorf("In(%d, %d) of %d is %d", c.lo, c.hi, n, got)
				}
				wantWrong(t, c, r, api.ErrForm, 1)
				continue
			}
			if got != n {
				t.Errorf("In(%d, %d) of %d is %d", c.lo, c.hi, n, got)
			}
			wantWhole(t, c, r, len(b))
		}
	}
}

// P3.3: lo above hi lets no number through, not even those between them.
func TestInOfNoNumber(t *testing.T) {
	for n := -70; n <= 70; n++ {
		r := pack.Read(pack.Num(nil, n))
		if r.In(5, -5) != 0 {
			t.Error(n)
		}
		wantWrong(t, n, r, api.ErrForm, 0)
	}
}

// P3.4: bytes left over are an error, where the reader stands, and it stays.
func TestEndRefuses(t *testing.T) {
	for _, tail := range [][]byte{{0x02}, {0x00}, {0x80}, {0x80, 0x00}, full(0xFF, 0x02), {0x02, 0x04}} {
		for ahead := range 3 {
			r := pack.Read(append([]byte{0x80, 0x01, 0x81, 0x01}[:2*ahead:2*ahead], tail...))
			for range ahead {
				r.Num()
			}
			if r.Wrong() != nil {
				t.Errorf("% x: %v ahead of End", tail, r.Wrong())
			}
			if err := r.End(); err == nil || err != r.Wrong() {
				t.Errorf("% x: End is %v, Wrong %v", tail, err, r.Wrong())
			}
			wantWrong(t, tail, r, api.ErrTail, 2*ahead)
		}
	}
}

// P3.4: End of what is read whole is no error, however often; a number is then missed there.
func TestEndOfTheWhole(t *testing.T) {
	r := pack.Read([]byte{0x02, 0x7F})
	if r.Num() != 1 || r.In(-64, -64) != -64 {
		t.Error("the numbers")
	}
	wantWhole(t, "once", r, 2)
	wantWhole(t, "twice", r, 2)
	if r.In(0, 9) != 0 {
		t.Error("a number behind the end")
	}
	wantWrong(t, "behind the end", r, api.ErrShort, 2)
}

// P3.2, P3.4: of several errors the first one is told, by End too.
func TestFirstErrorStays(t *testing.T) {
	for what, c := range map[string]struct {
		b    []byte
		call func(r *pack.Reader)
		root error
		at   int
	}{
		"form, then tail":  {[]byte{0x02, 0x0A, 0x02}, func(r *pack.Reader) { r.Num(); r.In(6, 9); r.End() }, api.ErrForm, 1},
		"short, then form": {[]byte{0x02, 0x80}, func(r *pack.Reader) { r.Num(); r.Num(); r.In(1, 0) }, api.ErrShort, 1},
		"tail, then form":  {[]byte{0x02, 0x80, 0x00}, func(r *pack.Reader) { r.Num(); r.End(); r.Num() }, api.ErrTail, 1},
		"tail, then right": {[]byte{0x02, 0x04}, func(r *pack.Reader) { r.End(); r.Num(); r.Num() }, api.ErrTail, 0},
		"form, then right": {[]byte{0x0A, 0x02}, func(r *pack.Reader) { r.In(0, 4); r.In(5, 5); r.Num() }, api.ErrForm, 0},
	} {
		r := pack.Read(c.b)
		c.call(r)
		wantWrong(t, what, r, c.root, c.at)
	}
}

// P3.5: what is written is read as it was, and cut anywhere it is read up to the cut.
func TestWrittenIsRead(t *testing.T) {
	var b []byte
	var begins []int
	for _, n := range edges() {
		begins = append(begins, len(b))
		b = pack.Num(b, n)
	}
	r := pack.Read(b)
	for i, n := range edges() {
		if r.At() != begins[i] {
			t.Errorf("%d begins at %d, not %d", n, r.At(), begins[i])
		}
		if got := r.Num(); got != n {
			t.Errorf("%d is read as %d", n, got)
		}
	}
	wantWhole(t, "all", r, len(b))
	for _, n := range edges() {
		one := pack.Num(nil, n)
		for size := range one {
			r := pack.Read(one[:size])
			if r.Num() != 0 {
				t.Errorf("%d cut at %d", n, size)
			}
			wantWrong(t, n, r, api.ErrShort, 0)
		}
	}
}

// wantSame asks that bytes, if they are one number and no more, are that number's.
func wantSame(t *testing.T, b []byte) bool {
	t.Helper()
	r := pack.Read(b)
	n := r.Num()
	if r.End() != nil {
		return false
	}
	if !bytes.Equal(pack.Num(nil, n), b) || r.At() != len(b) {
		t.Errorf("% x is taken as %d", b, n)
	}
	return true
}

// P3.5: of all rows of one and two bytes, just those that Num writes are taken whole.
func TestShortRows(t *testing.T) {
	ones, twos := 0, 0
	for x := range 256 {
		if wantSame(t, []byte{byte(x)}) {
			ones++
		}
		for y := range 256 {
			if wantSame(t, []byte{byte(x), byte(y)}) {
				twos++
			}
		}
	}
	if ones != 128 || twos != 128*127 {
		t.Errorf("%d and %d rows are taken whole", ones, twos)
	}
}

// P3.5: rows of bytes about the edges, of each length to eleven.
func TestLongRows(t *testing.T) {
	edge := []byte{0, 1, 2, 127, 128, 129, 255}
	for size := range 10 {
		for _, fill := range []byte{0x80, 0x81, 0xFF} {
			for _, x := range edge {
				for _, y := range edge {
					b := append(bytes.Repeat([]byte{fill}, size), x, y)
					last := x >= 128 && y < 128 && y > 0 && (size != 8 || y == 1) && size < 9
					if wantSame(t, b) != last {
						t.Errorf("% x is taken whole, or is not", b)
					}
				}
			}
		}
	}
}
