package packed

import (
	"bytes"
	"encoding/binary"
	"math"
	"math/rand"
	"regexp"
	"slices"
	"strconv"
	"strings"
	"testing"

	"foundry/api"
)

// steps are what is written of point numbers.
func steps(l []int) []int {
	d := slices.Clone(l)
	for i := len(d) - 1; i > 0; i-- {
		d[i] -= d[i-1]
	}
	return d
}

// The runs of points, and of changes, where each number is a letter.
var (
	pointRuns  = regexp.MustCompile("w{1,128}|n{1,128}")
	changeRuns = regexp.MustCompile("0{1,64}|n{1,64}|w{1,64}")
)

// runsOf cuts l by a pattern, in which each number is a letter.
func runsOf(l []int, letter func(int) byte, pattern *regexp.Regexp) [][]int {
	var text []byte
	for _, n := range l {
		text = append(text, letter(n))
	}
	var runs [][]int
	for _, at := range pattern.FindAllIndex(text, -1) {
		runs = append(runs, l[at[0]:at[1]])
	}
	return runs
}

// packedPoints is what the chapter says of the bytes of point numbers.
func packedPoints(l []int) []byte {
	b := []byte{byte(len(l))}
	if len(l) >= 128 {
		b = []byte{byte(128 + len(l)/256), byte(len(l) % 256)}
	}
	letter := func(n int) byte {
		if n > 255 {
			return 'w'
		}
		return 'n'
	}
	for _, run := range runsOf(steps(l), letter, pointRuns) {
		b = append(b, pointRun(run[0] > 255, run...)...)
	}
	return b
}

// pointRun is the bytes of a run of differences.
func pointRun(wide bool, run ...int) []byte {
	b := []byte{byte(len(run) - 1)}
	for _, n := range run {
		if wide {
			b[0] |= 128
			b = append(b, byte(n>>8))
		}
		b = append(b, byte(n))
	}
	return b
}

// packedChanges is what the chapter says of the bytes of changes.
func packedChanges(l []int) []byte {
	letter := func(n int) byte {
		switch {
		case n == 0:
			return '0'
		case n >= -128 && n <= 127:
			return 'n'
		}
		return 'w'
	}
	var b []byte
	for _, run := range runsOf(l, letter, changeRuns) {
		b = append(b, changeRun(letter(run[0]), run...)...)
	}
	return b
}

// changeRun is the bytes of a run of changes: of noughts, if it is '0', narrow, if 'n', wide, if 'w'.
func changeRun(kind byte, run ...int) []byte {
	first := byte(len(run) - 1)
	switch kind {
	case '0':
		return []byte{first + 128}
	case 'n':
		b := []byte{first}
		for _, n := range run {
			b = append(b, byte(n))
		}
		return b
	}
	b := []byte{first + 64}
	for _, n := range run {
		b = binary.BigEndian.AppendUint16(b, uint16(n))
	}
	return b
}

func pointsFormed(l []int) bool {
	return len(l) <= 2000 && slices.IsSorted(l) && len(slices.Compact(slices.Clone(l))) == len(l) && (len(l) == 0 || l[0] >= 0 && l[len(l)-1] <= 65535)
}

func changesFormed(l []int) bool {
	return len(l) <= 2000 && (len(l) == 0 || slices.Min(l) >= -32768 && slices.Max(l) <= 32767)
}

// source gives bytes from the front, and remembers if they didn't suffice.
type source struct {
	rest  []byte
	lacks bool
}

func (s *source) take() int {
	if len(s.rest) == 0 {
		s.lacks = true
		return 0
	}
	n := int(s.rest[0])
	s.rest = s.rest[1:]
	return n
}

// pointsOf is what the chapter says that b begins with.
func pointsOf(b []byte) ([]int, int, bool) {
	s := &source{rest: b}
	count := s.take()
	if count > 127 {
		count = (count-128)*256 + s.take()
	}
	var l []int
	sum := 0
	for len(l) < count && !s.lacks {
		first := s.take()
		if first&127+1 > count-len(l) {
			return nil, 0, false
		}
		for range first&127 + 1 {
			if first > 127 {
				sum += s.take() * 256
			}
			sum += s.take()
			l = append(l, sum)
		}
	}
	if s.lacks || !pointsFormed(l) {
		return nil, 0, false
	}
	return l, len(b) - len(s.rest), true
}

// changesOf is what the chapter says that b begins with, of n changes.
func changesOf(b []byte, n int) ([]int, int, api.Errno) {
	if n < 0 || n > 2000 {
		return nil, 0, api.ErrRange
	}
	s := &source{rest: b}
	var l []int
	for len(l) < n && !s.lacks {
		first := s.take()
		many := first&63 + 1
		if many > n-len(l) || first >= 192 {
			return nil, 0, api.ErrBad
		}
		for range many {
			switch first >> 6 {
			case 0:
				l = append(l, int(int8(s.take())))
			case 1:
				high := s.take()
				l = append(l, int(int16(high<<8|s.take())))
			case 2:
				l = append(l, 0)
			}
		}
	}
	if s.lacks {
		return nil, 0, api.ErrBad
	}
	return l, len(b) - len(s.rest), api.OK
}

// expectPoints fails unless Points answers of l what the chapter says, and what it answers is read as it was.
func expectPoints(t *testing.T, l []int) {
	t.Helper()
	b, e := Points(l)
	if !pointsFormed(l) {
		if e != api.ErrForm || len(b) != 0 {
			t.Fatalf("%.80v aren't point numbers: %.40x, error %d", l, b, e)
		}
		return
	}
	if want := packedPoints(l); e != api.OK || !bytes.Equal(b, want) {
		t.Fatalf("%v: %x, error %d, not %x", l, b, e, want)
	}
	for _, behind := range []string{"", "\x00", "\x05\x00\xff", "\xff\xff\xff\xff\xff"} {
		if got, n, e := ReadPoints([]byte(string(b) + behind)); e != api.OK || n != len(b) || !slices.Equal(got, l) {
			t.Fatalf("%v: read as %v, of %d bytes, error %d", l, got, n, e)
		}
	}
}

// expectChanges fails unless Changes answers of l what the chapter says, and what it answers is read as it was.
func expectChanges(t *testing.T, l []int) {
	t.Helper()
	b, e := Changes(l)
	if !changesFormed(l) {
		if e != api.ErrForm || len(b) != 0 {
			t.Fatalf("%.80v aren't changes: %.40x, error %d", l, b, e)
		}
		return
	}
	if want := packedChanges(l); e != api.OK || !bytes.Equal(b, want) {
		t.Fatalf("%v: %x, error %d, not %x", l, b, e, want)
	}
	for _, behind := range []string{"", "\x00", "\x80\x00\xff", "\xff\xff\xff\xff\xff"} {
		if got, n, e := ReadChanges([]byte(string(b)+behind), len(l)); e != api.OK || n != len(b) || !slices.Equal(got, l) {
			t.Fatalf("%v: read as %v, of %d bytes, error %d", l, got, n, e)
		}
	}
}

// expectReadPoints fails unless ReadPoints answers of b what the chapter says.
func expectReadPoints(t *testing.T, b []byte) {
	t.Helper()
	want, bytesTaken, right := pointsOf(b)
	l, n, e := ReadPoints(b)
	switch {
	case right && (e != api.OK || n != bytesTaken || !slices.Equal(l, want)):
		t.Fatalf("%.80x: %v, of %d bytes, error %d; not %v, of %d", b, l, n, e, want, bytesTaken)
	case !right && (e != api.ErrBad || n != 0 || len(l) != 0):
		t.Fatalf("%.80x: %v, of %d bytes, error %d; not ErrBad", b, l, n, e)
	}
}

// expectReadChanges fails unless ReadChanges answers of b what the chapter says.
func expectReadChanges(t *testing.T, b []byte, n int) {
	t.Helper()
	want, bytesTaken, wrong := changesOf(b, n)
	l, m, e := ReadChanges(b, n)
	if e != wrong || m != bytesTaken || !slices.Equal(l, want) {
		t.Fatalf("%d of %.80x: %v, of %d bytes, error %d; not %v, of %d, error %d", n, b, l, m, e, want, bytesTaken, wrong)
	}
}

func TestOfTheChapter(t *testing.T) {
	if b, e := Points([]int{3, 5, 300}); e != api.OK || !bytes.Equal(b, []byte{3, 1, 3, 2, 128, 1, 39}) {
		t.Error(b, e)
	}
	if l, n, e := ReadPoints([]byte{3, 1, 3, 2, 128, 1, 39}); e != api.OK || n != 7 || !slices.Equal(l, []int{3, 5, 300}) {
		t.Error(l, n, e)
	}
	if b, e := Changes([]int{0, 0, 7, 300}); e != api.OK || !bytes.Equal(b, []byte{129, 0, 7, 64, 1, 44}) {
		t.Error(b, e)
	}
	if l, n, e := ReadChanges([]byte{129, 0, 7, 64, 1, 44}, 4); e != api.OK || n != 6 || !slices.Equal(l, []int{0, 0, 7, 300}) {
		t.Error(l, n, e)
	}
}

func TestNoNumbers(t *testing.T) {
	for _, l := range [][]int{nil, {}} {
		if b, e := Points(l); e != api.OK || !bytes.Equal(b, []byte{0}) {
			t.Error(b, e)
		}
		if b, e := Changes(l); e != api.OK || len(b) != 0 {
			t.Error(b, e)
		}
	}
	for _, c := range []struct {
		bytes string
		n     int
	}{
		{"\x00", 1}, {"\x00\x00", 1}, {"\x00\x05\x06", 1}, {"\x80\x00", 2}, {"\x80\x00\x00\x00", 2},
	} {
		if l, n, e := ReadPoints([]byte(c.bytes)); e != api.OK || n != c.n || len(l) != 0 {
			t.Errorf("%x: %v, %d, error %d", c.bytes, l, n, e)
		}
	}
	for _, b := range []string{"", "\x00", "\x80", "\x40\x01", "\xff"} {
		if l, n, e := ReadChanges([]byte(b), 0); e != api.OK || n != 0 || len(l) != 0 {
			t.Errorf("%x: %v, %d, error %d", b, l, n, e)
		}
	}
	if l, n, e := ReadPoints(nil); e != api.ErrBad || n != 0 || len(l) != 0 {
		t.Error(l, n, e)
	}
}

// rising is n numbers, from first on, each so much above the one ahead.
func rising(first, step, n int) []int {
	var l []int
	for i := range n {
		l = append(l, first+i*step)
	}
	return l
}

func TestPointsAtTheirEdges(t *testing.T) {
	for _, l := range [][]int{
		{0}, {1}, {255}, {256}, {257}, {65535}, {0, 255}, {0, 256}, {1, 256}, {1, 257}, {0, 65535}, {65534, 65535}, {0, 1, 65535},
		{255, 510, 766}, {256, 511, 767, 1023}, {300, 301, 700, 701},
	} {
		expectPoints(t, l)
	}
	for _, n := range []int{1, 2, 126, 127, 128, 129, 130, 254, 255, 256, 257, 258, 383, 384, 385, 1999, 2000, 2001, 5000} {
		expectPoints(t, rising(0, 1, n))
		expectPoints(t, rising(7, 1, n))
		expectPoints(t, rising(300, 1, n))
		expectPoints(t, rising(65536-n, 1, n))
		expectPoints(t, rising(65537-n, 1, n))
		expectPoints(t, rising(0, 255, n))
		expectPoints(t, rising(0, 256, n))
		expectPoints(t, rising(256, 256, n))
	}
	expectPoints(t, rising(0, 0, 2))
	expectPoints(t, append(rising(0, 1, 130), rising(1000, 256, 130)...))
	expectPoints(t, append(rising(0, 1, 128), rising(1000, 256, 128)...))
}

func TestLongCounts(t *testing.T) {
	for n, want := range map[int]string{1: "\x01\x00", 127: "\x7f\x7e", 128: "\x80\x80\x7f", 255: "\x80\xff\x7f", 256: "\x81\x00\x7f", 2000: "\x87\xd0\x7f"} {
		if b, e := Points(rising(0, 1, n)); e != api.OK || !strings.HasPrefix(string(b), want) {
			t.Errorf("%d: %.8x, error %d", n, b, e)
		}
	}
}

func TestWhatIsNoPointNumbers(t *testing.T) {
	for _, l := range [][]int{
		{-1}, {-1, 5}, {65536}, {5, 65536}, {5, 5}, {0, 0}, {5, 4}, {3, 5, 4}, {1, 2, 3, 3}, {9, 0},
		{math.MinInt}, {math.MaxInt}, {math.MinInt, math.MaxInt}, {1, math.MaxInt}, {1, math.MinInt}, {0, -1 << 63, 5}, {1 << 32}, {1, 1<<32 + 5}, {-1 << 32},
		rising(0, 1, 2001), rising(0, 32, 2001), rising(-1, 1, 2000), make([]int, 2001), make([]int, 1<<16),
	} {
		if b, e := Points(l); e != api.ErrForm || len(b) != 0 {
			t.Errorf("%.60v: %x, error %d", l, b, e)
		}
	}
}

// long is n points, or changes, written by hand: n has two bytes, the runs are of one number each.
func long(n int) []byte {
	b := []byte{byte(128 + n>>8), byte(n)}
	for range n {
		b = append(b, 0, 1)
	}
	return b
}

func TestReadPointsOfOtherRuns(t *testing.T) {
	for _, c := range []struct {
		bytes []byte
		want  []int
	}{
		{[]byte{128, 2, 1, 3, 2}, []int{3, 5}},
		{[]byte{2, 0, 3, 0, 2}, []int{3, 5}},
		{[]byte{2, 129, 0, 3, 0, 2}, []int{3, 5}},
		{[]byte{2, 128, 0, 3, 0, 2}, []int{3, 5}},
		{[]byte{2, 0, 3, 128, 0, 2}, []int{3, 5}},
		{[]byte{128, 3, 129, 0, 0, 0, 1, 0, 255}, []int{0, 1, 256}},
		{[]byte{1, 128, 255, 255}, []int{65535}},
		{[]byte{2, 129, 255, 254, 0, 1}, []int{65534, 65535}},
		{long(127), rising(1, 1, 127)}, {long(128), rising(1, 1, 128)}, {long(2000), rising(1, 1, 2000)},
	} {
		for _, behind := range []string{"", "\x00", "zzz\xff"} {
			if l, n, e := ReadPoints([]byte(string(c.bytes) + behind)); e != api.OK || n != len(c.bytes) || !slices.Equal(l, c.want) {
				t.Errorf("%.40x: %v, of %d bytes, error %d", c.bytes, l, n, e)
			}
		}
		expectReadPoints(t, c.bytes)
	}
}

func TestReadPointsOfWhatIsWrong(t *testing.T) {
	for name, b := range map[string][]byte{
		"nothing":                      {},
		"half a count":                 {128},
		"half a count of more":         {135},
		"no run":                       {1},
		"no run of a long count":       {128, 1},
		"no number":                    {1, 0},
		"half a wide number":           {1, 128, 5},
		"no wide number":               {1, 128},
		"one of two":                   {2, 1, 3},
		"one and a half of two":        {2, 129, 0, 3, 0},
		"no second run":                {2, 0, 3},
		"an empty second run":          {2, 0, 3, 0},
		"more than are left":           {1, 1, 3, 1},
		"more than are left, wide":     {1, 129, 0, 3, 0, 1},
		"more than are left, secondly": {3, 1, 3, 1, 1, 2, 2},
		"two alike":                    {2, 1, 3, 0},
		"two alike, of two runs":       {2, 0, 3, 0, 0},
		"two alike, wide":              {2, 129, 0, 3, 0, 0},
		"two noughts":                  {2, 1, 0, 0},
		"beyond 65535":                 {2, 129, 255, 255, 0, 1},
		"beyond 65535, narrow":         {2, 128, 255, 255, 0, 1},
		"far beyond 65535":             {3, 130, 255, 255, 255, 255, 255, 255},
		"2001":                         long(2001),
		"32767":                        long(32767),
		"endless":                      bytes.Repeat([]byte{255}, 1<<20),
	} {
		if l, n, e := ReadPoints(b); e != api.ErrBad || n != 0 || len(l) != 0 {
			t.Errorf("%s: %v, of %d bytes, error %d", name, l, n, e)
		}
		expectReadPoints(t, b)
	}
}

// fill is n times x.
func fill(x, n int) []int {
	return slices.Repeat([]int{x}, n)
}

func TestChangesAtTheirEdges(t *testing.T) {
	edges := []int{-32768, -32767, -257, -256, -255, -130, -129, -128, -127, -2, -1, 0, 1, 2, 126, 127, 128, 129, 254, 255, 256, 257, 32766, 32767}
	for _, a := range edges {
		expectChanges(t, []int{a})
		for _, b := range edges {
			expectChanges(t, []int{a, b})
			expectChanges(t, []int{a, a, b, a})
		}
		for _, n := range []int{62, 63, 64, 65, 66, 127, 128, 129, 192, 1999, 2000, 2001, 4000} {
			expectChanges(t, fill(a, n))
			expectChanges(t, slices.Concat(fill(a, n), fill(5, 65), fill(0, 65), fill(500, 65)))
		}
	}
	expectChanges(t, edges)
}

func TestRunsOfChanges(t *testing.T) {
	for _, c := range []struct {
		l    []int
		want []byte
	}{
		{[]int{0}, []byte{128}},
		{fill(0, 64), []byte{191}},
		{fill(0, 65), []byte{191, 128}},
		{[]int{127, -128}, []byte{1, 127, 128}},
		{[]int{128, -129}, []byte{65, 0, 128, 255, 127}},
		{[]int{5, 0, 6}, []byte{0, 5, 128, 0, 6}},
		{[]int{500, 6, 700}, []byte{64, 1, 244, 0, 6, 64, 2, 188}},
		{[]int{32767, -32768}, []byte{65, 127, 255, 128, 0}},
	} {
		if b, e := Changes(c.l); e != api.OK || !bytes.Equal(b, c.want) {
			t.Errorf("%v: %v, error %d", c.l, b, e)
		}
	}
	for n, want := range map[int]int{1: 2, 64: 65, 65: 67, 128: 130, 2000: 2032} {
		if b, e := Changes(fill(-1, n)); e != api.OK || len(b) != want {
			t.Errorf("%d: %d bytes, error %d", n, len(b), e)
		}
	}
}

func TestWhatIsNoChanges(t *testing.T) {
	for _, l := range [][]int{
		{-32769}, {32768}, {5, 32768}, {0, 0, -32769, 0}, {65535}, {65536}, {-65536}, {1 << 32}, {-1 << 32, 5}, {math.MinInt}, {math.MaxInt},
		make([]int, 2001), fill(7, 2001), make([]int, 1<<16), append(fill(7, 1999), 32768),
	} {
		if b, e := Changes(l); e != api.ErrForm || len(b) != 0 {
			t.Errorf("%.60v: %x, error %d", l, b, e)
		}
	}
}

func TestReadChangesOfOtherRuns(t *testing.T) {
	for _, c := range []struct {
		bytes []byte
		want  []int
	}{
		{[]byte{1, 255, 127, 128}, []int{-1, 127, 0}},
		{[]byte{2, 255, 0, 128}, []int{-1, 0, -128}},
		{[]byte{66, 255, 255, 0, 0, 0, 5}, []int{-1, 0, 5}},
		{[]byte{128, 128, 128}, []int{0, 0, 0}},
		{[]byte{0, 1, 0, 2}, []int{1, 2}},
		{[]byte{64, 128, 0, 64, 127, 255}, []int{-32768, 32767}},
		{bytes.Repeat([]byte{191}, 2), make([]int, 128)},
		{long(1999)[2:], fill(1, 1999)}, {long(2000)[2:], fill(1, 2000)},
	} {
		for _, behind := range []string{"", "\x00", "\xc0", "zzz\xff"} {
			if l, n, e := ReadChanges([]byte(string(c.bytes)+behind), len(c.want)); e != api.OK || n != len(c.bytes) || !slices.Equal(l, c.want) {
				t.Errorf("%.40x: %v, of %d bytes, error %d", c.bytes, l, n, e)
			}
		}
	}
}

func TestReadChangesOfWhatIsWrong(t *testing.T) {
	for name, c := range map[string]struct {
		bytes []byte
		n     int
		e     api.Errno
	}{
		"nothing":                       {nil, 1, api.ErrBad},
		"no number":                     {[]byte{0}, 1, api.ErrBad},
		"no wide number":                {[]byte{64}, 1, api.ErrBad},
		"half a wide number":            {[]byte{64, 1}, 1, api.ErrBad},
		"one of two":                    {[]byte{1, 5}, 2, api.ErrBad},
		"no second run":                 {[]byte{0, 5}, 2, api.ErrBad},
		"no second run behind a nought": {[]byte{128}, 2, api.ErrBad},
		"more than are left":            {[]byte{1, 5, 6}, 1, api.ErrBad},
		"more than are left, wide":      {[]byte{65, 5, 6, 7, 8}, 1, api.ErrBad},
		"more than are left, noughts":   {[]byte{129}, 1, api.ErrBad},
		"more than are left, secondly":  {[]byte{0, 5, 129}, 2, api.ErrBad},
		"both bits":                     {[]byte{192}, 1, api.ErrBad},
		"both bits, and bytes":          {[]byte{192, 0, 0, 0, 0}, 1, api.ErrBad},
		"both bits, secondly":           {[]byte{128, 192, 0, 0}, 2, api.ErrBad},
		"both bits, of many":            {bytes.Repeat([]byte{255}, 1<<16), 2000, api.ErrBad},
		"-1":                            {[]byte{128}, -1, api.ErrRange},
		"2001":                          {nil, 2001, api.ErrRange},
		"2001 that are there":           {long(2001)[2:], 2001, api.ErrRange},
		"2001 of both bits":             {[]byte{192}, 2001, api.ErrRange},
		"least":                         {[]byte{128}, math.MinInt, api.ErrRange},
		"most":                          {[]byte{128}, math.MaxInt, api.ErrRange},
	} {
		if l, m, e := ReadChanges(c.bytes, c.n); e != c.e || m != 0 || len(l) != 0 {
			t.Errorf("%s: %v, of %d bytes, error %d", name, l, m, e)
		}
	}
}

// drawnPoints is point numbers, near and far from one another.
func drawnPoints(r *rand.Rand) []int {
	var l []int
	near := 1 + r.Intn(500)
	if r.Intn(3) == 0 {
		near = 256 + r.Intn(100)
	}
	for n := r.Intn(1 + near); n <= 65535 && len(l) < 2000; n += 1 + r.Intn(near) {
		l = append(l, n)
		if r.Intn(50) == 0 {
			near = 1 + r.Intn(500)
		}
	}
	return l[:r.Intn(len(l)+1)]
}

// drawnChanges is changes in runs of many lengths.
func drawnChanges(r *rand.Rand) []int {
	var l []int
	many := r.Intn(1 << r.Intn(12))
	for len(l) < min(many, 2000) {
		for range 1 + r.Intn(1<<r.Intn(8)) {
			l = append(l, []int{0, r.Intn(256) - 128, r.Intn(65536) - 32768, 0}[r.Intn(4)>>r.Intn(2)])
		}
		l = append(l, fill(r.Intn(600)-300, r.Intn(70))...)
	}
	return l[:min(many, len(l), 2000)]
}

func TestThereAndBack(t *testing.T) {
	r := rand.New(rand.NewSource(1))
	longest := 0
	for range 2000 {
		points, changes := drawnPoints(r), drawnChanges(r)
		if !pointsFormed(points) || !changesFormed(changes) {
			t.Fatal(points, changes)
		}
		longest = max(longest, min(len(points), len(changes)))
		expectPoints(t, points)
		expectChanges(t, changes)
	}
	if longest < 500 {
		t.Error("too short lists:", longest)
	}
}

func TestDrawnListsThatAreWrong(t *testing.T) {
	r := rand.New(rand.NewSource(2))
	for range 2000 {
		points, changes := drawnPoints(r), drawnChanges(r)
		for range r.Intn(3) {
			if len(points) > 0 {
				points[r.Intn(len(points))] += r.Intn(7) - 3
			}
			if len(changes) > 0 {
				changes[r.Intn(len(changes))] *= r.Intn(5) - 2
			}
		}
		expectPoints(t, points)
		expectChanges(t, changes)
	}
}

// TestShortBytes: of what is packed no byte is spare.
func TestShortBytes(t *testing.T) {
	r := rand.New(rand.NewSource(3))
	for range 60 {
		points, changes := drawnPoints(r), drawnChanges(r)
		b := packedPoints(points)
		for n := range min(len(b), 300) {
			expectReadPoints(t, b[:n])
			expectReadPoints(t, b[:len(b)-1-n])
			if _, _, e := ReadPoints(b[:n]); e != api.ErrBad {
				t.Fatalf("%d of %d bytes: error %d", n, len(b), e)
			}
		}
		b = packedChanges(changes)
		for n := range min(len(b), 300) {
			expectReadChanges(t, b[:n], len(changes))
			expectReadChanges(t, b[:len(b)-1-n], len(changes))
			if _, _, e := ReadChanges(b[:n], len(changes)); e != api.ErrBad {
				t.Fatalf("%d of %d bytes: error %d", n, len(b), e)
			}
		}
	}
}

func TestFewBytes(t *testing.T) {
	for first := range 256 {
		for second := range 256 {
			for _, b := range [][]byte{{byte(first)}, {byte(first), byte(second)}, {1, byte(first), byte(second), 1, 1}, {2, byte(first), byte(second), 0, 1, 1}} {
				expectReadPoints(t, b)
				for n := range 4 {
					expectReadChanges(t, b, n)
				}
			}
		}
	}
}

func TestDrawnBytes(t *testing.T) {
	r := rand.New(rand.NewSource(4))
	points, changes := 0, 0
	for range 5000 {
		l := drawnPoints(r)
		b := packedPoints(l[:min(len(l), r.Intn(300))])
		for range r.Intn(4) {
			b[r.Intn(len(b))] = byte(r.Intn(256))
		}
		expectReadPoints(t, b)
		if _, _, right := pointsOf(b); right {
			points++
		}
	}
	for range 5000 {
		l := drawnChanges(r)
		b, n := packedChanges(l), len(l)
		for range r.Intn(4) {
			if len(b) > 0 {
				b[r.Intn(len(b))] = byte(r.Intn(256))
			}
		}
		if r.Intn(4) == 0 {
			n += r.Intn(9) - 4
		}
		expectReadChanges(t, b, n)
		if _, _, e := changesOf(b, n); e == api.OK {
			changes++
		}
	}
	if points < 1000 || points > 4000 || changes < 1000 || changes > 4000 {
		t.Error("too few right ones, or wrong ones:", points, changes)
	}
}

func TestDrawnRuns(t *testing.T) {
	r := rand.New(rand.NewSource(5))
	for i := range 3000 {
		var points, changes []byte
		var sum, n int
		var l, m []int
		for range r.Intn(40) {
			var run []int
			wide := r.Intn(2) == 0
			for range 1 + r.Intn(1<<r.Intn(8)) {
				run = append(run, 1+r.Intn(40))
				sum += run[len(run)-1]
				l = append(l, sum)
			}
			points = append(points, pointRun(wide, run...)...)
			kind := "0nw"[r.Intn(3)]
			run = run[:min(len(run), 64)]
			if kind == '0' {
				clear(run)
			}
			changes = append(changes, changeRun(kind, run...)...)
			m = append(m, run...)
			n += len(run)
		}
		count := []byte{byte(128 + len(l)>>8), byte(len(l))}
		if len(l) < 128 && i%2 == 0 {
			count = count[1:]
		}
		points = append(count, points...)
		expectReadPoints(t, points)
		expectReadPoints(t, append(points, 1, 2, 3))
		expectReadChanges(t, changes, n)
		expectReadChanges(t, append(changes, 1, 2, 3), n)
		if got, at, e := ReadPoints(points); len(l) <= 2000 && sum <= 65535 && (e != api.OK || at != len(points) || !slices.Equal(got, l)) {
			t.Fatal(strconv.Itoa(i), got, at, e)
		}
		if got, at, e := ReadChanges(changes, n); n <= 2000 && (e != api.OK || at != len(changes) || !slices.Equal(got, m)) {
			t.Fatal(strconv.Itoa(i), got, at, e)
		}
	}
}

// roomy answers a copy of l that has more room, filled with x.
func roomy[T any](l []T, x T) []T {
	return append(slices.Clone(l), x, x, x)[:len(l)]
}

func TestArgumentsAreLeft(t *testing.T) {
	points, changes := []int{3, 5, 300, 301, 900}, []int{0, 0, 7, 300, -5}
	l, m := roomy(points, 77), roomy(changes, 77)
	b, c := roomy(packedPoints(points), 77), roomy(packedChanges(changes), 77)
	Points(l)
	Changes(m)
	ReadPoints(b)
	ReadPoints(b[:3])
	ReadChanges(c, 5)
	ReadChanges(c, 6)
	if !slices.Equal(l[:8], append(points, 77, 77, 77)) || !slices.Equal(m[:8], append(changes, 77, 77, 77)) {
		t.Error(l[:8], m[:8])
	}
	if !bytes.Equal(b[:len(b)+3], append(packedPoints(points[:5]), 77, 77, 77)) || !bytes.Equal(c[:len(c)+3], append(packedChanges(changes[:5]), 77, 77, 77)) {
		t.Error(b[:len(b)+3], c[:len(c)+3])
	}
}

// TestRoomIsNotRead: bytes behind the end of a list aren't its own.
func TestRoomIsNotRead(t *testing.T) {
	b := packedPoints([]int{3, 5, 300})
	for n := range b {
		if _, _, e := ReadPoints(b[:n]); e != api.ErrBad {
			t.Error(n, e)
		}
	}
}

// scribble fills a list, and the room behind it, with x.
func scribble[T any](l []T, x T) {
	for i := range l[:cap(l)] {
		l[:cap(l)][i] = x
	}
}

func TestAnswersAreNew(t *testing.T) {
	points, changes := []int{3, 5, 300}, []int{0, 7, 300}
	b, _ := Points(points)
	c, _ := Changes(changes)
	l, _, _ := ReadPoints(b)
	m, _, _ := ReadChanges(c, 3)
	scribble(b, 1)
	scribble(c, 1)
	if !slices.Equal(l, []int{3, 5, 300}) || !slices.Equal(m, []int{0, 7, 300}) {
		t.Error(l, m)
	}
	scribble(l, 1)
	scribble(m, 1)
	if !slices.Equal(points, []int{3, 5, 300}) || !slices.Equal(changes, []int{0, 7, 300}) {
		t.Error(points, changes)
	}
	expectPoints(t, points)
	expectChanges(t, changes)
}
