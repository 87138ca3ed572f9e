package record

import (
	"bytes"
	"encoding/hex"
	"math"
	"slices"
	"testing"

	"undercroft/api"
)

// P3.1: Encode.

func TestEncodeExamples(t *testing.T) {
	for _, c := range []struct{ n, r, blocks int }{{1, 0, 3}, {0, 1, 2}, {58, 0, 60}, {0, 58, 2}} {
		if b := encoded(t, txn(7, c.n, c.r)); len(b) != 256*c.blocks {
			t.Errorf("%d Writes and %d Revokes: %d bytes, want %d blocks", c.n, c.r, len(b), c.blocks)
		}
	}
	wantRefused(t, "59 Writes", txn(7, 59, 0))
	wantRefused(t, "no Writes and no Revokes", api.Txn{Seq: 7})
	wantRefused(t, "a Write and a Revoke of one block", api.Txn{Seq: 7, Writes: []api.Write{{Block: 5, Data: make([]byte, 256)}}, Revokes: []int{5}})
}

func TestEncodeTellsTheBlocks(t *testing.T) {
	for i, x := range records() {
		want, ok := plainEncode(x)
		if !ok {
			t.Fatalf("record %d may not be", i)
		}
		if b, err := Encode(x); err != api.OK || !bytes.Equal(b, want) {
			t.Errorf("record %d: error %d, %d bytes that aren't the %d wanted", i, err, len(b), len(want))
		}
	}
}

// counting: the bytes 0 to 255.
func counting() []byte {
	b := make([]byte, 256)
	for i := range b {
		b[i] = byte(i)
	}
	return b
}

// written: a block of its first and its last bytes, in base sixteen, 0 between them.
func written(t *testing.T, first, last string) []byte {
	t.Helper()
	b := make([]byte, 256)
	f, err := hex.DecodeString(first)
	l, err2 := hex.DecodeString(last)
	if err != nil || err2 != nil {
		t.Fatal(err, err2)
	}
	copy(b, f)
	copy(b[256-len(l):], l)
	return b
}

func TestEncodeTellsTheseBytes(t *testing.T) {
	marked := make([]byte, 256)
	copy(marked, "ULOG")
	for _, c := range []struct {
		x                                api.Txn
		head, headSum, commit, commitSum string
		data                             []byte
	}{
		{api.Txn{Seq: 1, Revokes: []int{5}},
			"554c4f470100000001000000000000000000010005000000", "f9cc458d",
			"554c4f47020000000100000000000000c74b6748", "45db9c8f", nil},
		{oneWrite(1<<64-1, 5, counting()),
			"554c4f4701000000ffffffffffffffff0100000005000000", "78587d0e",
			"554c4f4702000000ffffffffffffffffd237c5c8", "936281b7", counting()},
		{api.Txn{Seq: 258, Writes: []api.Write{{Block: 0x12345, Data: marked}, {Block: 0, Data: make([]byte, 256)}}, Revokes: []int{0xfffff}},
			"554c4f47010000000201000000000000020001004523018000000000ffff0f00", "1f922f9c",
			"554c4f470200000002010000000000009b1c4eb8", "e32e8b99", make([]byte, 512)},
	} {
		want := slices.Concat(written(t, c.head, c.headSum), c.data, written(t, c.commit, c.commitSum))
		if b := encoded(t, c.x); !bytes.Equal(b, want) {
			t.Errorf("Seq %d:\n%x, want\n%x", c.x.Seq, b, want)
		}
	}
}

func TestEncodeOfSoManySlots(t *testing.T) {
	for n := range 62 {
		for r := range 62 {
			x := txn(1, n, r)
			if n+r < 1 || n+r > 58 {
				wantRefused(t, "too many or too few", x)
			} else if b := encoded(t, x); len(b) != 256*(n+2) {
				t.Errorf("%d Writes and %d Revokes: %d bytes", n, r, len(b))
			}
		}
	}
	wantRefused(t, "very many Writes", api.Txn{Writes: make([]api.Write, 1<<16+1)})
	wantRefused(t, "very many Revokes", api.Txn{Revokes: make([]int, 1<<16+1)})
	wantRefused(t, "the zero Txn", api.Txn{})
	wantRefused(t, "empty lists", api.Txn{Writes: []api.Write{}, Revokes: []int{}})
}

func TestEncodeOfBlockNumbers(t *testing.T) {
	for _, n := range []int{0, 1, 255, 256, 65535, 65536, 1<<20 - 2, 1<<20 - 1} {
		encoded(t, oneWrite(1, n, noise(256, 1)))
		encoded(t, oneWrite(1, n, block("ULOG", 1)))
		encoded(t, api.Txn{Revokes: []int{n}})
	}
	for _, n := range []int{-1, -2, -5, -1 << 20, -1 << 31, -1 << 32, math.MinInt, 1 << 20, 1<<20 + 1, 1 << 21, 1 << 30, 1<<31 - 1, 1 << 31, 1<<31 + 5, 1 << 32, 1<<32 + 5, math.MaxInt} {
		wantRefused(t, "a Write's number", oneWrite(1, n, noise(256, 1)))
		wantRefused(t, "a Write's number with ULOG", oneWrite(1, n, block("ULOG", 1)))
		wantRefused(t, "a Revoke's number", api.Txn{Revokes: []int{n}})
		for at := range 4 { // among others that may be
			x := txn(1, 4, 4)
			x.Writes[at].Block = n
			wantRefused(t, "a Write's number among others", x)
			x = txn(1, 4, 4)
			x.Revokes[at] = n
			wantRefused(t, "a Revoke's number among others", x)
		}
	}
}

func TestEncodeOfANumberTwice(t *testing.T) {
	for i := range 5 {
		for j := range 5 {
			x := txn(1, 5, 5)
			x.Writes[i].Block = x.Revokes[j]
			wantRefused(t, "among both", x)
			if i == j {
				continue
			}
			x = txn(1, 5, 5)
			x.Writes[i].Block = x.Writes[j].Block
			wantRefused(t, "among the Writes", x)
			x = txn(1, 5, 5)
			x.Writes[i] = x.Writes[j]
			wantRefused(t, "the same Write twice", x)
			x = txn(1, 5, 5)
			x.Revokes[i] = x.Revokes[j]
			wantRefused(t, "among the Revokes", x)
		}
	}
	wantRefused(t, "three times", api.Txn{Revokes: []int{5, 5, 5}})
	wantRefused(t, "the highest twice", api.Txn{Revokes: []int{1<<20 - 1, 1<<20 - 1}})
	wantRefused(t, "number 0 twice", api.Txn{Revokes: []int{0, 1, 0}})
}

func TestEncodeOfDataOfOtherLengths(t *testing.T) {
	for _, n := range []int{0, 1, 3, 4, 64, 255, 257, 512, 1 << 16} {
		for at := range 3 {
			for _, first := range []string{"", "ULOG"} {
				x := txn(1, 3, 2)
				x.Writes[at].Data = noise(n, 1)
				copy(x.Writes[at].Data, first)
				wantRefused(t, "data of another length", x)
			}
		}
	}
	wantRefused(t, "nil data", oneWrite(1, 5, nil))
	x := oneWrite(1, 5, make([]byte, 100, 256)) // room isn't length
	wantRefused(t, "data with room", x)
}

// P3.1: Decode.

func TestDecodeReadsRecords(t *testing.T) {
	for i, x := range records() {
		b, _ := plainEncode(x)
		got, n, ok := Decode(b, x.Seq)
		if !ok || n != len(x.Writes)+2 || !sameTxn(got, x) {
			t.Errorf("record %d: %v, %d blocks", i, ok, n)
		}
	}
}

func TestDecodeWithAnotherSeq(t *testing.T) {
	for _, x := range records() {
		b := encoded(t, x)
		for _, seq := range []uint64{0, 1, x.Seq + 1, x.Seq - 1, x.Seq + 256, x.Seq ^ 1<<32, x.Seq ^ 1<<63, ^x.Seq, 1<<64 - 1} {
			if seq != x.Seq {
				wantNone(t, "another Seq", b, seq)
			}
		}
		wantRead(t, "its Seq", b, x)
	}
}

func TestDecodeOfBytesCutShort(t *testing.T) {
	for _, x := range []api.Txn{txn(1, 0, 1), txn(2, 1, 0), txn(3, 3, 3)} {
		b := encoded(t, x)
		for n := range len(b) {
			wantNone(t, "cut short", b[:n], x.Seq)
			wantNone(t, "cut short with room", b[:n:n], x.Seq)
		}
	}
	for _, x := range records() {
		b := encoded(t, x)
		for n := 0; n < len(b); n += 256 {
			for _, cut := range []int{n, n + 1, n + 64, n + 252, n + 255} {
				wantNone(t, "cut short", b[:cut], x.Seq)
			}
		}
	}
}

func TestDecodeOfNothing(t *testing.T) {
	for _, seq := range []uint64{0, 1, 1<<64 - 1} {
		wantNone(t, "nil", nil, seq)
		for _, n := range []int{0, 1, 4, 255, 256, 511, 512, 513, 768, 60 * 256, 1 << 16} {
			wantNone(t, "noughts", make([]byte, n), seq)
			wantNone(t, "all ones", bytes.Repeat([]byte{255}, n), seq)
			wantNone(t, "noise", noise(n, uint32(n)), seq)
			wantNone(t, "marks", bytes.Repeat([]byte("ULOG"), n/4), seq)
		}
	}
}

func TestDecodeOfARecordElsewhere(t *testing.T) {
	for _, x := range records() {
		b := encoded(t, x)
		for _, ahead := range []int{1, 4, 64, 255, 256, 512} {
			wantNone(t, "noughts ahead", append(make([]byte, ahead), b...), x.Seq)
			wantNone(t, "its own bytes ahead", append(bytes.Repeat(b[:1], ahead), b...), x.Seq)
		}
		for at := 256; at < len(b); at += 256 {
			wantNone(t, "its later blocks", b[at:], x.Seq)
		}
		wantNone(t, "the commit first", slices.Concat(b[len(b)-256:], b), x.Seq)
	}
}

// Only some bytes of a descriptor: the counts ask for more than there is, at all counts.
func TestDecodeOfAnyCounts(t *testing.T) {
	for _, n := range []int{0, 1, 2, 3, 57, 58, 59, 60, 255, 256, 257, 32767, 32768, 65535} {
		for _, r := range []int{0, 1, 2, 57, 58, 59, 60, 255, 256, 32768, 65535} {
			head := plainOwn(1, 1, []byte{byte(n), byte(n >> 8), byte(r), byte(r >> 8), 5, 0, 0, 0, 6, 0, 0, 0, 7, 0, 0, 0})
			for _, behind := range []int{0, 1, 255, 256, 257, 512, 58 * 256, 59 * 256, 70 * 256} {
				b := append(bytes.Clone(head), noise(behind, 1)...)
				wantNone(t, "a descriptor alone", b, 1)
				for at := 256; at+256 <= len(b); at += 256 {
					copy(b[at:], plainOwn(2, 1, nil))
				}
				wantNone(t, "a descriptor and commits", b, 1)
			}
		}
	}
}

// P3.2: whatever stands behind.

func TestDecodeWithAnythingBehind(t *testing.T) {
	all := records()
	for i, x := range all {
		b := encoded(t, x)
		other := encoded(t, all[(i+1)%len(all)])
		next := x
		next.Seq++
		for _, behind := range [][]byte{
			nil, {0}, {'U'}, []byte("ULOG"), make([]byte, 255), make([]byte, 256), make([]byte, 1000),
			noise(1, 1), noise(63, 2), noise(256, 3), noise(300, 4), noise(1<<14, 5),
			other, other[:100], other[:256], b, b[:256], b[len(b)-256:], b[:len(b)-1], encoded(t, next),
		} {
			wantRead(t, "with something behind", slices.Concat(b, behind), x)
		}
		room := append(b[:len(b):len(b)], noise(512, 6)...)
		wantRead(t, "with something in its room", room[:len(b)], x)
	}
}

func TestDecodeReadsOneBehindTheOther(t *testing.T) {
	var b []byte
	for seq, x := range records() {
		x.Seq = uint64(seq)
		b = append(b, encoded(t, x)...)
	}
	for seq, x := range records() {
		x.Seq = uint64(seq)
		wantNone(t, "the next one's Seq", b, x.Seq+1)
		wantRead(t, "the next record", b, x)
		b = b[256*(len(x.Writes)+2):]
	}
	wantNone(t, "the end", b, uint64(len(records())))
}

func TestRecordOfARecordsBlocks(t *testing.T) {
	inner := encoded(t, txn(5, 4, 1))
	var blocks [][]byte
	for at := 0; at < len(inner); at += 256 {
		blocks = append(blocks, inner[at:at+256])
	}
	x := blocksOf(5, blocks...)
	b := encoded(t, x)
	wantRead(t, "a record of a record's blocks", b, x)
	for at := 256; at < len(b); at += 256 {
		wantNone(t, "the inner record", b[at:], 5)
	}
}

func TestSeqsOfAllKinds(t *testing.T) {
	seqs := []uint64{0, 1, 255, 256, 1<<16 - 1, 1 << 16, 1<<31 - 1, 1 << 31, 1<<32 - 1, 1 << 32, 1<<63 - 1, 1 << 63, 1<<64 - 2, 1<<64 - 1}
	for _, seq := range seqs {
		x := txn(seq, 2, 2)
		b := encoded(t, x)
		wantRead(t, "its Seq", b, x)
		for _, other := range seqs {
			if other != seq {
				wantNone(t, "another Seq", b, other)
			}
		}
	}
}

// P3.4: what begins with ULOG.

func TestOnlyFirstAndLastBeginWithTheMark(t *testing.T) {
	l := records()
	var marked [][]byte
	for i := range 58 {
		marked = append(marked, block("ULOG", uint32(i)))
	}
	l = append(l, blocksOf(1, marked...))
	for i, x := range l {
		b := encoded(t, x)
		for at := 0; at < len(b); at += 256 {
			edge := at == 0 || at == len(b)-256
			if bytes.HasPrefix(b[at:], []byte("ULOG")) != edge {
				t.Errorf("record %d, block %d of %d: begins with %q", i, at/256, len(b)/256, b[at:at+4])
			}
		}
		wantRead(t, "it", b, x)
	}
}

func TestOnlyTheMarkIsTakenOut(t *testing.T) {
	for _, first := range []string{"", "U", "UL", "ULO", "ULO\x00", "ULOG", "ULOG\x01", "ULOGULOG", "ULOg", "\x00LOG", "\x00\x00\x00\x00", "\x00\x00\x00\x00ULOG", "\x00\x00\x00\x01", "LOGU"} {
		data := block(first, 8)
		b := encoded(t, oneWrite(1, 6, data))
		want, high := bytes.Clone(data), byte(0)
		if len(first) >= 4 && first[:4] == "ULOG" {
			copy(want, "\x00\x00\x00\x00")
			high = 0x80
		}
		if !bytes.Equal(b[256:512], want) || !bytes.Equal(b[20:24], []byte{6, 0, 0, high}) {
			t.Errorf("data that begins with %q: %q, number %x", first, b[256:264], b[20:24])
		}
		wantRead(t, "it", b, oneWrite(1, 6, data))
	}
}

// P3.5: what is handed in, and what is answered.

// deepCopy: a record like t that shares nothing with it.
func deepCopy(t api.Txn) api.Txn {
	c := api.Txn{Seq: t.Seq, Revokes: slices.Clone(t.Revokes)}
	for _, w := range t.Writes {
		c.Writes = append(c.Writes, api.Write{Block: w.Block, Data: bytes.Clone(w.Data)})
	}
	return c
}

// roomy: a record like t whose lists have spare room, with something in it.
func roomy(t api.Txn) api.Txn {
	c := deepCopy(t)
	for i, w := range c.Writes {
		c.Writes[i].Data = append(w.Data, "in the room behind"...)[:len(w.Data)]
	}
	c.Writes = append(c.Writes, api.Write{Block: 77, Data: noise(256, 9)})[:len(c.Writes)]
	c.Revokes = append(c.Revokes, 78)[:len(c.Revokes)]
	return c
}

// whole: a record with its lists' spare room.
func whole(t api.Txn) api.Txn {
	t.Writes, t.Revokes = slices.Clone(t.Writes[:cap(t.Writes)]), t.Revokes[:cap(t.Revokes)]
	for i, w := range t.Writes {
		t.Writes[i].Data = w.Data[:cap(w.Data)]
	}
	return t
}

func TestEncodeChangesNothing(t *testing.T) {
	refused := []api.Txn{{}, txn(1, 59, 0), txn(1, 30, 29), oneWrite(1, 5, noise(255, 1)), oneWrite(1, 5, block("ULOG", 1)[:200]), oneWrite(1, -1, block("ULOG", 1)), {Revokes: []int{5, 5}}}
	for i, x := range slices.Concat(records(), refused) {
		c := roomy(x)
		before := deepCopy(whole(c))
		b, _ := Encode(c)
		if !sameTxn(whole(c), before) || !sameTxn(c, x) {
			t.Errorf("record %d was changed", i)
		}
		want := bytes.Clone(b)
		for _, w := range whole(c).Writes {
			clear(w.Data)
		}
		clear(c.Writes)
		clear(c.Revokes)
		if !bytes.Equal(b, want) {
			t.Errorf("record %d: the answer shares memory with it", i)
		}
	}
}

func TestEncodeAnswersNewMemory(t *testing.T) {
	for i, x := range records() {
		c := deepCopy(x)
		b := encoded(t, c)
		b = b[:cap(b)]
		want := encoded(t, c)
		for k := range b {
			b[k] ^= 0xff
		}
		if !sameTxn(c, x) {
			t.Errorf("record %d was changed by way of the answer", i)
		}
		if again := encoded(t, c); !bytes.Equal(again, want) {
			t.Errorf("record %d: another answer", i)
		}
	}
}

func TestEncodeOfSharedData(t *testing.T) {
	data := block("ULOG", 1)
	x := api.Txn{Seq: 1, Writes: []api.Write{{Block: 1, Data: data}, {Block: 2, Data: data}}}
	b := encoded(t, x)
	wantRead(t, "one list in two Writes", b, x)
	long := block("ULOG", 2)
	long = append(long, noise(252, 3)...)
	copy(long[252:], "ULOG")
	y := api.Txn{Seq: 1, Writes: []api.Write{{Block: 1, Data: long[:256]}, {Block: 2, Data: long[252:508]}}}
	b = encoded(t, y)
	wantRead(t, "lists that overlap", b, y)
}

func TestDecodeChangesNothing(t *testing.T) {
	for i, x := range records() {
		b := encoded(t, x)
		all := append(bytes.Clone(b), noise(300, 4)...)
		before := bytes.Clone(all)
		got, _, ok := Decode(all[:len(b)], x.Seq)
		if !ok || !bytes.Equal(all, before) {
			t.Errorf("record %d: %v, or its bytes were changed", i, ok)
		}
		Decode(all[:len(b)], x.Seq+1)
		Decode(all[:len(b)-1], x.Seq)
		if !bytes.Equal(all, before) {
			t.Errorf("record %d: bytes that hold none were changed", i)
		}
		clear(all)
		if !sameTxn(got, x) {
			t.Errorf("record %d: the answer shares memory with the bytes", i)
		}
	}
}

func TestDecodeAnswersNewMemory(t *testing.T) {
	for i, x := range records() {
		b := encoded(t, x)
		one, _, _ := Decode(b, x.Seq)
		two, _, _ := Decode(b, x.Seq)
		for k := range one.Writes {
			d := one.Writes[k].Data
			d = d[:cap(d)] // its spare room is its own too
			for j := range d {
				d[j] = 0xa5
			}
			for j := range one.Writes {
				if j > k && !bytes.Equal(one.Writes[j].Data, x.Writes[j].Data) {
					t.Fatalf("record %d: Writes %d and %d share memory", i, k, j)
				}
			}
		}
		clear(one.Writes)
		clear(one.Revokes)
		if !sameTxn(two, x) {
			t.Errorf("record %d: two answers share memory", i)
		}
		wantRead(t, "the bytes", b, x)
	}
}

func TestEqualCallsAnswerTheSame(t *testing.T) {
	for i, x := range records() {
		b := encoded(t, x)
		for range 20 { // numbers are met in any order
			if !bytes.Equal(encoded(t, deepCopy(x)), b) {
				t.Errorf("record %d: another answer", i)
			}
		}
	}
}
