package tests

import (
	"bytes"
	"hash/crc32"
	"math"
	"testing"

	"loop.example/s02548/impl"
)

// someNumbers has the edges of each width, and bytes that all differ, so that a wrong order shows.
func someNumbers() []int64 {
	list := []int64{0, 1, -1, 2, -2, 0x0102030405060708, -0x0102030405060708, math.MaxInt64, math.MinInt64}
	for bits := 7; bits < 63; bits++ {
		v := int64(1) << bits
		list = append(list, v-1, v, v+1, -v-1, -v, -v+1)
	}
	return list
}

func wrongCounts() []int64 {
	return []int64{0, -1, -8, 9, 10, 16, 255, 256, 257, 1<<32 + 1, 1<<32 + 8, math.MaxInt64, math.MinInt64, math.MinInt64 + 1}
}

// lowest is what n bytes can hold of v: all of it for n = 8, not negative else.
func lowest(v int64, n int64) int64 {
	if n == 8 {
		return v
	}
	return v & (int64(1)<<(8*n) - 1)
}

func TestPutNumberPutsTheLowestByteFirst(t *testing.T) {
	for n := int64(1); n <= 8; n++ {
		for _, v := range someNumbers() {
			var want []byte
			for i := int64(0); i < n; i++ {
				want = append(want, byte(v>>(8*i)))
			}
			if got := impl.PutNumber(v, n); !bytes.Equal(got, want) {
				t.Errorf("PutNumber(%d, %d): %v, not %v", v, n, got, want)
			}
		}
	}
}

func TestPutNumberOfAWrongCountIsEmpty(t *testing.T) {
	for _, n := range wrongCounts() {
		for _, v := range []int64{0, 5, -1, math.MaxInt64, math.MinInt64} {
			if got := impl.PutNumber(v, n); len(got) != 0 {
				t.Errorf("PutNumber(%d, %d): %v", v, n, got)
			}
		}
	}
}

func TestNumberPutIsGotAgain(t *testing.T) {
	for n := int64(1); n <= 8; n++ {
		for _, v := range someNumbers() {
			for _, ahead := range []int{0, 1, 7, 300} {
				for _, behind := range []int{0, 1, 9} {
					b := bytes.Repeat([]byte{0xa5}, ahead)
					b = append(b, impl.PutNumber(v, n)...)
					b = append(b, bytes.Repeat([]byte{0x5a}, behind)...)
					want := impl.NumberResult{Good: true, Value: lowest(v, n)}
					if got := impl.GetNumber(b, int64(ahead), n); got != want {
						t.Errorf("%d in %d bytes at %d: %v, not %v", v, n, ahead, got, want)
					}
				}
			}
		}
	}
}

func TestGetNumberIsNegativeForEightBytesAlone(t *testing.T) {
	b := bytes.Repeat([]byte{0xff}, 8)
	for n := int64(1); n <= 7; n++ {
		if r := impl.GetNumber(b, 8-n, n); !r.Good || r.Value != int64(1)<<(8*n)-1 {
			t.Error(n, r)
		}
	}
	if r := impl.GetNumber(b, 0, 8); !r.Good || r.Value != -1 {
		t.Error(8, r)
	}
}

func TestGetNumberOfWhatIsNotThereIsZero(t *testing.T) {
	none := impl.NumberResult{}
	for length := int64(0); length <= 10; length++ {
		// Bytes behind the end that the memory still has do not stand in b.
		b := bytes.Repeat([]byte{0xff}, 40)[:length]
		for n := int64(1); n <= 8; n++ {
			wrong := []int64{-1, -2, -n, -8, -256, math.MinInt64, math.MinInt64 + 1, length, length + 1, 1000, 1 << 32, 1<<32 + 1, math.MaxInt64, math.MaxInt64 - 1, math.MaxInt64 - n, math.MaxInt64 - n + 1}
			for at := max(0, length-n+1); at <= length; at++ {
				wrong = append(wrong, at)
			}
			for _, at := range wrong {
				if got := impl.GetNumber(b, at, n); got != none {
					t.Errorf("%d bytes at %d of %d: %v", n, at, length, got)
				}
			}
		}
		for _, n := range wrongCounts() {
			for _, at := range []int64{0, 1, 2, -1, length, math.MaxInt64, math.MinInt64} {
				if got := impl.GetNumber(b, at, n); got != none {
					t.Errorf("%d bytes at %d of %d: %v", n, at, length, got)
				}
			}
		}
	}
	if got := impl.GetNumber(nil, 0, 1); got != none {
		t.Error("of no bytes", got)
	}
}

// sumByBits is Crc as the document's words tell it, bit by bit.
func sumByBits(b []byte) uint32 {
	rest := uint32(0xffffffff)
	for _, x := range b {
		for i := 0; i < 8; i++ {
			differs := uint32(x)>>i&1 != rest&1
			rest >>= 1
			if differs {
				rest ^= 0xedb88320
			}
		}
	}
	return ^rest
}

func someTexts() [][]byte {
	list := [][]byte{nil, {}, []byte("a"), []byte("123456789"), []byte("PLC1\x01\x00")}
	for x := 0; x < 256; x++ {
		list = append(list, []byte{byte(x)}, []byte{byte(x), byte(x * 7), 0, byte(255 - x)})
	}
	long := make([]byte, 3000)
	for i := range long {
		long[i] = byte(i * i >> 3)
	}
	return append(list, long, make([]byte, 64), bytes.Repeat([]byte{0xff}, 64))
}

func TestCrcIsTheSumBitByBit(t *testing.T) {
	for _, b := range someTexts() {
		got := impl.Crc(b)
		if got != sumByBits(b) || got != crc32.ChecksumIEEE(b) {
			t.Errorf("sum of %v: %08x, not %08x", b, got, sumByBits(b))
		}
	}
}

func TestCrcOfTextsThatDifferInOneBitDiffers(t *testing.T) {
	for _, b := range someTexts() {
		sum := impl.Crc(b)
		for bit := 0; bit < 8*len(b); bit++ {
			other := bytes.Clone(b)
			other[bit/8] ^= 1 << (bit % 8)
			if impl.Crc(other) == sum {
				t.Errorf("bit %d of %d bytes does not show", bit, len(b))
			}
		}
	}
}

func TestBytesChangeNoArgument(t *testing.T) {
	memory := make([]byte, 50)
	for i := range memory {
		memory[i] = byte(200 - i)
	}
	before := bytes.Clone(memory)
	b := memory[10:30]
	places := []int64{math.MinInt64, -20, -10, -1, 0, 3, 12, 19, 20, 25, 40, 1 << 40, math.MaxInt64}
	counts := append(wrongCounts(), 1, 2, 3, 4, 5, 6, 7, 8)
	for round := 0; round < 2; round++ {
		for _, at := range places {
			for _, n := range counts {
				first := impl.GetNumber(b, at, n)
				if impl.GetNumber(b, at, n) != first {
					t.Error("another number the second time", at, n)
				}
			}
		}
		if impl.Crc(b) != sumByBits(before[10:30]) {
			t.Error("another sum", round)
		}
	}
	if !bytes.Equal(memory, before) {
		t.Error("memory was changed", memory)
	}
}

func TestPutNumberAnswersNewMemory(t *testing.T) {
	for n := int64(1); n <= 8; n++ {
		first, second := impl.PutNumber(-7, n), impl.PutNumber(-7, n)
		want := bytes.Clone(second)
		whole := first[:cap(first)]
		for i := range whole {
			whole[i] = 0x33
		}
		if !bytes.Equal(second, want) || !bytes.Equal(impl.PutNumber(-7, n), want) {
			t.Error("an answer is shared", n)
		}
	}
}
