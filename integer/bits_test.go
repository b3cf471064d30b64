package integer_test

import (
	"math"
	"math/big"
	"math/bits"
	"math/rand"
	"testing"

	"commonform/api"
	"commonform/integer"
)

func TestShift(t *testing.T) {
	for _, c := range []struct {
		x    string
		n    int
		want string
	}{
		{"-5", -1, "-3"}, {"5", -1, "2"}, {"5", 0, "5"}, {"5", 3, "40"}, {"-5", 3, "-40"}, {"-1", -1, "-1"}, {"-1", -1000, "-1"}, {"-2", -1, "-1"}, {"1", -1, "0"}, {"-8", -3, "-1"}, {"-9", -3, "-2"}, {"-(2^64)", -64, "-1"}, {"-(2^64+1)", -64, "-2"}, {"2^64-1", -64, "0"}, {"2^64", -64, "1"},
		{"-5", math.MinInt, "-1"}, {"5", math.MinInt, "0"}, {"0", math.MinInt, "0"}, {"0", math.MaxInt, "0"}, {"0", 65537, "0"}, {"1", 65535, "2^65535"}, {"-1", 65536, "-(2^65536)"}, {"2^70000", 0, "2^70000"}, {"2^70000", -1, "2^69999"}, {"-(2^70000)", -69999, "-2"},
	} {
		x, e := whole(t, c.x).Shift(c.n)
		fails(t, "Shift", x, e, api.OK)
		same(t, "Shift of "+c.x, x, bigOf(t, c.want))
	}
	for _, c := range []struct {
		x string
		n int
	}{{"1", 65536}, {"-1", 65537}, {"1", math.MaxInt}, {"-1", math.MaxInt}, {"2^65535", 1}, {"2^65536", 1}, {"-(2^65536)", 1}, {"3", 65535}, {"-3", 65535}} {
		x, e := whole(t, c.x).Shift(c.n)
		fails(t, "Shift of "+c.x, x, e, api.ErrLarge)
	}
	for _, a := range numbers(11, 200, 300) {
		x := of(a)
		for _, n := range []int{0, 1, 31, 32, 33, 64, 100, 301} {
			up, e := x.Shift(n)
			fails(t, "Shift", up, e, api.OK)
			same(t, "Shift up", up, new(big.Int).Lsh(a, uint(n)))
			down, e := x.Shift(-n)
			fails(t, "Shift", down, e, api.OK)
			same(t, "Shift down", down, new(big.Int).Rsh(a, uint(n)))
			back, _ := up.Shift(-n)
			same(t, "Shift there and back", back, a)
		}
		same(t, "the operand", x, a)
	}
}

func TestBooleExamples(t *testing.T) {
	for _, c := range []struct {
		op   int
		want int64
	}{{8, 4}, {14, -1}, {3, 3}, {6, -5}, {0, 0}, {15, -1}, {1, 0}, {12, -4}, {10, 7}, {5, -8}, {9, 4}, {7, -5}, {4, -8}, {2, 3}, {11, 7}, {13, -4}} {
		x, e := integer.New(-4).Boole(c.op, integer.New(7))
		fails(t, "Boole", x, e, api.OK)
		if n, ok := x.Int64(); n != c.want || !ok {
			t.Errorf("Boole %d of -4 and 7 = %v, expected %d", c.op, value(x), c.want)
		}
	}
	for _, op := range []int{-1, 16, math.MaxInt, math.MinInt} {
		x, e := integer.New(1).Boole(op, integer.New(1))
		fails(t, "Boole", x, e, api.ErrArg)
	}
}

// Each bit of the result is the bit 2 a + b of the op.
func TestBooleBitByBit(t *testing.T) {
	l := numbers(12, 60, 150)
	for i := range len(l) - 1 {
		a, b := l[i], l[i+1]
		x, y := of(a), of(b)
		for op := range 16 {
			z, e := x.Boole(op, y)
			fails(t, "Boole", z, e, api.OK)
			got := value(z)
			for k := range 170 {
				want := uint(op>>(2*a.Bit(k)+b.Bit(k))) & 1
				if got.Bit(k) != want {
					t.Fatalf("Boole %d of %v and %v: bit %d is %d", op, a, b, k, got.Bit(k))
				}
			}
			negative := op>>(2*a.Bit(500)+b.Bit(500))&1 == 1
			if (z.Sign() < 0) != negative {
				t.Fatalf("Boole %d of %v and %v: %v", op, a, b, got)
			}
		}
		and, _ := x.Boole(8, y)
		or, _ := x.Boole(6, y)
		if or.Add(and).Add(and).Cmp(x.Add(y)) != 0 {
			t.Errorf("%v + %v is not exclusive or and twice and", a, b)
		}
		same(t, "the left operand", x, a)
		same(t, "the right operand", y, b)
	}
	pairs(13, 30, 3000, func(a, b *big.Int, x, y integer.Int) {
		and, _ := x.Boole(8, y)
		or, _ := x.Boole(14, y)
		not, _ := x.Boole(3, y)
		same(t, "and", and, new(big.Int).And(a, b))
		same(t, "or", or, new(big.Int).Or(a, b))
		same(t, "not", not, new(big.Int).Not(a))
	})
}

func TestLengthAndCount(t *testing.T) {
	for _, c := range []struct {
		x             string
		length, count int
	}{
		{"0", 0, 0}, {"-1", 0, 0}, {"1", 1, 1}, {"-2", 1, 1}, {"7", 3, 3}, {"8", 4, 1}, {"-8", 3, 3}, {"-9", 4, 1}, {"2^32-1", 32, 32}, {"2^32", 33, 1}, {"-(2^32)", 32, 32}, {"-(2^32+1)", 33, 1}, {"2^64", 65, 1}, {"-(2^64)", 64, 64}, {"-(2^63)", 63, 63}, {"2^65536", 65537, 1},
	} {
		x := whole(t, c.x)
		if x.Length() != c.length || x.Count() != c.count {
			t.Errorf("%s: Length %d, Count %d", c.x, x.Length(), x.Count())
		}
	}
	for _, a := range numbers(14, 400, 300) {
		x := of(a)
		digits := new(big.Int).Set(a)
		if a.Sign() < 0 {
			digits.Not(a)
		}
		count := 0
		for _, word := range digits.Bits() {
			count += bits.OnesCount(uint(word))
		}
		opposite := of(new(big.Int).Not(a))
		if x.Length() != digits.BitLen() || x.Count() != count {
			t.Errorf("%v: Length %d, Count %d", a, x.Length(), x.Count())
		}
		if opposite.Length() != x.Length() || opposite.Count() != x.Count() {
			t.Errorf("-1 - %v: Length %d, Count %d", a, opposite.Length(), opposite.Count())
		}
	}
}

func TestBit(t *testing.T) {
	for _, a := range numbers(15, 200, 200) {
		x := of(a)
		for _, i := range []int{0, 1, 2, 3, 30, 31, 32, 33, 63, 64, 65, 100, 199, 200, 1000, math.MaxInt} {
			want := a.Sign() < 0
			if i < 1000 {
				want = a.Bit(i) == 1
			}
			if x.Bit(i) != want {
				t.Errorf("Bit %d of %v", i, a)
			}
		}
		for _, i := range []int{-1, -64, math.MinInt} {
			if x.Bit(i) {
				t.Errorf("Bit %d of %v", i, a)
			}
		}
	}
}

func TestFieldExamples(t *testing.T) {
	for _, c := range []struct {
		x              string
		size, position int
		want           string
	}{
		{"90", 3, 2, "6"}, {"90", 0, 2, "0"}, {"-1", 4, 100, "15"}, {"-1", 64, 0, "2^64-1"}, {"-1", api.MaxBits, api.MaxBits, "2^65536-1"}, {"90", 100, 0, "90"}, {"90", 3, 1000, "0"}, {"-8", 3, 0, "0"}, {"-8", 3, 3, "7"}, {"-9", 4, 0, "7"}, {"-(2^64)", 65, 0, "2^64"}, {"2^65536", 1, api.MaxBits, "1"}, {"0", 5, 5, "0"}, {"-(2^32)", 32, 0, "0"}, {"-(2^32)", 32, 16, "4294901760"},
	} {
		x, e := whole(t, c.x).Field(c.size, c.position)
		fails(t, "Field", x, e, api.OK)
		same(t, "Field of "+c.x, x, bigOf(t, c.want))
	}
	x, e := integer.New(90).Deposit(integer.New(1), 3, 2)
	fails(t, "Deposit", x, e, api.OK)
	same(t, "Deposit of 1 in 90", x, big.NewInt(70))
	x, e = integer.New(0).Deposit(integer.New(-1), api.MaxBits, api.MaxBits)
	fails(t, "Deposit", x, e, api.OK)
	want := new(big.Int).Sub(new(big.Int).Lsh(big.NewInt(1), 2*api.MaxBits), new(big.Int).Lsh(big.NewInt(1), api.MaxBits))
	same(t, "Deposit of all bits", x, want)
}

func TestFieldErrors(t *testing.T) {
	for _, c := range [][2]int{{-1, 0}, {0, -1}, {-1, -1}, {api.MaxBits + 1, 0}, {0, api.MaxBits + 1}, {math.MaxInt, 0}, {0, math.MaxInt}, {math.MinInt, 3}, {3, math.MinInt}} {
		x, e := integer.New(90).Field(c[0], c[1])
		fails(t, "Field", x, e, api.ErrArg)
		x, e = integer.New(90).Deposit(integer.New(7), c[0], c[1])
		fails(t, "Deposit", x, e, api.ErrArg)
	}
}

func TestFieldsAndDeposits(t *testing.T) {
	r := rand.New(rand.NewSource(16))
	l := numbers(17, 300, 200)
	for i := range len(l) - 1 {
		x, part := of(l[i]), of(l[i+1])
		size, position := r.Intn(100), r.Intn(150)
		field, e := x.Field(size, position)
		fails(t, "Field", field, e, api.OK)
		for k := range 260 {
			if want := k < size && x.Bit(position+k); field.Bit(k) != want {
				t.Fatalf("Field of %v, size %d, position %d: %v", l[i], size, position, value(field))
			}
		}
		if field.Sign() < 0 {
			t.Fatalf("Field of %v is below 0", l[i])
		}
		y, e := x.Deposit(part, size, position)
		fails(t, "Deposit", y, e, api.OK)
		for k := range 400 {
			want := x.Bit(k)
			if k >= position && k < position+size {
				want = part.Bit(k - position)
			}
			if y.Bit(k) != want {
				t.Fatalf("Deposit of %v in %v, size %d, position %d: bit %d", l[i+1], l[i], size, position, k)
			}
		}
		if (y.Sign() < 0) != (x.Sign() < 0) {
			t.Fatalf("Deposit in %v: %v", l[i], value(y))
		}
		again, _ := y.Field(size, position)
		low, _ := part.Field(size, 0)
		if again.Cmp(low) != 0 {
			t.Fatalf("Field of Deposit: %v", value(again))
		}
		back, _ := y.Deposit(field, size, position)
		if back.Cmp(x) != 0 {
			t.Fatalf("Deposit of the field: %v", value(back))
		}
		same(t, "the operand", x, l[i])
	}
}
