package integer_test

import (
	"math/big"
	"math/rand"
	"testing"

	"commonform/integer"
)
var _ = rand.Int
func toBig(x integer.Int) *big.Int {
	neg, l := x.Limbs()
	z := new(big.Int)
	for i := len(l)-1; i>=0; i-- { z.Lsh(z,32); z.Or(z, big.NewInt(int64(l[i]))) }
	if neg { z.Neg(z) }
	return z
}
func fromBig(z *big.Int) integer.Int {
	a := new(big.Int).Abs(z)
	var l []uint32
	for a.Sign()>0 { l = append(l, uint32(new(big.Int).And(a, big.NewInt(0xffffffff)).Uint64())); a.Rsh(a,32)}
	return integer.Make(z.Sign()<0, l)
}
func TestQuick(t *testing.T) {
	r := rand.New(rand.NewSource(1))
	rnd := func() *big.Int {
		n := r.Intn(1+[]int{3,10,70,300,5000,20000}[r.Intn(6)])
		z := new(big.Int).Rand(r, new(big.Int).Lsh(big.NewInt(1), uint(n)))
		if r.Intn(4)==0 { z.Lsh(big.NewInt(1), uint(n)); z.Add(z, big.NewInt(int64(r.Intn(5)-2))) }
		if r.Intn(2)==0 { z.Neg(z) }
		return z
	}
	for i:=0;i<20000;i++ {
		a,b := rnd(), rnd()
		x,y := fromBig(a), fromBig(b)
		eq := func(what string, g integer.Int, w *big.Int) { if toBig(g).Cmp(w)!=0 { t.Fatalf("%s %v %v: %v %v", what, a,b,toBig(g),w)}}
		eq("add", x.Add(y), new(big.Int).Add(a,b))
		eq("sub", x.Sub(y), new(big.Int).Sub(a,b))
		eq("mul", x.Mul(y), new(big.Int).Mul(a,b))
		eq("gcd", x.Gcd(y), new(big.Int).GCD(nil,nil,new(big.Int).Abs(a),new(big.Int).Abs(b)))
		if b.Sign()!=0 { q,m,_ := x.Divide(y); wq,wm := new(big.Int).QuoRem(a,b,new(big.Int)); eq("q",q,wq); eq("r",m,wm)}
		g := x.Mul(y).Gcd(x.Mul(x.Add(y)))
		eq("gcd2", g, new(big.Int).GCD(nil,nil,new(big.Int).Abs(new(big.Int).Mul(a,b)),new(big.Int).Abs(new(big.Int).Mul(a,new(big.Int).Add(a,b)))))
		if a.Sign()>=0 { q,_ := x.Root(); eq("root", q, new(big.Int).Sqrt(a)) }
		for _, rx := range []int{2,10,16,36,7} { s,_ := x.Text(rx); if s != upper(a.Text(rx)) {t.Fatal("text")}; if len(s)<=20000 {z,_ := integer.Parse(s,rx); eq("parse",z,a)}}
		n := r.Intn(200)-100
		s,_ := x.Shift(n); if n>=0 { eq("shl", s, new(big.Int).Lsh(a,uint(n)))} else {eq("shr", s, new(big.Int).Rsh(a,uint(-n)))}
		w,_ := x.Boole(8,y); eq("and",w,new(big.Int).And(a,b))
		w,_ = x.Boole(14,y); eq("or",w,new(big.Int).Or(a,b))
		w,_ = x.Boole(6,y); eq("xor",w,new(big.Int).Xor(a,b))
		w,_ = x.Boole(4,y); eq("andnot",w,new(big.Int).AndNot(a,b))
	}
}
func upper(s string) string { b := []byte(s); for i := range b { if b[i]>='a' {b[i]-=32}}; return string(b)}
func BenchmarkGcd(b *testing.B) {
	r := rand.New(rand.NewSource(1))
	x := fromBig(new(big.Int).Rand(r, new(big.Int).Lsh(big.NewInt(1), 131072)))
	y := fromBig(new(big.Int).Rand(r, new(big.Int).Lsh(big.NewInt(1), 131072)))
	for range b.N { x.Gcd(y) }
}
func BenchmarkMul(b *testing.B) {
	r := rand.New(rand.NewSource(1))
	x := fromBig(new(big.Int).Rand(r, new(big.Int).Lsh(big.NewInt(1), 131072)))
	y := fromBig(new(big.Int).Rand(r, new(big.Int).Lsh(big.NewInt(1), 131072)))
	for range b.N { x.Mul(y) }
}
func BenchmarkText(b *testing.B) {
	r := rand.New(rand.NewSource(1))
	x := fromBig(new(big.Int).Rand(r, new(big.Int).Lsh(big.NewInt(1), 66000)))
	for range b.N { s,_ := x.Text(10); integer.Parse(s,10) }
}
func BenchmarkRoot(b *testing.B) {
	r := rand.New(rand.NewSource(1))
	x := fromBig(new(big.Int).Rand(r, new(big.Int).Lsh(big.NewInt(1), 66000)))
	for range b.N { x.Root() }
}
