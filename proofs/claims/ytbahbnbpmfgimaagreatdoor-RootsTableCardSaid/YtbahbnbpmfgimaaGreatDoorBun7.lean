import Derived.Test.YtbahbnbpmfgimaaGreatDoorBun5
set_option maxHeartbeats 2000000
set_option maxRecDepth 100000
namespace Go.Hm
open Ieee
theorem dbl:Ieee.double.fractionBits=52/\Ieee.double.exponentBits=11:=⟨rfl,rfl⟩
theorem zmk:Ieee.double.leastPlace= -1074:=by decide
theorem zs4:Ieee.double.binade=4503599627370496:=by decide
theorem qae:Ieee.double.infRung=9218868437227405312:=by decide
theorem z2j:Ieee.double.signWeight=9223372036854775808:=by decide
theorem zqw(a:Toward)(neg:Bool)(n d:Nat):a.cut neg (n*2^d) d=n:=by
 by_cases b:n=0
 ·subst b
  unfold Toward.cut;simp only[qto,Nat.zero_div,Nat.zero_mod];cases a<;> simp
 ·have e:d<=(n*2^d).log2:=by
   rw[Nat.le_log2 (by have:=qsn d;exact qvk b (by omega))];exact Nat.le_mul_of_pos_left _ (by omega)
  have c:min d ((n*2^d).log2+2)=d:=qqy (by omega);unfold Toward.cut;simp only[c,Nat.one_shiftLeft,Nat.mul_div_cancel _ (qsn d),Nat.mul_mod_left];have f:=qsn d;cases a<;> simp<;> omega
theorem zw2{n:Nat}(h:n≠0)(k:Nat):(n*2^k).log2=n.log2+k:=by
 have d:=qsn k;have b:2^(n.log2+k)<=n*2^k:=by rw[qss];exact qqz _ (qrv h)
 have c:n*2^k<2^(n.log2+k+1):=by rw[show n.log2+k+1=(n.log2+1)+k by omega,qss];exact qsr (qrw) d
 have a:n*2^k≠0:=qvk h (by omega);have e:=(Nat.le_log2 a).2 b;have f:=(Nat.log2_lt a).2 c;omega
theorem zw3(f:Format)(s:Bool)(R:Nat)(a:R<f.signWeight):f.read (f.word s R)=
 if R<f.binade then .number s R f.leastPlace
 else if R<f.infRung then .number s (f.binade+R%f.binade) (f.leastPlace+(R/f.binade-1:Nat))
 else if R=f.infRung then .infinity s else .nan s (R-f.infRung):=by
 have b:(f.word s R/f.signWeight%2==1)=s:=by
  unfold Format.word;cases s with
  |false=>
   rw[if_neg (by simp),qt2 a];rfl
  |true=>
   rw[if_pos rfl,Nat.add_div_left _ (by omega),qt2 a];rfl
 have c:f.word s R%f.signWeight=R:=by
  unfold Format.word;cases s with
  |false=>rw[if_neg (by simp),qr8 a]
  |true=>rw[if_pos rfl,Nat.add_mod_left,qr8 a]
 unfold Format.read;simp only[b,c]
theorem zw4(s:Bool)(n k:Nat)(v:n<9007199254740992):∃h:Nat,Ieee.double.read (Ieee.double.nearest s (n*2^k) (-(k:Int)))= .number s (n*2^h) (-(h:Int)):=by
 by_cases c:n=0
 ·subst c
  obtain⟨j,q⟩:∃j:Nat,Ieee.double.leastPlace= -(j:Int):=⟨1074,by rw[zmk];rfl⟩;refine⟨j,?_⟩;rw[qto,qto,Format.nearest,if_pos rfl,zw3 _ _ _ (by rw[z2j];omega),if_pos (by rw[zs4];omega),q]
 ·have w:=qsn k
  have f:n*2^k≠0:=qvk c (by omega);have e:n.log2<=52:=by have:=(Nat.log2_lt c).2 (show n<2^53 by omega);omega
  have g:(-(k:Int))+((n*2^k).log2:Nat)-(52:Nat)=(n.log2:Int)-52:=by rw[zw2 c];omega
  obtain⟨d,l⟩:∃d,d=52-n.log2:=⟨_,rfl⟩;have b:max ((-(k:Int))+((n*2^k).log2:Nat)-(Ieee.double.fractionBits:Nat)) Ieee.double.leastPlace= -(d:Int):=by rw[dbl.1,g,zmk];omega
  have a:Toward.even.cut s ((n*2^k) <<< ((-(k:Int))- -(d:Int)).toNat) (-(d:Int)- -(k:Int)).toNat=n*2^d:=by
   by_cases r:k<=d
   ·rw[show((-(k:Int))- -(d:Int)).toNat=d-k by omega,show(-(d:Int)- -(k:Int)).toNat=0 by omega,qvl,qsx,<-qss,show k+(d-k)=d by omega]
    have:=zqw .even s (n*2^d) 0;rwa[quz,qq7] at this
   ·rw[show((-(k:Int))- -(d:Int)).toNat=0 by omega,show(-(d:Int)- -(k:Int)).toNat=k-d by omega,qvl,quz,qq7]
    have:=zqw .even s (n*2^d) (k-d);rwa[qsx,<-qss,show d+(k-d)=k by omega] at this
  have t:4503599627370496<=n*2^d:=by have:=qqz (2^d) (qrv c);rw[<-qss,show n.log2+d=52 by omega] at this;exact qqs (by decide) this
  have p:n*2^d<9007199254740992:=by have:=qsr (qrw (n:=n)) (qsn d);rw[<-qss,show n.log2+1+d=53 by omega] at this;exact qqv this (by decide)
  refine⟨d,?_⟩;have o:d<=52:=by omega
  have y:Ieee.double.nearest s (n*2^k) (-(k:Int))=Ieee.double.word s (min ((-(d:Int)-Ieee.double.leastPlace).toNat*Ieee.double.binade+n*2^d) Ieee.double.infRung):=by unfold Format.nearest;rw[if_neg f];simp only[b,a]
  clear b a e g l f w c v;generalize Ieee.double.nearest s (n*2^k) (-(k:Int))=V at*;generalize n*2^d=K at*;rw[y,zw3 _ _ _ (by rw[z2j,qae];omega)];have i:(-(d:Int)-Ieee.double.leastPlace).toNat=1074-d:=by rw[zmk];omega
  rw[i,zs4,qae,zmk];generalize E:1074-d=m;have u:m<=1074/\1022<=m:=by omega
  have x:min (m*4503599627370496+K) 9218868437227405312=m*4503599627370496+K:=qqy (by omega);rw[x];have z: ¬m*4503599627370496+K<4503599627370496:=by omega
  have A:m*4503599627370496+K<9218868437227405312:=by omega
  have B:4503599627370496+(m*4503599627370496+K)%4503599627370496=K:=by omega
  have C:(m*4503599627370496+K)/4503599627370496-1=m:=by omega
  have D:(-1074:Int)+(m:Int)= -(d:Int):=by omega
  rw[if_neg z,if_pos A,B,C,D]
def RepD(x:Int)(d:Datum):Prop:=∃(s:Bool) (k:Nat),d= .number s (x.natAbs*2^k) (-(k:Int))/\(x≠0->s=decide (x<0))
def Rep(x:Int)(b:Nat):Prop:=RepD x (Ieee.double.read b)
theorem znn{s:Bool}{x:Int}(h:x≠0->s=decide (x<0))(k u:Nat):Ieee.signed s (x.natAbs*2^k) u=x*((2^(k+u):Nat):Int):=by
 have e:(x.natAbs*2^k) <<< u=x.natAbs*2^(k+u):=by rw[qvl,qsx,<-qss]
 unfold Ieee.signed;rw[e];generalize 2^(k+u)=p;by_cases a:x=0
 ·subst a
  cases s<;> simp
 ·by_cases b:x<0
  ·rw[h a,decide_eq_true b,if_pos rfl,qrm,show((x.natAbs:Nat):Int)= -x by omega,Int.neg_mul,Int.neg_neg]
  ·rw[h a,decide_eq_false b,if_neg (by simp),qrm,show((x.natAbs:Nat):Int)=x by omega]
theorem RepD.write{x:Int}{d:Datum}(h:RepD x d)(c:x.natAbs<9007199254740992):Rep x (Ieee.double.write d):=by obtain⟨s,k,rfl,b⟩:=h;obtain⟨j,a⟩:=zw4 s x.natAbs k c;exact⟨s,j,a,b⟩
theorem RepD.opposite{x:Int}{d:Datum}(h:RepD x d):RepD (-x) d.opposite:=by
 obtain⟨s,k,rfl,b⟩:=h;refine⟨!s,k,?_,fun c=>?_⟩
 ·rw[Int.natAbs_neg]
  rfl
 ·rw[b (by omega)]
  by_cases a:x<0
  ·rw[decide_eq_true a,decide_eq_false (by omega)]
   rfl
  ·rw[decide_eq_false a,decide_eq_true (by omega)]
   rfl
theorem RepD.product{x y:Int}{d e:Datum}(h:RepD x d)(l:RepD y e):∃r,d.product e=some r/\RepD (x*y) r:=by
 obtain⟨s,k,rfl,m⟩:=h;obtain⟨t,j,rfl,n⟩:=l;refine⟨_,rfl,s ^^ t,k+j,?_,fun c=>?_⟩
 ·rw[qvm,qss]
  congr 1
  ·generalize 2^k=p
   generalize 2^j=q;simp only[qsx,qr3,qrl]
  ·omega
 ·have a:x≠0:=by rintro rfl;simp at c
  have b:y≠0:=by rintro rfl;simp at c
  rw[m a,n b];rcases Int.lt_or_gt_of_ne a with a|a<;> rcases Int.lt_or_gt_of_ne b with b|b
  ·have:=Int.mul_pos_of_neg_of_neg a b
   simp[a,b];omega
  ·have:=qvn a b
   simp[a,this];omega
  ·have:=Int.mul_neg_of_pos_of_neg a b
   simp[b,this];omega
  ·have:=Int.mul_pos a b
   have f: ¬x<0:=by omega
   have g: ¬y<0:=by omega
   have i: ¬x*y<0:=by omega
   simp[f,g,i]
theorem RepD.sum{x y:Int}{d e:Datum}(h:RepD x d)(g:RepD y e):∃r,d.sum e=some r/\RepD (x+y) r:=by
 obtain⟨s,k,rfl,o⟩:=h;obtain⟨t,j,rfl,c⟩:=g;obtain⟨m,u⟩:∃m,m=max k j:=⟨_,rfl⟩;have i:min (-(k:Int)) (-(j:Int))= -(m:Int):=by omega
 have n:k+(-(k:Int)- -(m:Int)).toNat=m:=by omega
 have l:j+(-(j:Int)- -(m:Int)).toNat=m:=by omega
 have c:Ieee.signed s (x.natAbs*2^k) (-(k:Int)- -(m:Int)).toNat+Ieee.signed t (y.natAbs*2^j) (-(j:Int)- -(m:Int)).toNat=(x+y)*((2^m:Nat):Int):=by rw[znn o,znn c,n,l,Int.add_mul]
 have w:0<2^m:=qsn m;refine⟨_,rfl,?_⟩;simp only[i,c];generalize x+y=z;refine⟨if z*((2^m:Nat):Int)=0 then s&&t else decide (z*((2^m:Nat):Int)<0),m,?_,fun f=>?_⟩
 ·rw[qvm,Int.natAbs_natCast]
 ·have q: ¬z*((2^m:Nat):Int)=0:=by
   rw[Int.mul_eq_zero];rintro(a|a)
   ·exact f a
   ·omega
  rw[if_neg q];have b:(0:Int)<((2^m:Nat):Int):=by omega
  generalize((2^m:Nat):Int)=p at*;congr 1
  rw[eq_iff_iff];constructor
  ·intro a
   exact qvd fun v=>by have:=qux (show 0<=z by omega) (show 0<=p by omega);omega
  ·intro a
   exact qvn a b
theorem RepD.toInt{x:Int}{d:Datum}(h:RepD x d):d.toInt .zero=some x:=by
 obtain⟨s,k,rfl,e⟩:=h;have b:(-(k:Int)).toNat=0:=by omega
 have c:(-(-(k:Int))).toNat=k:=by omega
 have a:=znn e 0 0;rw[quz,qq7] at a;simp only[Datum.toInt,Datum.integral,b,c,Nat.shiftLeft_zero,zqw];rw[a];simp
theorem zw5(n:Int)(h:n.natAbs<9007199254740992):Rep n (floatOfInt .f64 n):=by have:RepD n (.number (n<0) n.natAbs 0):=⟨decide (n<0),0,by simp,fun _=>rfl⟩;exact this.write h
theorem zuz{x y:Int}{a b:Nat}(h:Rep x a)(c:Rep y b)(f:(x*y).natAbs<9007199254740992):∃r,floatBits .mul .f64 a b=some r/\Rep (x*y) r:=by obtain⟨r,d,e⟩:=RepD.product h c;exact⟨Ieee.double.write r,by show((Ieee.double.read a).product (Ieee.double.read b)).map Ieee.double.write=_;rw[d];rfl,e.write f⟩
theorem qk9{x y:Int}{a b:Nat}(h:Rep x a)(c:Rep y b)(f:(x+y).natAbs<9007199254740992):∃r,floatBits .add .f64 a b=some r/\Rep (x+y) r:=by obtain⟨r,d,e⟩:=RepD.sum h c;exact⟨Ieee.double.write r,by show((Ieee.double.read a).sum (Ieee.double.read b)).map Ieee.double.write=_;rw[d];rfl,e.write f⟩
theorem zz8{x y:Int}{a b:Nat}(h:Rep x a)(c:Rep y b)(f:(x-y).natAbs<9007199254740992):∃r,floatBits .sub .f64 a b=some r/\Rep (x-y) r:=by obtain⟨r,d,e⟩:=RepD.sum h (RepD.opposite c);exact⟨Ieee.double.write r,by show((Ieee.double.read a).sum (Ieee.double.read b).opposite).map Ieee.double.write=_;rw[d];rfl,e.write f⟩
theorem zz9{x:Int}{a:Nat}(h:Rep x a)(c: -9223372036854775808<=x/\x<=9223372036854775807):floatToIntVal .f64 a .i64=some x:=by have b:(FloatKind.f64.decode a).toInt .zero=some x:=RepD.toInt h;unfold floatToIntVal;rw[b];exact if_pos c
def z5g(x y:Int)(a b:Nat):Prop:=Rep x a/\Rep y b
theorem qgb{x y u v:Int}{a b c d:Nat}(h:z5g x y a b)(e:z5g u v c d)(m:(x*u).natAbs<9007199254740992)(n:(y*v).natAbs<9007199254740992)(o:(x*u-y*v).natAbs<9007199254740992)
 (p:(x*v).natAbs<9007199254740992)(q:(y*u).natAbs<9007199254740992)(r:(x*v+y*u).natAbs<9007199254740992):∃re im,cMulBits a b c d=some (re,im)/\z5g (x*u-y*v) (x*v+y*u) re im:=by
 obtain⟨E,f,s⟩:=zuz h.1 e.1 m;obtain⟨F,g,t⟩:=zuz h.2 e.2 n;obtain⟨C,i,w⟩:=zz8 s t o;obtain⟨G,j,z⟩:=zuz h.1 e.2 p;obtain⟨H,k,A⟩:=zuz h.2 e.1 q;obtain⟨D,l,B⟩:=qk9 z A r;exact⟨C,D,by simp[cMulBits,f,g,i,j,k,l],w,B⟩
theorem qgc{x y u v:Int}{a b c d:Nat}(h:z5g x y a b)(e:z5g u v c d)(i:(x-u).natAbs<9007199254740992)(j:(y-v).natAbs<9007199254740992):∃re im,cSumBits .sub .f64 a b c d=some (re,im)/\z5g (x-u) (y-v) re im:=by obtain⟨m,f,k⟩:=zz8 h.1 e.1 i;obtain⟨n,g,l⟩:=zz8 h.2 e.2 j;exact⟨m,n,by simp[cSumBits,f,g],k,l⟩
theorem qgd(f:Format)(b:Nat):f.read (b ^^^ 2^(f.exponentBits+f.fractionBits))=(f.read b).opposite:=by
 have k:f.signWeight=2^(f.exponentBits+f.fractionBits):=rfl;generalize m:f.exponentBits+f.fractionBits=n at*;have l:=qsn n;have i:((b ^^^ 2^n)/2^n%2==1)= !(b/2^n%2==1):=by
  rw[Nat.xor_div_two_pow,Nat.div_self l];generalize b/2^n=c;have e:(c ^^^ 1)%2=(c%2) ^^^ 1:=by have:= @Nat.xor_mod_two_pow c 1 1;simpa using this
  rw[e];rcases Nat.mod_two_eq_zero_or_one c with h|h
  ·rw[h]
   rfl
  ·rw[h]
   rfl
 have j:(b ^^^ 2^n)%2^n=b%2^n:=by rw[Nat.xor_mod_two_pow,Nat.mod_self,Nat.xor_zero]
 unfold Format.read;rw[k];simp only[i,j];generalize b%2^n=R;by_cases a:R<f.binade
 ·rw[if_pos a,if_pos a]
  rfl
 ·rw[if_neg a,if_neg a]
  by_cases d:R<f.infRung
  ·rw[if_pos d,if_pos d]
   rfl
  ·rw[if_neg d,if_neg d]
   by_cases g:R=f.infRung
   ·rw[if_pos g,if_pos g]
    rfl
   ·rw[if_neg g,if_neg g]
    rfl
theorem qla{x:Int}{b:Nat}(h:Rep x b):Rep (-x) (Op.negFloat .f64 b):=by have:=RepD.opposite h;rw[<-qgd] at this;exact this
theorem z5h(k:FloatKind)(b:Nat):Op.unary .neg (.float k b)=pure (.float k (Op.negFloat k b)):=rfl
theorem qaf{x y:Int}{a b:Nat}(h:z5g x y a b)(c: -2097152<=x/\x<=2097152)(d: -2097152<=y/\y<=2097152):∃re im,cMulBits a b a (Op.negFloat .f64 b)=some (re,im)/\floatToIntVal .f64 re .i64=some (x*x+y*y):=by
 have q:∀u v:Int,-2097152<=u/\u<=2097152-> -2097152<=v/\v<=2097152-> -4398046511104<=u*v/\u*v<=4398046511104:=by
  intro u v m n;have f:(u*v).natAbs<=2097152*2097152:=by rw[qvm];exact quy (by omega) (by omega)
  omega
 have f:=q x x c c;have j:=q y (-y) d (by omega);have k:=q x (-y) c (by omega);have l:=q y x d c;have e:y* -y= -(y*y):=by rw[Int.mul_neg]
 obtain⟨re,im,g,i⟩:=qgb h ⟨h.1,qla h.2⟩ (by omega) (by omega) (by omega) (by omega) (by omega) (by omega);refine⟨re,im,g,?_⟩;have:=zz9 i.1 (by omega);rw[this,e,Int.sub_neg]
end Go.Hm
namespace Go.Proofs.Y
open Go.RowKit Go.Hm
def qlb(x y:Int)(w:World)(e:Ending)(w':World):Prop:=∃a b,e= .returned (.complex .f64 a b)/\z5g x y a b/\New w w'
theorem zno{w:World}{x y:Int}(d:x.natAbs<9007199254740992)(e:y.natAbs<9007199254740992):
 Calls Tryz.prog 204 #[.agg #[.int .i64 x,.int .i64 y]] w (qlb x y w):=by
 obtain⟨c,a⟩:∃W,W=w.alloc (.cells #[.int .i64 x,.int .i64 y] 73):=⟨_,rfl⟩;have f:New w c:=by rw[a];exact(qwd _ _).alloc (qq0 _) _
 have b:Blk c w.heap.size 73 #[.int .i64 x,.int .i64 y]:=by rw[a];exact qw1 _ _ _
 obtain⟨g,h⟩:=zb3 b;rw[a] at g h;have R:=qwk (show z5g x y (floatOfInt .f64 x) (floatOfInt .f64 y) from⟨zw5 x d,zw5 y e⟩);clear b d e;go_enter Tryz.func204,Tryz.ntmps204
 go_wp2
 go_ret
 exact⟨_,_,rfl,R.out,by rw[<-a];exact f⟩
theorem z2k{w:World}{x y:Int}(o: -2097152<=x/\x<=2097152)(p: -2097152<=y/\y<=2097152):
 Calls Tryz.prog 187 #[.agg #[.int .i64 x,.int .i64 y]] w (zap (.int .i64 (x*x+y*y)) w):=by
 obtain⟨d,c⟩:∃W,W=w.alloc (.cells #[.int .i64 x,.int .i64 y] 73):=⟨_,rfl⟩;have j:New w d:=by rw[c];exact(qwd _ _).alloc (qq0 _) _
 have g:Blk d w.heap.size 73 #[.int .i64 x,.int .i64 y]:=by rw[c];exact qw1 _ _ _
 obtain⟨r,s⟩:=zb3 g;rw[c] at r s;have P:=qwk (zno (w:=d) (x:=x) (y:=y) (by omega) (by omega));have i:=qwk (fun(a b:Nat) (h:z5g x y a b)=>qaf h o p);have v:=qwk c;have t:=qwk j;clear g o p c j;go_enter Tryz.func187,Tryz.ntmps187
 go_wp2_with fail
 rw[<-v.out];refine P.out.mono ?_;rintro e B ⟨a,b,rfl,n,z⟩;obtain⟨q,A,k,l⟩:=i.out a b n;have u:=z5h .f64 b;have m:=fun w:World=>run_complex_mul (P:=Tryz.prog) w 262 a b a (Op.negFloat .f64 b) q A k
 have f:=fun w:World=>run_convert_float_int (P:=Tryz.prog) w 264 3 .f64 .i64 q _ (by kernel_rfl) (by kernel_rfl) l
 clear r s k l n P i;go_wp2
 go_ret
 exact⟨rfl,qw5 t.out z⟩
end Go.Proofs.Y
namespace Go.Hm
open Go Go.RowKit
def orI:List Int->Int
 | []=>0
 |x::l=>if x=0 then orI l else x
theorem qnd{l:List Int}{k:Nat}(h:∀j,j<k->l.getD j 0=0)(a:k<l.length)(b:l.getD k 0≠0):orI l=l.getD k 0:=by
 induction l generalizing k with
 |nil=>simp at a
 |cons x l d=>
  cases k with
  |zero=>
   have:x≠0:=by simpa using b
   simp[orI,this]
  |succ k=>
   have c:x=0:=by simpa using h 0 (by omega)
   have:=d (k:=k) (fun j e=>by simpa using h (j+1) (by omega)) (by simpa using a) (by simpa using b);simp[orI,c,this]
theorem qge{l:List Int}(h:∀j,j<l.length->l.getD j 0=0):orI l=0:=by
 induction l with
 |nil=>rfl
 |cons x l c=>
  have b:x=0:=by simpa using h 0 (by simp)
  have:=c (fun j a=>by simpa using h (j+1) (by simpa using a));simp[orI,b,this]
def cmpP(x y u v:Int):Int:=orI [zja (x*x+y*y) (u*u+v*v),zja x u,zja y v]
theorem qag(x:Int):zja x x=0:=by simp[zja]
end Go.Hm
namespace Go.Proofs.Y
open Go.RowKit Go.Hm
theorem qne{w:World}{A:Option Addr}{n c:Nat}{l:List Int}(h:Reads w w.heap.size 1 A n (za5 .i64 l))(g:n<=4611686018427387903):
 Calls Tryz.prog 186 #[.slice A n c] w (zd5 (.int .i64 (orI l)) w):=by
 obtain rfl:=h.lenI;have e:=qwk (fun(k:Nat) (h:∀j,j<k->l.getD j 0=0) (r:k<l.length) (g:l.getD k 0≠0)=>qnd h r g);have q:=qwk (fun(h:∀j,j<l.length->l.getD j 0=0)=>qge h);generalize orI l=O at*;go_enter Tryz.func186,Tryz.ntmps186
 go_wp2
 go_loop [8] (fun i=>∃k:Nat,k<=l.length/\i= .int .i64 (k:Int)/\Hid (∀j,j<k->l.getD j 0=0)) (fun i=>l.length-(intOf i).toNat)
 case atStart=>exact⟨0,by omega,rfl,qwk (by intro j f;omega)⟩
 case round=>
  obtain⟨k,r,rfl,H⟩:=hrel;by_cases a:k<l.length
  ·obtain⟨u,rfl,s,p⟩:=h.int a
   have o:=qwk (fun(g:l.getD k 0≠0)=>e.out k H.out a g);have m:=qwk (fun(t:l.getD k 0=0)=>show∀j,j<k+1->l.getD j 0=0 by
    intro j f;rcases qvo.1 f with f|rfl
    ·exact H.out j f
    ·exact t)
   generalize l.getD k 0=x at*;by_cases d:x=0
   ·have b:=qwk (m.out d)
    subst d;clear m o e H;go_wp2
    go_round
    case rel=>exact⟨k+1,by omega,by go_num,b⟩
    case measure=>simp[intOf];omega
   ·have b:=qwk (o.out d)
    have v:(x != 0)=true:=by simpa using d
    clear m o e H d;go_wp2
    go_ret
    exact⟨by rw[b.out];rfl,rfl⟩
  ·obtain rfl:k=l.length:=by omega
   have b:=qwk (q.out H.out);clear e q H a;go_wp2
   go_ret
   exact⟨by rw[b.out];rfl,rfl⟩
theorem zw6{w:World}{x y u v:Int}(r: -2097152<=x/\x<=2097152)(s: -2097152<=y/\y<=2097152)(p: -2097152<=u/\u<=2097152)(q: -2097152<=v/\v<=2097152):
 Calls Tryz.prog 166 #[.agg #[.int .i64 x,.int .i64 y],.agg #[.int .i64 u,.int .i64 v]] w (zap (.int .i64 (cmpP x y u v)) w):=by
 obtain⟨g,b⟩:∃W,W=(w.alloc (.cells #[.int .i64 x,.int .i64 y] 73)).alloc (.cells #[.int .i64 u,.int .i64 v] 73):=⟨_,rfl⟩;have n:New w g:=by rw[b];exact((qwd _ _).alloc (qq0 _) _).alloc (by simp) _
 have i:Blk g w.heap.size 73 #[.int .i64 x,.int .i64 y]:=by rw[b];exact(qw1 _ _ _).alloc _
 have j:Blk g (w.heap.size+1) 73 #[.int .i64 u,.int .i64 v]:=by rw[b];have:=qw1 (w.alloc (.cells #[.int .i64 x,.int .i64 y] 73)) 73 #[.int .i64 u,.int .i64 v];simpa using this
 have t:=qwk (fun(W:World) (f:New g W)=>zb3 (i.below f i.lt));have z:=qwk (fun(W:World) (f:New g W)=>zb3 (j.below f j.lt));have D:=qwk (fun(W:World)=>z2k (w:=W) r s);have E:=qwk (fun(W:World)=>z2k (w:=W) p q);have C:=qwk b;have A:=qwk n;have B:=qwk (show cmpP x y u v=orI [zja (x*x+y*y) (u*u+v*v),zja x u,zja y v] from rfl);generalize cmpP x y u v=O at*;generalize x*x+y*y=l at*;generalize u*u+v*v=k at*;clear i j r s p q b n;go_enter Tryz.func166,Tryz.ntmps166
 go_wp2_with fail
 rw[<-C.out];refine zav New [(true,0),(true,2),(true,5),(true,6),(true,7),(true,8),(true,10),(true,11),(true,12),(true,13),(false,1),(false,3),(false,4),(false,9),(false,14),(false,15),(false,16),(true,17)]
  qw4 qw5 (by kernel_rfl) (by kernel_rfl) (by kernel_rfl) (by kernel_rfl) ?_
 have d:=qw6 g;repeat(first
  |(refine zas rfl rfl (v:=?_) (fun W f=>?_) ?_;rotate_left;(obtain⟨G,H⟩:=t.out W (qw5 d f);obtain⟨I,J⟩:=z.out W (qw5 d f);go_simp<;> with_reducible rfl);simp only[Act.put,qta,qs1,qtb])
  |(refine za7 rfl rfl (fun K a=>?_);go_simp
    first
     |(with_reducible refine(D.out _).mono ?_)
     |(with_reducible refine(E.out _).mono ?_)
    rintro e h ⟨rfl,c⟩;refine a _ _ c ?_;clear a;replace d:=qw5 d c)
  |(refine za7 rfl rfl (fun K a=>?_);go_simp
    (with_reducible refine cmpI_any.mono ?_)
    rintro e h ⟨rfl,rfl⟩;refine a _ _ (qw4 _) ?_;clear a))
 have o:New h (h.alloc (.cells #[.int .i64 (zja l k),.int .i64 (zja x u),.int .i64 (zja y v)] 3)):=(qwd _ _).alloc (qq0 _) _;have m:=qwk (qne (c:=3) (qxi h 3 #[.int .i64 (zja l k),.int .i64 (zja x u),.int .i64 (zja y v)] 3 (za5 .i64 [zja l k,zja x u,zja y v]) rfl rfl) (by omega));rw[<-B.out] at m;refine za7 rfl rfl (fun K a=>?_);go_simp
 refine a _ _ o ?_;clear a;refine za7 rfl rfl (fun K a=>?_);go_simp
 refine m.out.mono ?_;rintro e F ⟨rfl,rfl⟩;refine a _ _ (qw4 _) ?_;clear a;replace d:=qw5 d o;refine zas rfl rfl (v:=?_) (fun W f=>?_) ?_;rotate_left
 ·go_simp<;> with_reducible rfl
 simp only[Act.put,qta,qs1,qtb];refine zdr ?_;go_wp2
 go_ret
 exact⟨rfl,qw5 A.out d⟩
end Go.Proofs.Y
