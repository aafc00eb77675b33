/- Merged. -/
import Derived.BigQuiet
import Derived.Test.YtbahbnbpmfgimaaGreatDoorBun5
set_option maxHeartbeats 2000000
namespace Go.Proofs.Y
open Go.RowKit Go.Hm
set_option maxRecDepth 100000 in
theorem z2e{w:World}(x y:Int):
 Calls Tryz.prog 124 #[.agg #[.int .i64 x,.int .i64 y],.int .i64 1048576] w (zal (.bool (inBox x y)) w):=by
 obtain⟨W0,hW0⟩:∃W,W=w.alloc (.cells #[.int .i64 x,.int .i64 y] 73):=⟨_,rfl⟩;have b0:New w W0:=by rw[hW0];exact(Below.refl _ _).alloc (Nat.le_refl _) _
 have B0:Blk W0 w.heap.size 73 #[.int .i64 x,.int .i64 y]:=by rw[hW0];exact Blk.new _ _ _
 obtain⟨x0,x1⟩:=zbw B0;have HO:=Hz (show inBox x y=(decide (-1048576<=x)&&decide (x<=1048576)&&decide (-1048576<=y)&&decide (y<=1048576)) from rfl);generalize inBox x y=O at*;rw[hW0] at x0 x1;clear B0;cases h1:decide (-1048576<=x)<;> cases h2:decide (x<=1048576)<;> cases h3:decide (-1048576<=y)<;> cases h4:decide (y<=1048576);all_goals
  rw[h1,h2,h3,h4] at HO;go_enter Tryz.func124,Tryz.ntmps124
  go_wp2
  go_ret
  exact⟨by rw[HO.out];rfl,by rw[<-hW0];exact b0⟩
set_option maxRecDepth 100000 in
theorem zq6{w:World}(x y:Int):
 Calls Tryz.prog 107 #[.agg #[.int .i64 x,.int .i64 y]] w (zal (.bool (inBox x y)) w):=by
 obtain⟨W0,hW0⟩:∃W,W=w.alloc (.cells #[.int .i64 x,.int .i64 y] 73):=⟨_,rfl⟩;have b0:New w W0:=by rw[hW0];exact(Below.refl _ _).alloc (Nat.le_refl _) _
 have B0:Blk W0 w.heap.size 73 #[.int .i64 x,.int .i64 y]:=by rw[hW0];exact Blk.new _ _ _
 obtain⟨x0,x1⟩:=zbw B0;rw[hW0] at x0 x1;clear B0;go_enter Tryz.func107,Tryz.ntmps107
 go_wp2_with (first
  |(go_at_call 124;refine(z2e x y).mono ?_;rintro e w' ⟨rfl,b1⟩))
 go_ret
 exact⟨rfl,New.trans b0 (by rw[hW0];exact b1)⟩
end Go.Proofs.Y
namespace Go.Hm
def shr:List Nat->List Nat->Nat
 |a::l,b::m=>if a=b then shr l m+1 else 0
 |_,_=>0
theorem zo8:∀a b:List Nat,shr a b<=a.length
 | [],_=>by simp[shr]
 |_::_,[]=>by simp[shr]
 |a::l,b::m=>by
  simp only[shr];split
  ·have:=zo8 l m;simp;exact this
  ·simp
theorem zir:∀a b:List Nat,shr a b<=b.length
 | [],_=>by simp[shr]
 |_::_,[]=>by simp[shr]
 |a::l,b::m=>by
  simp only[shr];split
  ·have:=zir l m;simp;exact this
  ·simp
theorem qej:∀(a b:List Nat) (n:Nat),n<=a.length->n<=b.length->a.take n=b.take n->(n=a.length\/n=b.length\/ ¬a.getD n 0=b.getD n 0)->shr a b=n
 | [],_,n,h1,_,_,_=>by simp at h1;simp[shr,h1]
 |_::_,[],n,_,h2,_,_=>by simp at h2;simp[shr,h2]
 |a::l,b::m,0,_,_,_,h=>by
  simp only[shr];rcases h with h|h|h
  ·simp at h
  ·simp at h
  ·simp at h;rw[if_neg h]
 |a::l,b::m,n+1,h1,h2,h3,h=>by
  simp only[List.take_succ_cons,List.cons.injEq] at h3;simp only[shr];rw[if_pos h3.1,qej l m n (by simpa using h1) (by simpa using h2) h3.2 (by simpa using h)]
def zt0(l:List (List Nat)):Nat:=(l.map List.length).sum
theorem z7b(s:List Nat)(l:List (List Nat)):zt0 (s::l)=s.length+zt0 l:=by simp[zt0]
theorem zx4(l m:List (List Nat)):zt0 (l++m)=zt0 l+zt0 m:=by simp[zt0]
theorem zu1(l:List (List Nat))(k:Nat):zt0 (l.take k)<=zt0 l:=by
 conv=>rhs;rw[<-List.take_append_drop k l,zx4]
 omega
def qad(l:List (List Nat)):Bool:=decide (l.length<=65536/\(∀s∈l,s.length<=65536)/\zt0 l<=16777216)
theorem zje(l:List (List Nat)):qad l=true↔l.length<=65536/\(∀s∈l,s.length<=65536)/\zt0 l<=16777216:=by simp[qad]
theorem qce{l:List (List Nat)}(h:65536<l.length):qad l=false:=by rw[Bool.eq_false_iff,Ne,zje];omega
theorem qcf{l:List (List Nat)}{k:Nat}(hk:k<l.length)(h:65536<(l.getD k []).length):qad l=false:=by rw[Bool.eq_false_iff,Ne,zje];rintro⟨_,h2,_⟩;have:=h2 (l.getD k []) (by rw[List.getD_eq_getElem?_getD,List.getElem?_eq_getElem hk];exact List.getElem_mem hk);omega
theorem qcg{l:List (List Nat)}{k:Nat}(h:16777216<zt0 (l.take k)):qad l=false:=by rw[Bool.eq_false_iff,Ne,zje];rintro⟨_,_,h3⟩;have:=zu1 l k;omega
theorem qch{l:List (List Nat)}(h1:l.length<=65536)(h2:∀s∈l,s.length<=65536)(h3:zt0 l<=16777216):qad l=true:=(zje l).2 ⟨h1,h2,h3⟩
theorem zu2(l:List (List Nat))(s:List Nat):zt0 (l++[s])=zt0 l+s.length:=by simp[zt0]
def fpiece(a s:List Nat):List Nat:=vp (shr a s)++vp (s.length-shr a s)++s.drop (shr a s)
def zx5:List Nat->List (List Nat)->List Nat
 |_,[]=>[]
 |a,s::l=>fpiece a s++zx5 s l
def zqo(a:List Nat)(l:List (List Nat)):List Nat:=l.getLast?.getD a
theorem z2r(a s:List Nat)(l:List (List Nat)):zqo a (l++[s])=s:=by simp[zqo]
theorem z7c(a s:List Nat)(l:List (List Nat)):zx5 a (l++[s])=zx5 a l++fpiece (zqo a l) s:=by
 induction l generalizing a with
 |nil=>simp[zx5,zqo]
 |cons x l ih=>
  rw[List.cons_append,zx5,ih x,zx5,List.append_assoc];congr 3
  cases l with
  |nil=>simp[zqo]
  |cons y l=>simp[zqo,List.getLast?_eq_some_getLast]
theorem zz8(a:List Nat)(l:List (List Nat))(h:∀s∈l,s.length<=65536):(zx5 a l).length<=20*l.length+zt0 l:=by
 induction l generalizing a with
 |nil=>simp[zx5]
 |cons s l ih=>
  have h1:=ih s (fun x hx=>h x (by simp[hx]));have h2:=h s (by simp);have k2:=zir a s;have v1:=zap (n:=shr a s) (by omega);have v2:=zap (n:=s.length-shr a s) (by omega);rw[zx5,fpiece,z7b,List.length_cons];simp only[List.length_append,List.length_drop];omega
theorem zu3{Q:List Nat->Prop}{a:List Nat}(l:List (List Nat))(ha:Q a)(h:∀s∈l,Q s):Q (zqo a l):=by
 unfold zqo;cases hl:l.getLast? with
 |none=>exact ha
 |some x=>exact h x (List.mem_of_getLast? hl)
def qek(l:List (List Nat)):Option (List Nat):=if qad l then some (zx5 [] l) else none
theorem zz9:∀(k n:Nat),n<=k-> ∀x∈vp n,x<256:=by
 intro k;induction k using Nat.strongRecOn with
 |ind k ih=>
  intro n hk x hx;by_cases hn:n<128
  ·rw[zfz hn] at hx;simp at hx;omega
  ·rw[zf0 hn,List.mem_cons] at hx
   rcases hx with hx|hx
   ·omega
   ·exact ih (n/128) (by omega) (n/128) (Nat.le_refl _) x hx
theorem qgn(a:List Nat)(l:List (List Nat))(h:∀s∈l,∀x∈s,x<256):∀x∈zx5 a l,x<256:=by
 induction l generalizing a with
 |nil=>simp[zx5]
 |cons s l ih=>
  intro x hx;rw[zx5,fpiece] at hx;simp only[List.mem_append] at hx;rcases hx with((hx|hx)|hx)|hx
  ·exact zz9 _ _ (Nat.le_refl _) x hx
  ·exact zz9 _ _ (Nat.le_refl _) x hx
  ·exact h s (by simp) x (List.mem_of_mem_drop hx)
  ·exact ih s (fun y hy=>h y (by simp[hy])) x hx
theorem qgo{l:List (List Nat)}{b:List Nat}(h:∀s∈l,∀x∈s,x<256)(hb:qek l=some b):∀x∈b,x<256:=by
 unfold qek at hb;split at hb
 ·injection hb with hb
  rw[<-hb];exact qgn [] l h
 ·cases hb
open Ieee
theorem dbl:Ieee.double.fractionBits=52/\Ieee.double.exponentBits=11:=⟨rfl,rfl⟩
theorem zk6:Ieee.double.leastPlace= -1074:=by decide
theorem zra:Ieee.double.binade=4503599627370496:=by decide
theorem z7e:Ieee.double.infRung=9218868437227405312:=by decide
theorem z0a:Ieee.double.signWeight=9223372036854775808:=by decide
theorem zo9(way:Toward)(neg:Bool)(n d:Nat):way.cut neg (n*2^d) d=n:=by
 by_cases h0:n=0
 ·subst h0
  unfold Toward.cut;simp only[Nat.zero_mul,Nat.zero_div,Nat.zero_mod];cases way<;> simp
 ·have hl:d<=(n*2^d).log2:=by
   rw[Nat.le_log2 (by have:=Nat.two_pow_pos d;exact Nat.mul_ne_zero h0 (by omega))];exact Nat.le_mul_of_pos_left _ (by omega)
  have hm:min d ((n*2^d).log2+2)=d:=Nat.min_eq_left (by omega);unfold Toward.cut;simp only[hm,Nat.one_shiftLeft,Nat.mul_div_cancel _ (Nat.two_pow_pos d),Nat.mul_mod_left];have hp:=Nat.two_pow_pos d;cases way<;> simp<;> omega
theorem zu4{n:Nat}(h:n≠0)(k:Nat):(n*2^k).log2=n.log2+k:=by
 have hp:=Nat.two_pow_pos k;have h1:2^(n.log2+k)<=n*2^k:=by rw[Nat.pow_add];exact Nat.mul_le_mul_right _ (Nat.log2_self_le h)
 have h2:n*2^k<2^(n.log2+k+1):=by rw[show n.log2+k+1=(n.log2+1)+k by omega,Nat.pow_add];exact Nat.mul_lt_mul_of_pos_right (Nat.lt_log2_self) hp
 have hne:n*2^k≠0:=Nat.mul_ne_zero h (by omega);have a1:=(Nat.le_log2 hne).2 h1;have a2:=(Nat.log2_lt hne).2 h2;omega
theorem zu5(f:Format)(s:Bool)(R:Nat)(hR:R<f.signWeight):f.read (f.word s R)=
 if R<f.binade then .number s R f.leastPlace
 else if R<f.infRung then .number s (f.binade+R%f.binade) (f.leastPlace+(R/f.binade-1:Nat))
 else if R=f.infRung then .infinity s else .nan s (R-f.infRung):=by
 have h1:(f.word s R/f.signWeight%2==1)=s:=by
  unfold Format.word;cases s with
  |false=>
   rw[if_neg (by simp),Nat.div_eq_of_lt hR];rfl
  |true=>
   rw[if_pos rfl,Nat.add_div_left _ (by omega),Nat.div_eq_of_lt hR];rfl
 have h2:f.word s R%f.signWeight=R:=by
  unfold Format.word;cases s with
  |false=>rw[if_neg (by simp),Nat.mod_eq_of_lt hR]
  |true=>rw[if_pos rfl,Nat.add_mod_left,Nat.mod_eq_of_lt hR]
 unfold Format.read;simp only[h1,h2]
theorem zu6(s:Bool)(n k:Nat)(hn:n<9007199254740992):∃k':Nat,Ieee.double.read (Ieee.double.nearest s (n*2^k) (-(k:Int)))= .number s (n*2^k') (-(k':Int)):=by
 by_cases h0:n=0
 ·subst h0
  obtain⟨j,hj⟩:∃j:Nat,Ieee.double.leastPlace= -(j:Int):=⟨1074,by rw[zk6];rfl⟩;refine⟨j,?_⟩;rw[Nat.zero_mul,Nat.zero_mul,Format.nearest,if_pos rfl,zu5 _ _ _ (by rw[z0a];omega),if_pos (by rw[zra];omega),hj]
 ·have hp:=Nat.two_pow_pos k
  have hne:n*2^k≠0:=Nat.mul_ne_zero h0 (by omega);have hlog:n.log2<=52:=by have:=(Nat.log2_lt h0).2 (show n<2^53 by omega);omega
  have e1:(-(k:Int))+((n*2^k).log2:Nat)-(52:Nat)=(n.log2:Int)-52:=by rw[zu4 h0];omega
  obtain⟨d,hd⟩:∃d,d=52-n.log2:=⟨_,rfl⟩;have hlast:max ((-(k:Int))+((n*2^k).log2:Nat)-(Ieee.double.fractionBits:Nat)) Ieee.double.leastPlace= -(d:Int):=by rw[dbl.1,e1,zk6];omega
  have hkept:Toward.even.cut s ((n*2^k) <<< ((-(k:Int))- -(d:Int)).toNat) (-(d:Int)- -(k:Int)).toNat=n*2^d:=by
   by_cases hkd:k<=d
   ·rw[show((-(k:Int))- -(d:Int)).toNat=d-k by omega,show(-(d:Int)- -(k:Int)).toNat=0 by omega,Nat.shiftLeft_eq,Nat.mul_assoc,<-Nat.pow_add,show k+(d-k)=d by omega]
    have:=zo9 .even s (n*2^d) 0;rwa[Nat.pow_zero,Nat.mul_one] at this
   ·rw[show((-(k:Int))- -(d:Int)).toNat=0 by omega,show(-(d:Int)- -(k:Int)).toNat=k-d by omega,Nat.shiftLeft_eq,Nat.pow_zero,Nat.mul_one]
    have:=zo9 .even s (n*2^d) (k-d);rwa[Nat.mul_assoc,<-Nat.pow_add,show d+(k-d)=k by omega] at this
  have hlo:4503599627370496<=n*2^d:=by have:=Nat.mul_le_mul_right (2^d) (Nat.log2_self_le h0);rw[<-Nat.pow_add,show n.log2+d=52 by omega] at this;exact Nat.le_trans (by decide) this
  have hhi:n*2^d<9007199254740992:=by have:=Nat.mul_lt_mul_of_pos_right (Nat.lt_log2_self (n:=n)) (Nat.two_pow_pos d);rw[<-Nat.pow_add,show n.log2+1+d=53 by omega] at this;exact Nat.lt_of_lt_of_le this (by decide)
  refine⟨d,?_⟩;have hd2:d<=52:=by omega
  have hw:Ieee.double.nearest s (n*2^k) (-(k:Int))=Ieee.double.word s (min ((-(d:Int)-Ieee.double.leastPlace).toNat*Ieee.double.binade+n*2^d) Ieee.double.infRung):=by unfold Format.nearest;rw[if_neg hne];simp only[hlast,hkept]
  clear hlast hkept hlog e1 hd hne hp h0 hn;generalize Ieee.double.nearest s (n*2^k) (-(k:Int))=V at*;generalize n*2^d=K at*;rw[hw,zu5 _ _ _ (by rw[z0a,z7e];omega)];have e2:(-(d:Int)-Ieee.double.leastPlace).toNat=1074-d:=by rw[zk6];omega
  rw[e2,zra,z7e,zk6];generalize hm:1074-d=m;have hm2:m<=1074/\1022<=m:=by omega
  have hr:min (m*4503599627370496+K) 9218868437227405312=m*4503599627370496+K:=Nat.min_eq_left (by omega);rw[hr];have r1: ¬m*4503599627370496+K<4503599627370496:=by omega
  have r2:m*4503599627370496+K<9218868437227405312:=by omega
  have r3:4503599627370496+(m*4503599627370496+K)%4503599627370496=K:=by omega
  have r4:(m*4503599627370496+K)/4503599627370496-1=m:=by omega
  have r5:(-1074:Int)+(m:Int)= -(d:Int):=by omega
  rw[if_neg r1,if_pos r2,r3,r4,r5]
def RepD(x:Int)(d:Datum):Prop:=∃(s:Bool) (k:Nat),d= .number s (x.natAbs*2^k) (-(k:Int))/\(x≠0->s=decide (x<0))
def Rep(x:Int)(b:Nat):Prop:=RepD x (Ieee.double.read b)
theorem zl6{s:Bool}{x:Int}(h:x≠0->s=decide (x<0))(k u:Nat):Ieee.signed s (x.natAbs*2^k) u=x*((2^(k+u):Nat):Int):=by
 have e:(x.natAbs*2^k) <<< u=x.natAbs*2^(k+u):=by rw[Nat.shiftLeft_eq,Nat.mul_assoc,<-Nat.pow_add]
 unfold Ieee.signed;rw[e];generalize 2^(k+u)=p;by_cases h0:x=0
 ·subst h0
  cases s<;> simp
 ·by_cases hx:x<0
  ·rw[h h0,decide_eq_true hx,if_pos rfl,Int.natCast_mul,show((x.natAbs:Nat):Int)= -x by omega,Int.neg_mul,Int.neg_neg]
  ·rw[h h0,decide_eq_false hx,if_neg (by simp),Int.natCast_mul,show((x.natAbs:Nat):Int)=x by omega]
theorem RepD.write{x:Int}{d:Datum}(h:RepD x d)(hx:x.natAbs<9007199254740992):Rep x (Ieee.double.write d):=by obtain⟨s,k,rfl,hs⟩:=h;obtain⟨j,hj⟩:=zu6 s x.natAbs k hx;exact⟨s,j,hj,hs⟩
theorem RepD.opposite{x:Int}{d:Datum}(h:RepD x d):RepD (-x) d.opposite:=by
 obtain⟨s,k,rfl,hs⟩:=h;refine⟨!s,k,?_,fun h0=>?_⟩
 ·rw[Int.natAbs_neg]
  rfl
 ·rw[hs (by omega)]
  by_cases hx:x<0
  ·rw[decide_eq_true hx,decide_eq_false (by omega)]
   rfl
  ·rw[decide_eq_false hx,decide_eq_true (by omega)]
   rfl
theorem RepD.product{x y:Int}{d e:Datum}(h:RepD x d)(h2:RepD y e):∃r,d.product e=some r/\RepD (x*y) r:=by
 obtain⟨s,k,rfl,hs⟩:=h;obtain⟨t,j,rfl,ht⟩:=h2;refine⟨_,rfl,s ^^ t,k+j,?_,fun h0=>?_⟩
 ·rw[Int.natAbs_mul,Nat.pow_add]
  congr 1
  ·generalize 2^k=p
   generalize 2^j=q;simp only[Nat.mul_assoc,Nat.mul_left_comm,Nat.mul_comm]
  ·omega
 ·have hx:x≠0:=by rintro rfl;simp at h0
  have hy:y≠0:=by rintro rfl;simp at h0
  rw[hs hx,ht hy];rcases Int.lt_or_gt_of_ne hx with hx|hx<;> rcases Int.lt_or_gt_of_ne hy with hy|hy
  ·have:=Int.mul_pos_of_neg_of_neg hx hy
   simp[hx,hy];omega
  ·have:=Int.mul_neg_of_neg_of_pos hx hy
   simp[hx,this];omega
  ·have:=Int.mul_neg_of_pos_of_neg hx hy
   simp[hy,this];omega
  ·have:=Int.mul_pos hx hy
   have a1: ¬x<0:=by omega
   have a2: ¬y<0:=by omega
   have a3: ¬x*y<0:=by omega
   simp[a1,a2,a3]
theorem RepD.sum{x y:Int}{d e:Datum}(h:RepD x d)(h2:RepD y e):∃r,d.sum e=some r/\RepD (x+y) r:=by
 obtain⟨s,k,rfl,hs⟩:=h;obtain⟨t,j,rfl,ht⟩:=h2;obtain⟨m,hm⟩:∃m,m=max k j:=⟨_,rfl⟩;have hb:min (-(k:Int)) (-(j:Int))= -(m:Int):=by omega
 have hk:k+(-(k:Int)- -(m:Int)).toNat=m:=by omega
 have hj:j+(-(j:Int)- -(m:Int)).toNat=m:=by omega
 have ht:Ieee.signed s (x.natAbs*2^k) (-(k:Int)- -(m:Int)).toNat+Ieee.signed t (y.natAbs*2^j) (-(j:Int)- -(m:Int)).toNat=(x+y)*((2^m:Nat):Int):=by rw[zl6 hs,zl6 ht,hk,hj,Int.add_mul]
 have hp:0<2^m:=Nat.two_pow_pos m;refine⟨_,rfl,?_⟩;simp only[hb,ht];generalize x+y=z;refine⟨if z*((2^m:Nat):Int)=0 then s&&t else decide (z*((2^m:Nat):Int)<0),m,?_,fun h0=>?_⟩
 ·rw[Int.natAbs_mul,Int.natAbs_natCast]
 ·have hz: ¬z*((2^m:Nat):Int)=0:=by
   rw[Int.mul_eq_zero];rintro(hh|hh)
   ·exact h0 hh
   ·omega
  rw[if_neg hz];have hp2:(0:Int)<((2^m:Nat):Int):=by omega
  generalize((2^m:Nat):Int)=p at*;congr 1
  rw[eq_iff_iff];constructor
  ·intro hh
   exact Classical.byContradiction fun hn=>by have:=Int.mul_nonneg (show 0<=z by omega) (show 0<=p by omega);omega
  ·intro hh
   exact Int.mul_neg_of_neg_of_pos hh hp2
theorem RepD.toInt{x:Int}{d:Datum}(h:RepD x d):d.toInt .zero=some x:=by
 obtain⟨s,k,rfl,hs⟩:=h;have e1:(-(k:Int)).toNat=0:=by omega
 have e2:(-(-(k:Int))).toNat=k:=by omega
 have e3:=zl6 hs 0 0;rw[Nat.pow_zero,Nat.mul_one] at e3;simp only[Datum.toInt,Datum.integral,e1,e2,Nat.shiftLeft_zero,zo9];rw[e3];simp
theorem zu7(n:Int)(h:n.natAbs<9007199254740992):Rep n (floatOfInt .f64 n):=by have:RepD n (.number (n<0) n.natAbs 0):=⟨decide (n<0),0,by simp,fun _=>rfl⟩;exact this.write h
theorem zs6{x y:Int}{a b:Nat}(h:Rep x a)(h2:Rep y b)(hx:(x*y).natAbs<9007199254740992):∃r,floatBits .mul .f64 a b=some r/\Rep (x*y) r:=by obtain⟨r,h3,h4⟩:=RepD.product h h2;exact⟨Ieee.double.write r,by show((Ieee.double.read a).product (Ieee.double.read b)).map Ieee.double.write=_;rw[h3];rfl,h4.write hx⟩
theorem qgp{x y:Int}{a b:Nat}(h:Rep x a)(h2:Rep y b)(hx:(x+y).natAbs<9007199254740992):∃r,floatBits .add .f64 a b=some r/\Rep (x+y) r:=by obtain⟨r,h3,h4⟩:=RepD.sum h h2;exact⟨Ieee.double.write r,by show((Ieee.double.read a).sum (Ieee.double.read b)).map Ieee.double.write=_;rw[h3];rfl,h4.write hx⟩
theorem zx7{x y:Int}{a b:Nat}(h:Rep x a)(h2:Rep y b)(hx:(x-y).natAbs<9007199254740992):∃r,floatBits .sub .f64 a b=some r/\Rep (x-y) r:=by obtain⟨r,h3,h4⟩:=RepD.sum h (RepD.opposite h2);exact⟨Ieee.double.write r,by show((Ieee.double.read a).sum (Ieee.double.read b).opposite).map Ieee.double.write=_;rw[h3];rfl,h4.write hx⟩
theorem zx8{x:Int}{a:Nat}(h:Rep x a)(hx: -9223372036854775808<=x/\x<=9223372036854775807):floatToIntVal .f64 a .i64=some x:=by have h3:(FloatKind.f64.decode a).toInt .zero=some x:=RepD.toInt h;unfold floatToIntVal;rw[h3];exact if_pos hx
def z2s(x y:Int)(a b:Nat):Prop:=Rep x a/\Rep y b
theorem qcj{x y u v:Int}{a b c d:Nat}(h:z2s x y a b)(h2:z2s u v c d)(h3:(x*u).natAbs<9007199254740992)(h4:(y*v).natAbs<9007199254740992)(h5:(x*u-y*v).natAbs<9007199254740992)
 (h6:(x*v).natAbs<9007199254740992)(h7:(y*u).natAbs<9007199254740992)(h8:(x*v+y*u).natAbs<9007199254740992):∃re im,cMulBits a b c d=some (re,im)/\z2s (x*u-y*v) (x*v+y*u) re im:=by
 obtain⟨r1,e1,k1⟩:=zs6 h.1 h2.1 h3;obtain⟨r2,e2,k2⟩:=zs6 h.2 h2.2 h4;obtain⟨r3,e3,k3⟩:=zx7 k1 k2 h5;obtain⟨r4,e4,k4⟩:=zs6 h.1 h2.2 h6;obtain⟨r5,e5,k5⟩:=zs6 h.2 h2.1 h7;obtain⟨r6,e6,k6⟩:=qgp k4 k5 h8;exact⟨r3,r6,by simp[cMulBits,e1,e2,e3,e4,e5,e6],k3,k6⟩
theorem qck{x y u v:Int}{a b c d:Nat}(h:z2s x y a b)(h2:z2s u v c d)(h3:(x-u).natAbs<9007199254740992)(h4:(y-v).natAbs<9007199254740992):∃re im,cSumBits .sub .f64 a b c d=some (re,im)/\z2s (x-u) (y-v) re im:=by obtain⟨r1,e1,k1⟩:=zx7 h.1 h2.1 h3;obtain⟨r2,e2,k2⟩:=zx7 h.2 h2.2 h4;exact⟨r1,r2,by simp[cSumBits,e1,e2],k1,k2⟩
theorem qcl(f:Format)(b:Nat):f.read (b ^^^ 2^(f.exponentBits+f.fractionBits))=(f.read b).opposite:=by
 have hS:f.signWeight=2^(f.exponentBits+f.fractionBits):=rfl;generalize hn:f.exponentBits+f.fractionBits=n at*;have hp:=Nat.two_pow_pos n;have h1:((b ^^^ 2^n)/2^n%2==1)= !(b/2^n%2==1):=by
  rw[Nat.xor_div_two_pow,Nat.div_self hp];generalize b/2^n=c;have e:(c ^^^ 1)%2=(c%2) ^^^ 1:=by have:= @Nat.xor_mod_two_pow c 1 1;simpa using this
  rw[e];rcases Nat.mod_two_eq_zero_or_one c with h|h
  ·rw[h]
   rfl
  ·rw[h]
   rfl
 have h2:(b ^^^ 2^n)%2^n=b%2^n:=by rw[Nat.xor_mod_two_pow,Nat.mod_self,Nat.xor_zero]
 unfold Format.read;rw[hS];simp only[h1,h2];generalize b%2^n=R;by_cases a1:R<f.binade
 ·rw[if_pos a1,if_pos a1]
  rfl
 ·rw[if_neg a1,if_neg a1]
  by_cases a2:R<f.infRung
  ·rw[if_pos a2,if_pos a2]
   rfl
  ·rw[if_neg a2,if_neg a2]
   by_cases a3:R=f.infRung
   ·rw[if_pos a3,if_pos a3]
    rfl
   ·rw[if_neg a3,if_neg a3]
    rfl
theorem qgq{x:Int}{b:Nat}(h:Rep x b):Rep (-x) (Op.negFloat .f64 b):=by have:=RepD.opposite h;rw[<-qcl] at this;exact this
theorem z2t(k:FloatKind)(b:Nat):Op.unary .neg (.float k b)=pure (.float k (Op.negFloat k b)):=rfl
theorem z7f{x y:Int}{a b:Nat}(h:z2s x y a b)(hx: -2097152<=x/\x<=2097152)(hy: -2097152<=y/\y<=2097152):∃re im,cMulBits a b a (Op.negFloat .f64 b)=some (re,im)/\floatToIntVal .f64 re .i64=some (x*x+y*y):=by
 have q:∀u v:Int,-2097152<=u/\u<=2097152-> -2097152<=v/\v<=2097152-> -4398046511104<=u*v/\u*v<=4398046511104:=by
  intro u v hu hv;have h1:(u*v).natAbs<=2097152*2097152:=by rw[Int.natAbs_mul];exact Nat.mul_le_mul (by omega) (by omega)
  omega
 have h1:=q x x hx hx;have h2:=q y (-y) hy (by omega);have h3:=q x (-y) hx (by omega);have h4:=q y x hy hx;have e:y* -y= -(y*y):=by rw[Int.mul_neg]
 obtain⟨re,im,k1,k2⟩:=qcj h ⟨h.1,qgq h.2⟩ (by omega) (by omega) (by omega) (by omega) (by omega) (by omega);refine⟨re,im,k1,?_⟩;have:=zx8 k2.1 (by omega);rw[this,e,Int.sub_neg]
end Go.Hm
