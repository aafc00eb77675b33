/- Merged. -/
import Derived.Test.YtmgfkpnghlmheaaGreatBun15
set_option maxHeartbeats 2000000
namespace Go.Proofs.Y
open Go.RowKit Go.Hm
theorem zzc(b n:Nat): -1<=nby (b:Int) (n:Int)/\nby (b:Int) (n:Int)<=524289:=by
 by_cases hb:b<=64
 ·by_cases hn:n<=65536
  ·rw[zn1 b n hb hn]
   have:=Nat.mul_le_mul hb hn;omega
  ·unfold nby
   rw[if_pos (by omega)];omega
 ·unfold nby
  rw[if_pos (by omega)];omega
theorem qay(n k b:Nat)(h:k<n):(List.replicate k b++List.replicate (n-k) 0).set k b=List.replicate (k+1) b++List.replicate (n-(k+1)) 0:=by rw[List.set_append_right _ _ (by simp),List.length_replicate,Nat.sub_self,show n-k=(n-(k+1))+1 by omega,List.replicate_succ,List.set_cons_zero,List.replicate_succ',List.append_assoc];rfl
def qfo(x:List Nat)(g:Nat)(S:St)(w:World)(e:Ending)(w':World):Prop:=
 ∃A n c,e= .returned (.slice A n c)/\n=x.length/\Own w' w.heap.size 87 (.slice A n c) (za3 .u64 x)/\CurS w' g S/\w.grownBy w' (some g)
theorem zsm{w:World}{g:Nat}{S:St}{most:Nat}(h:CurS w g S)(hm:most<=65536):
 Calls Tryz.prog 225 #[.pointer (some ⟨g,0,none⟩),.int .i64 (most:Int)] w (qfo (rpS most S).1 g (rpS most S).2 w):=by
 have hle:=zb1 (m:=2*(most:Int)+1) S (by omega) h.ok;have C1:=Hz (zb9 (m:=2*(most:Int)+1) h (by omega) (by omega));obtain⟨X,hX⟩:∃X,X=rpS most S:=⟨_,rfl⟩;rw[<-hX];unfold rpS at hX;dsimp only at hX;generalize lenS (2*(most:Int)+1) S=H at*;obtain⟨a,S1⟩:=H;dsimp only at*;have ha:a<=131073:=by omega
 have D1:(a:Int).tdiv 2=((a/2:Nat):Int):=by rw[Int.tdiv_eq_ediv_of_nonneg (by omega)];rfl
 have D2:(a:Int).tmod 2=((a%2:Nat):Int):=by rw[Int.tmod_eq_emod_of_nonneg (by omega)];rfl
 have hn:a/2<=65536:=by omega
 have ho:a%2<2:=Nat.mod_lt _ (by omega);generalize a/2=n at*;generalize a%2=o at*;have HX:=Hz hX;clear h hX;go_enter Tryz.func225,Tryz.ntmps225
 go_wp2_with fail
 refine C1.out.mono ?_;rintro e w1 ⟨rfl,s1,g1⟩;clear C1;by_cases h1:o=1
 ·subst h1
  have hX:=HX.out;rw[if_pos rfl] at hX;clear HX;have C2:=Hz (ze2 s1);have hb:=zhp s1.ok;generalize zbc S1=Bq at*;obtain⟨b,S2⟩:=Bq;dsimp only at*;have HX:=Hz hX;clear hX;go_wp2_with fail
  refine C2.out.mono ?_;rintro e w2 ⟨rfl,s2,g2⟩;clear C2 s1;have hbw:IntKind.i64.wrap (b:Int)=(b:Int):=IntWalk.i64_in _ (by omega);go_wp2_with fail
  refine(zid (b:Int) (n:Int) w2 (by omega) (by omega) (by omega) (by omega)).mono ?_;rintro e w3 ⟨rfl,rfl⟩;go_wp2_with fail
  refine(zc8 (n:=nby (b:Int) (n:Int)) s2 (by have:=zzc b n;omega) (by have:=zzc b n;omega)).mono ?_;rintro e w4 ⟨A4,n4,c4,rfl,e4,o4,s4,g4⟩;have hX:=HX.out;have h8:=(zcq (n:=nby (b:Int) (n:Int)) s2.ok).2;generalize zbt (nby (b:Int) (n:Int)) S2=Tq at*;obtain⟨x,S4⟩:=Tq;dsimp only at*;subst e4;clear HX;have HX:=Hz hX;clear hX s2;have hxl:x.length<=9223372036854775807:=by have:=o4.cap;simp only[maxLen] at this;omega
  have C5:=Hz (zgv (c:=c4) (b:Int) (n:Int) o4.reads h8 hxl (by omega) (by omega) (by omega) (by omega));go_wp2_with fail
  refine C5.out.mono ?_;intro e w5 h5;have hX:=HX.out;generalize zbf x (b:Int) (n:Int)=o5 at*;clear HX C5;have G4:=(g1.trans g2).trans g4;cases o5 with
  |none=>
   obtain⟨rfl,b5⟩:=h5;dsimp only at hX;go_wp2_with fail
   refine(zj2 (s4.below b5)).mono ?_;rintro e w6 ⟨rfl,s6,g6⟩;go_wp2
   go_ret
   rw[hX];exact⟨none,0,0,rfl,rfl,Own.nil_,s6,(G4.trans (Far.of_new b5)).trans g6⟩
  |some l=>
   obtain⟨A5,n5,c5,rfl,o5,b5⟩:=h5;dsimp only at hX;go_wp2
   go_ret
   rw[hX];exact⟨A5,n5,c5,rfl,by have:=o5.len;rwa[zaa] at this,o5.base_le (by have:=G4.size;omega),s4.below b5,G4.trans (Far.of_new b5)⟩
 ·obtain rfl:o=0:=by omega
  have hX:=HX.out;rw[if_neg (by omega)] at hX;clear HX;have C2:=Hz (zkr s1);have hb:=zjx s1.ok;generalize zh4 S1=Bq at*;obtain⟨b,S2⟩:=Bq;dsimp only at*;have HX:=Hz hX;clear hX;go_wp2_with fail
  refine C2.out.mono ?_;rintro e w2 ⟨rfl,s2,g2⟩;clear C2 s1;have G2:=g1.trans g2;have hz:=G2.size;have G2:=Hz G2;clear g1 g2;go_wp2_with (first
   |(refine zb7 elW rfl (.tmp 44) (.tmp 44) rfl (W:=w2) (B:=w2.heap.size) n n rfl rfl rfl rfl (by omega) (Below.refl _ _) (Nat.le_refl _) rfl (by omega) (by simp only[maxLen];omega) ?_
     intro w3 hown3 hg3 hb3 hs3))
  go_loopw [48] (fun i wr=>∃k:Nat,k<=n/\i= .int .i64 (k:Int)/\Own wr w2.heap.size 87 (.slice (some ⟨w2.heap.size,0,none⟩) n n) (za3 .u64 (List.replicate k b++List.replicate (n-k) 0))/\Below w2.heap.size w2 wr) (fun i _=>n-(intOf i).toNat)
  case atStart=>exact⟨0,Nat.zero_le _,rfl,by simpa[zbx] using hown3,hb3⟩
  case round=>
   obtain⟨k,hk,rfl,hown,hbl⟩:=hrel;by_cases hlt:k<n
   ·obtain⟨hg0,hgl,hc,hf,hset⟩:=hown.num0 (i:=k) hlt
    have hs:=hset b;rw[qay n k b hlt] at hs;go_wp2
    go_roundw
    case rel=>exact⟨k+1,by omega,by go_num,hs,hbl.setCell (p:=⟨w2.heap.size,k,none⟩) (Nat.le_refl _) _⟩
    case measure=>simp[intOf];omega
   ·obtain rfl:k=n:=by omega
    go_wp2
    go_ret
    rw[HX.out];refine⟨_,_,_,rfl,by simp,?_,s2.below hbl,G2.out.trans (Far.of_new hbl)⟩;rw[Nat.sub_self,List.replicate_zero,List.append_nil] at hown;exact hown.base_le hz
end Go.Proofs.Y
namespace Go.Hm
open Go Go.RowKit
theorem qb8(k:IntKind)(l:List Int)(i:Nat)(x:Int):(zep k l).set i (.int k x)=zep k (l.set i x):=by simp[zep]
theorem zxw(k:IntKind)(l m:List Int):zep k (l++m)=zep k l++zep k m:=by simp[zep]
theorem zdi(k:IntKind)(n:Nat)(x:Int):zep k (List.replicate n x)=List.replicate n (.int k x):=by simp[zep]
theorem Own.int0{w:World}{base:Nat}{e:TypeId}{g n c i:Nat}{k:IntKind}{l:List Int}(h:Own w base e (.slice (some ⟨g,0,none⟩) n c) (zep k l))(hi:i<n):
 base<=g/\g<w.heap.size/\w.cell? ⟨g,i,none⟩=some (.int k (l.getD i 0))/\w.frozen? ⟨g,i,none⟩=false/\
  ∀y:Int,Own (w.setCell ⟨g,i,none⟩ (.int k y)) base e (.slice (some ⟨g,0,none⟩) n c) (zep k (l.set i y)):=by
 have hn:=h.len;rw[zcw] at hn;obtain⟨u,h3,h1,h2,h4,h5,h6⟩:=h.at0 hi;rw[z3t k l i (by omega)] at h3;injection h3 with h3;subst h3;exact⟨h1,h2,h4,h5,fun y=>by rw[<-qb8];exact h6 _⟩
theorem zix{P:List Int}{n k:Nat}(q:Int)(hP:P.length=k)(hk:k<n):(P++List.replicate (n-k) 0).set k q=(P++[q])++List.replicate (n-(k+1)) 0:=by rw[List.set_append_right _ _ (by omega),hP,Nat.sub_self,show n-k=(n-(k+1))+1 by omega,List.replicate_succ,List.set_cons_zero,List.append_assoc];rfl
theorem zvr{P:List Nat}{n k:Nat}(q:Nat)(hP:P.length=k)(hk:k<n):(P++List.replicate (n-k) 0).set k q=(P++[q])++List.replicate (n-(k+1)) 0:=by rw[List.set_append_right _ _ (by omega),hP,Nat.sub_self,show n-k=(n-(k+1))+1 by omega,List.replicate_succ,List.set_cons_zero,List.append_assoc];rfl
end Go.Hm
namespace Go.Proofs.Y
open Go.RowKit Go.Hm
def qb9(l:List Int)(w:World)(e:Ending)(w':World):Prop:=∃A n c,e= .returned (.slice A n c)/\Go.Hm.Own w' w.heap.size 3 (.slice A n c) (zep .i64 l)/\New w w'
def OptI(o:Option (List Int))(w:World)(e:Ending)(w':World):Prop:=
 match o with
 |none=>e= .returned (.tuple #[.slice none 0 0,.bool false])/\New w w'
 |some l=>∃A n c,e= .returned (.tuple #[.slice A n c,.bool true])/\Go.Hm.Own w' w.heap.size 3 (.slice A n c) (zep .i64 l)/\New w w'
set_option maxRecDepth 100000 in
theorem qca{w:World}{A:Option Addr}{n c:Nat}{l:List Int}(h:Reads w w.heap.size 1 A n (zep .i64 l))(h0:0<n)(hn:n<=1000000):
 Calls Tryz.prog 241 #[.slice A n c] w (zdw (.int .i64 (leastD l)) w):=by
 obtain rfl:=h.lenI;obtain⟨ad,rfl,_,c0⟩:=h.int h0;rw[zke] at c0;have t1: ¬(l.length:Int)<1:=by omega
 have t2: ¬l.length<1:=by omega
 have t3:(0:Int)<(l.length:Int):=by omega
 have HR:=Hz h;have L0:Hid (zgz l 0=l.getD 0 0):=Hz rfl;have LS:Hid (∀j,0<j->zgz l j=min (zgz l (j-1)) (l.getD j 0)):=Hz (fun j hj=>by obtain⟨k,rfl⟩:∃k,j=k+1:=⟨j-1,by omega⟩;rfl)
 have LD:Hid (leastD l=zgz l (l.length-1)):=Hz rfl;clear h;generalize leastD l=LL at*;generalize zgz l=LK at*;generalize l.getD 0 0=z0 at*;go_enter Tryz.func241,Tryz.ntmps241
 go_wp2_with fail
 go_loop [3,4] (fun v i=>∃j:Nat,0<j/\j<=l.length/\i= .int .i64 (j:Int)/\v= .int .i64 (LK (j-1))) (fun _ i=>l.length+1-(intOf i).toNat)
 case atStart=>exact⟨1,by omega,h0,rfl,by rw[Nat.sub_self,L0.out]⟩
 case round=>
  obtain⟨j,hj0,hj,rfl,rfl⟩:=hrel;clear c0;by_cases hlt:j<l.length
  ·obtain⟨ad',e,_,c1⟩:=HR.out.int hlt
   injection e with e;subst e;have hs:=LS.out j hj0;have HSK:=Hz hs;clear hs;have hki:(j:Int)<(l.length:Int):=by omega
   have hw:IntKind.i64.wrap ((j:Int)+1)=(j:Int)+1:=by rw[IntKind.wrap_i64];omega
   generalize l.getD j 0=x at*;generalize LK (j-1)=y at*;go_wp2_with fail
   go_round
   case rel=>exact⟨j+1,by omega,by omega,by go_num,by first|(rw[Nat.add_sub_cancel,HSK.out];done)|(rw[Nat.add_sub_cancel,HSK.out];exact congrArg (Value.int .i64) (by split<;> omega))⟩
   case measure=>simp[intOf];omega
  ·have hke:j=l.length:=by omega
   have hki: ¬(j:Int)<(l.length:Int):=by omega
   have hv:LK (j-1)=LL:=by rw[LD.out,hke]
   rw[hv];clear hke hv;go_wp2_with fail
   go_ret
   exact⟨rfl,rfl⟩
set_option maxRecDepth 100000 in
theorem z2q{w:World}{A:Option Addr}{n c:Nat}{l:List Int}(h:Reads w w.heap.size 1 A n (zep .i64 l))(hn:n<=1000000):
 Calls Tryz.prog 228 #[.slice A n c] w (qb9 (zdq l) w):=by
 obtain rfl:=h.lenI;have HR:=Hz h;have SL:=zea l;have HAT:=Hz (zt2 l);have HS0:Hid (l.length=0->zdq l=[]):=Hz (fun e=>by rw[List.eq_nil_of_length_eq_zero e];rfl);clear h;generalize zdq l=S at*;by_cases h0:l.length=0
 ·have e0:((l.length:Int)==0)=true:=by rw[h0];rfl
  have hS:=HS0.out h0;have HS:=Hz hS;have H0:=Hz h0;clear SL h0 hS;go_enter Tryz.func228,Tryz.ntmps228
  go_wp2
  go_ret
  exact⟨none,0,0,rfl,by rw[HS.out];exact Own.nil_,New.refl _⟩
 ·have e0:((l.length:Int)==0)=false:=by rw[beq_eq_false_iff_ne];omega
  obtain⟨m,hm⟩:∃m,m=l.length-1:=⟨_,rfl⟩;rw[<-hm] at SL;have hlm:l.length=m+1:=by omega
  have hw1:IntKind.i64.wrap ((l.length:Int)-1)=(m:Int):=by rw[IntKind.wrap_i64];omega
  have HLM:=Hz hlm;have HSL:=Hz SL;clear hm hlm SL h0;go_enter Tryz.func228,Tryz.ntmps228
  go_wp2_with (refine zb7 elI rfl (.tmp 10) (.tmp 10) rfl (W:=w) (B:=w.heap.size) m m rfl rfl rfl rfl (Nat.le_refl _) (Below.refl _ _) (Nat.le_refl _) rfl (by have:=HLM.out;omega) (by have:=HLM.out;simp only[maxLen];omega) ?_
               intro w1 o1 _ b1 s1)
  clear hw1 e0;go_loopw [14] (fun i wr=>∃k:Nat,k<=m/\i= .int .i64 (k:Int)/\Go.Hm.Own wr w.heap.size 3 (.slice (some ⟨w.heap.size,0,none⟩) m m) (zep .i64 (S.take k++List.replicate (m-k) 0))/\New w wr) (fun i _=>m-(intOf i).toNat)
  case atStart=>exact⟨0,Nat.zero_le _,rfl,by simpa[zdi] using o1,b1⟩
  case round=>
   clear o1 b1 s1;obtain⟨k,hk,rfl,o,b⟩:=hrel;by_cases hlt:k<m
   ·have hlm:=HLM.out
    obtain⟨ad,rfl,_,c0⟩:=(Reads.later HR.out b).int (i:=k) (by omega);obtain⟨ad',e,_,c1⟩:=(Reads.later HR.out b).int (i:=k+1) (by omega);injection e with e;subst e;have hat:=HAT.out k (by omega);have htk:=zae S k 0 (by have:=HSL.out;omega);obtain⟨hg0,hgl,hc,hf,hset⟩:=o.int0 (i:=k) hlt;have hsl:(S.take k).length=k:=by rw[List.length_take];have:=HSL.out;omega
    have hs2:=hset (S.getD k 0);rw[zix _ hsl hlt,<-htk,hat] at hs2;have HSet:=Hz hs2;generalize(S.take k++List.replicate (m-k) 0).getD k 0=z at*;generalize l.getD k 0=x at*;generalize l.getD (k+1) 0=y at*;have hw2:IntKind.i64.wrap (y-x)=wrI (y-x):=rfl;obtain⟨j,hj⟩:∃j,j=k+1:=⟨_,rfl⟩;rw[<-hj] at c1 HSet;have hw3:IntKind.i64.wrap ((k:Int)+1)=(j:Int):=by rw[IntKind.wrap_i64];omega
    have i1:(k:Int)<(m:Int):=by omega
    have i2:(k:Int)<(l.length:Int):=by omega
    have i3:(j:Int)<(l.length:Int):=by omega
    have HJ:=Hz hj;have HB:=Hz (fun q=>(below_drewN b q).setCell (p:=⟨w.heap.size,k,none⟩) (Nat.le_refl _) (.int .i64 (wrI (y-x))));clear hat htk hset hs2 hsl hlm hj;go_wp2
    go_still_tail 13,(by kernel_rfl)
    go_wp2
    go_roundw
    case rel=>exact⟨j,by have:=HJ.out;omega,rfl,by first|exact HSet.out|exact(HSet.out).drewN _,by first|exact HB.out _|exact HB.out 0⟩
    case measure=>have:=HJ.out;simp[intOf];omega
   ·obtain rfl:k=m:=by omega
    have hS:S.take k=S:=List.take_of_length_le (by have:=HSL.out;omega);rw[hS,Nat.sub_self,List.replicate_zero,List.append_nil] at o;clear hS;go_wp2
    go_ret
    exact⟨_,_,_,rfl,o,b⟩
theorem zrs(n:Nat)(w:World)(hn:n<=1000000):Calls Tryz.prog 229 #[.int .i64 (n:Int)] w (zdw (.int .i64 (nblk n:Nat)) w):=by
 have h1:IntKind.i64.wrap ((n:Int)+32)=(n:Int)+32:=by rw[IntKind.wrap_i64];omega
 have hq:((n:Int)+31)/32=((nblk n:Nat):Int):=by unfold nblk;omega
 have HQ:=Hz hq;clear hq;generalize nblk n=q at*;go_enter Tryz.func229,Tryz.ntmps229
 go_wp2
 go_ret
 exact⟨congrArg (fun z=>Ending.returned (.int .i64 z)) (by have:=HQ.out;omega),rfl⟩
open Go.RowKit Go.Hm
set_option maxRecDepth 100000 in
theorem zvs{w:World}{A:Option Addr}{n c:Nat}{l:List Int}(h:Reads w w.heap.size 1 A n (zep .i64 l))(hl:∀x∈l,zew x)(h0:0<n)(hn:n<=65536):
 Calls Tryz.prog 230 #[.slice A n c] w (OptB (some (blockD l)) w):=by
 obtain rfl:=h.lenI;have MN:=Hz (qca (c:=c) h h0 (by omega));have HR:=Hz h;have hll:=zkl hl h0;have ZG:=Hz (fun W:World=>zn6 (leastD l) W hll.1 hll.2);have PT:=Hz (fun W:World=>zcx none 0 0 [] (zig (leastD l)) W Reads.none_ (by omega) (by have:=zjp hll;omega));have hvl:=zaj (zjp hll);have hmw:=zkm hl;have hml:=zoa l;have hw:=zjo _ hmw;have PO:=zfi (zdn l) (wid (zdn l)) hw (by rw[hml];exact hn) (Nat.le_refl _);have hm:(wid (zdn l)*l.length+7)/8<=524288:=by have:=Nat.mul_le_mul hw hn;omega
 have hlen:(low (pk (wid (zdn l)) (zdn l)) ((wid (zdn l)*l.length+7)/8)).length=(wid (zdn l)*l.length+7)/8:=zbg _ _;rw[hml] at PO;have HAT:Hid (∀k,k<l.length->(zdn l).getD k 0=(l.getD k 0-leastD l).toNat/\zew (l.getD k 0)/\leastD l<=l.getD k 0):=Hz (fun k hk=>by refine⟨?_,hl _ (zg0 hk),zn9 (zg0 hk)⟩;unfold zdn;rw[List.getD_eq_getElem?_getD,List.getElem?_map,List.getD_eq_getElem?_getD,List.getElem?_eq_getElem hk];rfl)
 have HB:Hid (blockD l=vp (zig (leastD l))++[wid (zdn l)]++low (pk (wid (zdn l)) (zdn l)) ((wid (zdn l)*l.length+7)/8)):=Hz (by unfold blockD;simp);have HML:=Hz hml;have HMW:=Hz hmw;have HPO:=Hz PO;have HLL:=Hz hll;clear h hl PO hml hmw hll;generalize blockD l=BD at*;generalize low (pk (wid (zdn l)) (zdn l)) ((wid (zdn l)*l.length+7)/8)=PB at*;generalize(wid (zdn l)*l.length+7)/8=pm at*;generalize zdn l=D at*;generalize leastD l=ll at*;subst hlen;go_enter Tryz.func230,Tryz.ntmps230
 go_wp2_with fail
 refine MN.out.mono ?_;rintro e w1 ⟨rfl,rfl⟩;clear MN
 go_wp2_with (refine zb7 elW rfl (.tmp 15) (.tmp 15) rfl (W:=w) (B:=w.heap.size) l.length l.length rfl rfl rfl rfl (Nat.le_refl _) (Below.refl _ _) (Nat.le_refl _) rfl (by omega) (by simp only[maxLen];omega) ?_
              intro w1 o1 _ b1 s1)
 go_loopw [19] (fun i wr=>∃k:Nat,k<=l.length/\i= .int .i64 (k:Int)/\Go.Hm.Own wr w.heap.size 87 (.slice (some ⟨w.heap.size,0,none⟩) l.length l.length) (za3 .u64 (D.take k++List.replicate (l.length-k) 0))/\New w wr) (fun i _=>l.length-(intOf i).toNat)
 case atStart=>exact⟨0,Nat.zero_le _,rfl,by simpa[zbx] using o1,b1⟩
 case round=>
  clear o1 b1 s1;obtain⟨k,hk,rfl,o,b⟩:=hrel;by_cases hlt:k<l.length
  ·obtain⟨ad,rfl,_,c0⟩:=(Reads.later HR.out b).int hlt
   obtain⟨e1,e2,e3⟩:=HAT.out k hlt;have htk:=zae D k 0 (by have:=HML.out;omega);obtain⟨hg0,hgl,hc,hf,hset⟩:=o.num0 (i:=k) hlt;have hsl:(D.take k).length=k:=by rw[List.length_take];have:=HML.out;omega
   have hs2:=hset (D.getD k 0);rw[zvr _ hsl hlt,<-htk,e1] at hs2;have HSet:=Hz hs2;generalize(D.take k++List.replicate (l.length-k) 0).getD k 0=z at*;generalize l.getD k 0=x at*;have hll:=HLL.out;unfold zew at e2 hll;have hw2:IntKind.u64.wrap (IntKind.u64.wrap x-IntKind.u64.wrap ll)=(((x-ll).toNat:Nat):Int):=by rw[IntKind.wrap_u64,IntKind.wrap_u64,IntKind.wrap_u64];omega
   generalize(x-ll).toNat=d at*;have i1:(k:Int)<(l.length:Int):=by omega
   have HB2:=Hz (fun q=>(below_drewN b q).setCell (p:=⟨w.heap.size,k,none⟩) (Nat.le_refl _) (.int .u64 (d:Int)));clear e1 e2 e3 hll htk hset hs2 hsl;go_wp2
   go_roundw
   case rel=>exact⟨k+1,by omega,by go_num,by first|exact HSet.out|exact(HSet.out).drewN _,by first|exact HB2.out _|exact HB2.out 0⟩
   case measure=>simp[intOf];omega
  ·obtain rfl:k=l.length:=by omega
   have hS:D.take l.length=D:=List.take_of_length_le (by have:=HML.out;omega);rw[hS,Nat.sub_self,List.replicate_zero,List.append_nil] at o;have W:=Hz (zki (c:=l.length) o.reads HMW.out (by omega));have K:=zm9 (c:=l.length) (wid D:Int) o.reads HMW.out (by omega) (by omega) (by omega);rw[HPO.out] at K;replace K:=Hz K;generalize wid D=q at*;clear hS o;go_wp2_with fail
   refine W.out.mono ?_;rintro e w1 ⟨rfl,rfl⟩;go_wp2_with fail
   refine K.out.mono ?_;rintro e w2 ⟨A2,n2,c2,rfl,o2,b2⟩;obtain rfl:n2=PB.length:=by have:=o2.len;rwa[zaa] at this
   clear W K;have b02:=New.trans b b2;have hwq:IntKind.u8.wrap (q:Int)=(q:Int):=by rw[IntKind.wrap_u8];omega
   go_wp2_with fail
   refine(ZG.out _).mono ?_;rintro e w3 ⟨rfl,rfl⟩;go_wp2_with fail
   refine(PT.out _).mono ?_;rintro e w3 ⟨A3,n3,c3,rfl,o3,b3⟩;rw[List.nil_append] at o3;obtain rfl:n3=(vp (zig ll)).length:=by have:=o3.len;rwa[zaa] at this
   have b03:=New.trans b02 b3;have z3:=b3.size;have h23:=zfv (zgg o3 (o2.base_le (Nat.zero_le _)));have o2:=o2.later b3;have o3:=o3.base_le (b':=w.heap.size) b02.size;clear ZG PT;go_wp2_with (first
    |(refine zdp elB rfl (.tmp 43) (.tmp 46) rfl (W:=w) (B:=w.heap.size) o3 rfl rfl q rfl b03 (Nat.le_refl _) b03.size (by omega) (by simp only[maxLen];omega) ?_
      intro A4 c4 w4 _ _ o4 g4 b4 _ d4;have p2:=o2.kept g4 h23;have hz4:=b4.size)
    |(refine zas elB rfl (.tmp 48) (.tmp 49) rfl (W:=w) (B:=w.heap.size) o4 p2.reads rfl rfl b4 (Nat.le_refl _) hz4 (by omega) (by simp only[maxLen];omega) ?_
      intro A5 c5 w5 _ _ o5 _ b5 _))
   go_ret2
   refine⟨A5,_,c5,rfl,?_,b5⟩;rw[HB.out];exact o5
open Go.RowKit Go.Hm
theorem zrt(a b:List Nat)(ha:∀x∈a,x<256)(hb:∀x∈b,x<256)(hla:a.length<=9223372036854775806)(hlb:b.length<=9223372036854775806)(w:World):
 Calls Tryz.prog 234 #[.string (zad a),.string (zad b)] w (DrewPost (.int .i64 (shr a b)) w):=by
 have z1:=zbh a;have z2:=zbh b;go_enter Tryz.func234,Tryz.ntmps234
 go_wp2
 go_loopw [5] (fun n wr=>∃k m:Nat,n= .int .i64 (k:Int)/\k<=a.length/\k<=b.length/\a.take k=b.take k/\wr=w.drewN m) (fun n _=>a.length-(intOf n).toNat)
 case atStart=>exact⟨0,0,rfl,by omega,by omega,rfl,rfl⟩
 case round=>
  obtain⟨k,m,rfl,h1,h2,h3,rfl⟩:=hrel;have S0:=qdu a b k h1 h2 h3;have H3:=Hz h3;clear h3;by_cases ka:k=a.length
  ·have S:=Hz (S0 (.inl ka))
   have d1:decide (k<a.length)=false:=by simp;omega
   clear ka S0;go_wp2
   go_quiet (fail)
   go_wp2
   go_ret
   exact⟨by rw[S.out];rfl,_,zn0 _ _ _⟩
  ·by_cases kb:k=b.length
   ·have S:=Hz (S0 (.inr (.inl kb)))
    have d1:decide (k<a.length)=true:=by simp;omega
    have d2:decide (k<b.length)=false:=by simp;omega
    clear ka kb S0;go_wp2
    go_quiet (fail)
    go_wp2
    go_ret
    exact⟨by rw[S.out];rfl,_,zn0 _ _ _⟩
   ·have i1:=z4a qdp a ha k (by omega)
    have i2:=z4a qdp b hb k (by omega);have d1:decide (k<a.length)=true:=by simp;omega
    have d2:decide (k<b.length)=true:=by simp;omega
    have t1:=zae a k 0 (by omega);have t2:=zae b k 0 (by omega);by_cases e:a.getD k 0=b.getD k 0
    ·have H4:=Hz (show a.take (k+1)=b.take (k+1) by rw[t1,t2,H3.out,e])
     rw[e] at i1;clear t1 t2 e S0;generalize b.getD k 0=y at*;go_wp2
     go_quiet (fail)
     go_wp2
     go_roundw
     case rel=>exact⟨k+1,_,by go_num,by omega,by omega,H4.out,rfl⟩
     case measure=>simp[intOf];omega
    ·have S:=Hz (S0 (.inr (.inr e)))
     have d3:(((a.getD k 0:Nat):Int)==((b.getD k 0:Nat):Int))=false:=by rw[beq_eq_false_iff_ne];omega
     clear t1 t2 e S0;generalize a.getD k 0=x at*;generalize b.getD k 0=y at*;go_wp2
     go_quiet (fail)
     go_wp2
     go_ret
     exact⟨by rw[S.out];rfl,_,zn0 _ _ _⟩
theorem z7h{w:World}{A:Option Addr}{n c:Nat}{L:List (List Nat)}(h:Reads w w.heap.size 1 A n (zm1 L))(hL:∀s∈L,s.length<=140737488351232)(hn:n<=9223372036854775806):
 Calls Tryz.prog 233 #[.slice A n c] w (zdw (.bool (z5n L)) w):=by
 obtain rfl:=h.lenT;by_cases h0:65536<L.length
 ·have F:=Hz (qa7 h0)
  go_enter Tryz.func233,Tryz.ntmps233
  go_wp2
  go_ret
  exact⟨by rw[F.out];rfl,rfl⟩
 ·have d0:decide (65536<(L.length:Int))=false:=by simp;omega
  go_enter Tryz.func233,Tryz.ntmps233
  go_wp2
  go_loop [3,11] (fun a i=>∃k q:Nat,k<=L.length/\i= .int .i64 (k:Int)/\a= .int .i64 (q:Int)/\q<=16777216/\Hid (q=fsum (L.take k)/\ ∀s∈L.take k,s.length<=65536)) (fun _ i=>L.length-(intOf i).toNat)
  case atStart=>exact⟨0,0,by omega,rfl,rfl,by omega,Hz ⟨rfl,by simp⟩⟩
  case round=>
   obtain⟨k,q,hk,rfl,rfl,hq,H⟩:=hrel;by_cases hlt:k<L.length
   ·obtain⟨ad,rfl,hb,hcell⟩:=h.str hlt
    have hs:=zn2 hL hlt;have T:=zae L k [] hlt;have F1:=Hz (qa8 hlt);have F2:=Hz (qa9 (l:=L) (k:=k+1));rw[T] at F2;have HT:=Hz T;clear T;generalize L.getD k []=s at*;have z:=zbh s;generalize hls:s.length=ls at*;have HL:=Hz hls;clear hls;by_cases h1:65536<ls
    ·have F:=Hz (F1.out h1)
     clear F1 F2;go_wp2
     go_ret
     exact⟨by rw[F.out];rfl,rfl⟩
    ·have d1:decide (65536<(ls:Int))=false:=by simp;omega
     by_cases h2:16777216<q+ls
     ·have F:=Hz (F2.out (by rw[zuk,<-H.out.1,HL.out];exact h2))
      clear F1 F2;go_wp2
      go_ret
      exact⟨by rw[F.out];rfl,rfl⟩
     ·have d2:decide (16777216<(q:Int)+(ls:Int))=false:=by simp;omega
      go_wp2
      go_round
      case rel=>exact⟨k+1,q+ls,by omega,by go_num,by go_num,by omega,Hz ⟨by rw[HT.out,zuk,<-H.out.1,HL.out],fun x hx=>by
       rw[HT.out,List.mem_append,List.mem_singleton] at hx;rcases hx with hx|rfl
       ·exact H.out.2 x hx
       ·rw[HL.out];omega⟩⟩
      case measure=>simp[intOf];omega
   ·obtain rfl:k=L.length:=by omega
    have F:=Hz (qba (l:=L) (by omega) (by have:=H.out.2;rwa[List.take_length] at this) (by have:=H.out.1;rw[List.take_length] at this;omega));go_wp2
    go_ret
    exact⟨by rw[F.out];rfl,rfl⟩
theorem z7i{w:World}{A:Option Addr}{n c:Nat}{L:List (List Nat)}(h:Reads w w.heap.size 1 A n (zm1 L))(h8:∀s∈L,∀x∈s,x<256)(hf:z5n L=true):
 Calls Tryz.prog 216 #[.slice A n c] w (OptB (some (zkx [] L)) w):=by
 obtain rfl:=h.lenT;obtain⟨hn,hl,hsum⟩:=(zej L).1 hf;have F:=Hz (z7h (c:=c) h (fun s hs=>by have:=hl s hs;omega) (by omega));rw[hf] at F;have HSUM:=Hz hsum;have HF:=Hz hf;clear hf hsum;go_enter Tryz.func216,Tryz.ntmps216
 go_wp2_with (go_at_call 233;refine F.out.mono ?_;rintro e w1 ⟨rfl,rfl⟩)
 go_loopw [4,5,14] (fun v a i wr=>∃(k:Nat) (A:Option Addr) (m c:Nat),i= .int .i64 (k:Int)/\k<=L.length/\a= .string (zad (zqe [] (L.take k)))/\v= .slice A m c/\Own wr w.heap.size 5 (.slice A m c) (za3 .u8 (zkx [] (L.take k)))/\Below w.heap.size w wr) (fun _ _ i _=>L.length-(intOf i).toNat)
 case atStart=>exact⟨0,_,_,_,rfl,by omega,rfl,rfl,Own.nil_,Below.refl _ _⟩
 case round=>
  obtain⟨k,A5,m5,c5,rfl,hk,rfl,rfl,o5,b5⟩:=hrel;have z5:=b5.size;by_cases hlt:k<L.length
  ·obtain⟨ad,rfl,hb,hcell⟩:=(h.below b5).str hlt
   have q5:=o5.len;rw[zaa] at q5;have q6:=zsr [] (L.take k) (fun s hs=>hl s (List.mem_of_mem_take hs));have q7:=zuj L k;have q8:=HSUM.out;rw[<-q5,List.length_take] at q6;have qm:m5<=20*65536+16777216:=by omega
   have T:=Hz (zae L k [] hlt);have a8:=zul (Q:=fun s=>∀x∈s,x<256) (a:=[]) (L.take k) (by simp) (fun s hs=>h8 s (List.mem_of_mem_take hs));have al:=zul (Q:=fun s=>s.length<=65536) (a:=[]) (L.take k) (by simp) (fun s hs=>hl s (List.mem_of_mem_take hs));have s8:=zn2 (Q:=fun s=>∀x∈s,x<256) h8 hlt;have sl:=zn2 (Q:=fun s=>s.length<=65536) hl hlt;have SN:=Hz (z5o [] (L.getD k []) (L.take k));have LS:=Hz (z1t [] (L.getD k []) (L.take k));clear q5 q6 q7 q8;generalize L.getD k []=s at*;generalize zqe [] (L.take k)=a at*;have k1:=zhx a s;have k2:=zgh a s;have z1:=zbh s;have SH:=Hz (zrt a s a8 s8 (by omega) (by omega) wr);have FP:=Hz (show fpiece a s=vp (shr a s)++vp (s.length-shr a s)++s.drop (shr a s) from rfl);have i3:=z92 qdp s (shr a s) k2;have d8:∀x∈s.drop (shr a s),x<256:=fun x hx=>s8 x (List.mem_of_mem_drop hx)
   have dl:(s.drop (shr a s)).length<=65536:=by rw[List.length_drop];omega
   have v1:=zaj (n:=shr a s) (by omega);have v2:=zaj (n:=s.length-shr a s) (by omega);have hq:(s.length:Int)-(shr a s:Int)=((s.length-shr a s:Nat):Int):=by omega
   generalize shr a s=j at*;generalize s.length-j=p at*;generalize s.drop j=r at*;have V1:=Hz v1;have V2:=Hz v2;have DL:=Hz dl;clear v1 v2 dl;go_wp2_with (first
    |(go_at_call 234;refine SH.out.mono ?_;intro e w6 hh;obtain⟨rfl,b6⟩:=hh.new;clear hh
      have b06:=zgt b5 b6 (Nat.le_refl _);have o6:=o5.later b6;have P6:=Hz (zcx none 0 0 [] j w6 Reads.none_ (by omega) (by omega)))
    |(go_at_call 93;(with_reducible refine P6.out.mono ?_);rintro e w7 ⟨A7,n7,c7,rfl,k7,b7⟩
      rw[List.nil_append] at k7;have b07:=zgt b06 b7 (Nat.le_refl _);have o7:=o6.later b7;have q7:n7<=10:=by have:=k7.len;rw[zaa] at this;have:=V1.out;omega
      have r7:=k7.reads)
    |(refine zas elB rfl (.tmp 21) (.tmp 24) rfl (W:=w) (B:=w.heap.size) o7 r7 rfl rfl b07 (Nat.le_refl _) (by have:=b07.size;omega) (by omega) (by simp only[maxLen];omega) ?_
      intro A8 c8 w8 _ _ o8 _ b08 _;have P8:=Hz (zcx none 0 0 [] p w8 Reads.none_ (by omega) (by omega)))
    |(go_at_call 93;(with_reducible refine P8.out.mono ?_);rintro e w9 ⟨A9,n9,c9,rfl,k9,b9⟩
      rw[List.nil_append] at k9;have b09:=zgt b08 b9 (Nat.le_refl _);have o9:=o8.later b9;have q9:n9<=10:=by have:=k9.len;rw[zaa] at this;have:=V2.out;omega
      have r9:=k9.reads)
    |(refine zas elB rfl (.tmp 26) (.tmp 32) rfl (W:=w) (B:=w.heap.size) o9 r9 rfl rfl b09 (Nat.le_refl _) (by have:=b09.size;omega) (by omega) (by simp only[maxLen];omega) ?_
      intro A10 c10 w10 _ _ o10 _ b010 _)
    |(refine zev elB qdp rfl (.tmp 34) (.tmp 37) rfl (W:=w) (B:=w.heap.size) o10 d8 rfl rfl b010 (Nat.le_refl _) (by have:=b010.size;omega) (by have:=DL.out;omega) ?_
      intro A11 c11 w11 _ _ o11 _ b011))
   go_roundw
   case rel=>exact⟨k+1,_,_,_,by go_num,by omega,by rw[T.out,LS.out],rfl,by rw[T.out,SN.out,FP.out,<-List.append_assoc,<-List.append_assoc];exact o11,b011⟩
   case measure=>simp[intOf];omega
  ·obtain rfl:k=L.length:=by omega
   rw[List.take_length] at o5;go_wp2
   go_ret2
   exact⟨_,_,_,rfl,o5,b5⟩
theorem qcb{w:World}{A:Option Addr}{n c:Nat}{L:List (List Nat)}(h:Reads w w.heap.size 1 A n (zm1 L))(h8:∀s∈L,∀x∈s,x<256)(hL:∀s∈L,s.length<=140737488351232)(hn:n<=9223372036854775806):
 Calls Tryz.prog 216 #[.slice A n c] w (OptB (ztt L) w):=by
 unfold ztt;by_cases hf:z5n L=true
 ·rw[if_pos hf]
  exact z7i h h8 hf
 ·rw[if_neg hf]
  have F:=Hz (z7h (c:=c) h hL hn);rw[Bool.eq_false_iff.2 hf] at F;clear hf;go_enter Tryz.func216,Tryz.ntmps216
  go_wp2_with (go_at_call 233;refine F.out.mono ?_;rintro e w1 ⟨rfl,rfl⟩)
  go_ret2
  exact⟨rfl,Below.refl _ _⟩
end Go.Proofs.Y
