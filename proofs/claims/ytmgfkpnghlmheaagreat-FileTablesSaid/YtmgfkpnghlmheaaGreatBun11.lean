/- Merged. -/
import Derived.Test.YtmgfkpnghlmheaaGreatBun10
set_option maxHeartbeats 4000000
namespace Go.Proofs.Y
open Go.RowKit Go.Hm
set_option maxRecDepth 100000 in
theorem zwq{w:World}{A:Option Addr}{m c:Nat}{b:List Nat}(x n:Nat)(h:Reads w w.heap.size 1 A m (za3 .u8 b))(h8:∀x∈b,x<256)(hx:x<=64)(hn:n<=65536)(hm:b.length=(x*n+7)/8)(hN:num b<2^(x*n)):
 Calls Tryz.prog 159 #[.slice A m c,.int .i64 (x:Int),.int .i64 (n:Int)] w (OptW (some (zp7 x n (num b))) w):=by
 obtain rfl:=h.len;have B1:=Hz (zqo x n w hx hn);rw[<-hm] at B1;have hp:x*n<=64*65536:=Nat.mul_le_mul hx hn;obtain⟨M,hM⟩:∃M,M=x*n:=⟨_,rfl⟩;rw[<-hM] at hp hN hm;have hMI:(x:Int)*(n:Int)=(M:Int):=by rw[hM,Int.natCast_mul]
 have NL:=(zyr b h8 M (M%8) hm rfl).1 hN;obtain⟨q,r,hqr,q1,q2,q3,d1,d2⟩:=zsb M (by omega);rw[<-hqr.out.2] at NL;have hl1:b.length<=524288:=by omega
 have hl2:M<=8*b.length:=by omega
 have HM:=Hz hM;have Hm:=Hz hm;clear hM hm hN d1;by_cases hr:r=0;all_goals first
  |(subst hr
    clear NL)
  |(have hl0:b.length-1<b.length:=by have:=Hm.out;have:=hqr.out.2;omega
    obtain⟨ad,rfl,hbl,hcell⟩:=h.num hl0;have hr0:(0:Int)<(r:Int):=by omega
    have hlI:(1:Int)<=(b.length:Int):=by omega
    have hL:=NL.resolve_left hr;generalize b.getD (b.length-1) 0=y at*;have hz:((y:Int)/2^r != 0)=false:=by
     have e:((y:Int)/2^r)=((y/2^r:Nat):Int):=by simp
     rw[e,hL];rfl
    clear NL hL hr)
 all_goals
  go_enter Tryz.func159,Tryz.ntmps159
  go_wp2_with (first
   |(go_at_call 180;refine B1.out.mono ?_;rintro e w1 ⟨rfl,rfl⟩)
   |(refine zb7 elW rfl (.tmp 36) (.tmp 36) rfl (W:=w) (B:=w.heap.size) n n rfl rfl rfl rfl (by omega) (Below.refl _ _) (Nat.le_refl _) rfl (by omega) (by simp only[maxLen];omega) ?_
     intro w1 hown1 hg1 hb1 hs1))
  go_loopw [10,39] (fun a i wr=>∃k m:Nat,k<=n/\m=x*k/\i= .int .i64 (k:Int)/\a= .int .i64 (m:Int)/\Own wr w.heap.size 87 (.slice (some ⟨w.heap.size,0,none⟩) n n) (za3 .u64 (zp7 x k (num b)++List.replicate (n-k) 0))/\Below w.heap.size w wr) (fun _ i _=>n-(intOf i).toNat)
  case atStart=>exact⟨0,0,by omega,rfl,rfl,rfl,by simpa[zp7,zbx] using hown1,hb1⟩
  case round=>
   obtain⟨k,m,hk,hm,rfl,rfl,hown,hb⟩:=hrel;by_cases hlt:k<n
   ·rw[qex x k (num b) n hlt] at hown
    have hmx:m+x<=M:=by have h1:x*(k+1)<=x*n:=Nat.mul_le_mul_left _ hlt;rw[Nat.mul_succ] at h1;have:=HM.out;omega
    have Hm:=Hz hm;clear hm;go_wp2
    obtain⟨wo,rfl⟩:∃wo:World,wo=wr:=⟨_,rfl⟩;go_loopw [10,43] (fun a i wr=>∃j m':Nat,j<=x/\m'=m+j/\i= .int .i64 (j:Int)/\a= .int .i64 (m':Int)/\Own wr w.heap.size 87 (.slice (some ⟨w.heap.size,0,none⟩) n n) (za3 .u64 (ul x k j (num b) n))/\Below w.heap.size w wr) (fun _ i _=>x-(intOf i).toNat)
    case atStart=>exact⟨0,m,by omega,rfl,rfl,rfl,hown,hb⟩
    case round=>
     obtain⟨j,m',hj,hm',rfl,rfl,hown,hb⟩:=hrel;by_cases hlj:j<x
     ·have hm8:m'<8*b.length:=by omega
      obtain⟨q,r,hqr,q1,q2,q3,d1,d2⟩:=zsb m' (by omega);obtain⟨hg0,hgl,hc,hf,hset⟩:=hown.num0 (i:=k) hlt;have Hm':=Hz hm';have Hset:=Hz hset;clear hm' hset;obtain⟨ad1,e1,hbl1,hcb⟩:=(h.below hb).num (i:=q) (by omega);first|(subst e1;skip)|(injection e1 with e1;subst e1)
      obtain⟨t,ht⟩:∃t,t=num b/2^m'%2:=⟨_,rfl⟩;have hbit:=qgy b h8 m' q r hqr.out hm8;have ht1:t<=1:=by omega
      have S:=qez x k j (num b) n m' t (by rw[Hm'.out,Hm.out]) ht;rw[qey] at hc;rw[<-ht] at hbit;have hv:num b/2^(x*k)%2^j<2^j:=Nat.mod_lt _ (Nat.two_pow_pos _);generalize num b/2^(x*k)%2^j=v at*;have hy:=zr7 b q h8;generalize b.getD q 0=y at*;have O:=z94 v j t hv ht1 (by omega);obtain⟨z,hz⟩:∃z,z=v+t*2^j:=⟨_,rfl⟩;rw[<-hz] at O S;have T1:=z95 y r t hy hbit.symm;have T2:IntKind.u64.wrap (t:Int)=(t:Int):=by rw[IntKind.wrap_u64];omega
      have HS:=Hz S;have hq4:(q:Int)<(b.length:Int):=by omega
      have hq5:(0:Int)<=(q:Int):=by omega
      have hq6:(k:Int)<(n:Int):=by omega
      have hq7:(0:Int)<=(k:Int):=by omega
      clear S hz ht hbit hv;go_wp2
      go_still_tail 18,(by kernel_rfl)
      go_wp2
      go_roundw
      case rel=>exact⟨j+1,m'+1,by omega,by have:=Hm'.out;omega,by go_num,by go_num,by rw[<-HS.out];exact Hset.out z,by first|exact(hb.drew).setCell hg0 _|exact hb.setCell hg0 _⟩
      case measure=>simp[intOf];omega
     ·obtain rfl:j=x:=by omega
      rw[qgx] at hown;go_wp2
      go_roundw
      case rel=>exact⟨k+1,m',by omega,by rw[hm',Hm.out,Nat.mul_succ],by go_num,rfl,hown,hb⟩
      case measure=>simp[intOf];omega
   ·obtain rfl:k=n:=by omega
    rw[Nat.sub_self,List.replicate_zero,List.append_nil] at hown;go_wp2
    go_ret2
    exact⟨_,_,_,rfl,hown,hb⟩
set_option maxRecDepth 100000 in
theorem z02{w:World}{A:Option Addr}{m c:Nat}{b:List Nat}(x n:Int)(h:Reads w w.heap.size 1 A m (za3 .u8 b))(h8:∀x∈b,x<256)(hm:m<=9223372036854775807)(hx0: -9223372036854775808<=x)(hx:x<=9223372036854775807)(hn0: -9223372036854775808<=n)(hn:n<=9223372036854775807)
 (hb: ¬(0<=x/\x<=64/\0<=n/\n<=65536/\b.length=(x.toNat*n.toNat+7)/8/\num b<2^(x.toNat*n.toNat))):
 Calls Tryz.prog 159 #[.slice A m c,.int .i64 x,.int .i64 n] w (OptW none w):=by
 obtain rfl:=h.len;have B1:=Hz (zid x n w hx0 hx hn0 hn);by_cases hs:(b.length:Int)=nby x n
 ·have hg:0<=x/\x<=64/\0<=n/\n<=65536:=by
   unfold nby at hs;split at hs<;> omega
  obtain⟨x,rfl⟩:=Int.eq_ofNat_of_zero_le hg.1;obtain⟨n,rfl⟩:=Int.eq_ofNat_of_zero_le hg.2.2.1;rw[zn1 x n (by omega) (by omega)] at hs B1;have hs':b.length=(x*n+7)/8:=by omega
  rw[<-hs'] at B1;obtain⟨M,hM⟩:∃M,M=x*n:=⟨_,rfl⟩;have hp:x*n<=64*65536:=Nat.mul_le_mul (by omega) (by omega);have hN: ¬num b<2^M:=by
   intro hN;refine hb ⟨by omega,by omega,by omega,by omega,?_,?_⟩
   ·simpa using hs'
   ·simpa[<-hM] using hN
  rw[<-hM] at hp hs';have hMI:(x:Int)*(n:Int)=(M:Int):=by rw[hM,Int.natCast_mul]
  obtain⟨q,r,hqr,q1,q2,q3,d1,d2⟩:=zsb M (by omega);have NL:=(not_congr (zyr b h8 M r hs' hqr.out.2)).1 hN;have hM8:=hqr.out.2;have hr: ¬r=0:=fun e=>NL (.inl e)
  have hL: ¬b.getD (b.length-1) 0/2^r=0:=fun e=>NL (.inr e)
  have hl0:b.length-1<b.length:=by omega
  obtain⟨ad,rfl,hbl,hcell⟩:=h.num hl0;have hr0:(0:Int)<(r:Int):=by omega
  have hlI:(1:Int)<=(b.length:Int):=by omega
  generalize b.getD (b.length-1) 0=y at*;have hz:((y:Int)/2^r != 0)=true:=by
   have e:((y:Int)/2^r)=((y/2^r:Nat):Int):=by simp
   rw[e,bne_iff_ne];omega
  clear NL hL hr hM8 hN hs' hb hg hs d1;have HM:=Hz hM;clear hM;go_enter Tryz.func159,Tryz.ntmps159
  go_wp2_with (first
   |(go_at_call 180;refine B1.out.mono ?_;rintro e w1 ⟨rfl,rfl⟩))
  go_ret2
  exact⟨rfl,Below.refl _ _⟩
 ·have hs1:((b.length:Int) != nby x n)=true:=by rw[bne_iff_ne];exact hs
  generalize nby x n=B at*;clear hs hb;go_enter Tryz.func159,Tryz.ntmps159
  go_wp2_with (first
   |(go_at_call 180;refine B1.out.mono ?_;rintro e w1 ⟨rfl,rfl⟩))
  go_ret2
  exact⟨rfl,Below.refl _ _⟩
theorem zgv{w:World}{A:Option Addr}{m c:Nat}{b:List Nat}(x n:Int)(h:Reads w w.heap.size 1 A m (za3 .u8 b))(h8:∀x∈b,x<256)(hm:m<=9223372036854775807)(hx0: -9223372036854775808<=x)(hx:x<=9223372036854775807)(hn0: -9223372036854775808<=n)(hn:n<=9223372036854775807):
 Calls Tryz.prog 159 #[.slice A m c,.int .i64 x,.int .i64 n] w (OptW (zbf b x n) w):=by
 unfold zbf;split
 ·rename_i hg
  obtain⟨x,rfl⟩:=Int.eq_ofNat_of_zero_le hg.1;obtain⟨n,rfl⟩:=Int.eq_ofNat_of_zero_le hg.2.2.1;simp only[Int.toNat_natCast] at hg⊢;exact zwq x n h h8 (by omega) (by omega) hg.2.2.2.2.1 hg.2.2.2.2.2
 ·rename_i hg
  exact z02 x n h h8 hm hx0 hx hn0 hn hg
open Go.RowKit Go.Hm
theorem zfi(L:List Nat)(x:Nat)(hx:x<=64)(hl:L.length<=65536)(hw:wid L<=x):zn3 L (x:Int)=some (low (pk x L) ((x*L.length+7)/8)):=by unfold zn3;rw[if_pos ⟨by omega,by omega,hl,by omega⟩,Int.toNat_natCast]
theorem zhn(L:List Nat)(x:Nat)(hx:x<=64)(hl:L.length<=65536)(hw:wid L<=x)(hL:∀x∈L,x<=18446744073709551615):zbf (low (pk x L) ((x*L.length+7)/8)) (x:Int) (L.length:Int)=some L:=by
 have h2:=(zgq L x hx hL).1 hw;have h1:=qgv x L h2;have h3:num (low (pk x L) ((x*L.length+7)/8))=pk x L:=by rw[z3w,qet,Nat.mod_eq_of_lt];exact Nat.lt_of_lt_of_le h1 (Nat.pow_le_pow_right (by omega) (by omega))
 unfold zbf;rw[if_pos ⟨by omega,by omega,by omega,by omega,by simp only[Int.toNat_natCast,zbg],by simp only[Int.toNat_natCast,h3];exact h1⟩];simp only[Int.toNat_natCast,h3];rw[qes x L h2 _ (Nat.mod_eq_of_lt h1)]
theorem zho{b l:List Nat}{x n:Int}(h8:∀x∈b,x<256)(h:zbf b x n=some l):zn3 l x=some b/\(l.length:Int)=n/\(wid l:Int)<=x/\(∀y∈l,y<=18446744073709551615)/\l.length<=65536:=by
 unfold zbf at h;split at h
 ·rename_i hg
  obtain⟨h1,h2,h3,h4,h5,h6⟩:=hg;injection h with h;obtain⟨x,rfl⟩:=Int.eq_ofNat_of_zero_le h1;obtain⟨n,rfl⟩:=Int.eq_ofNat_of_zero_le h3;simp only[Int.toNat_natCast] at h5 h6 h;have hx:x<=64:=by omega
  have hlt:∀y∈l,y<2^x:=by rw[<-h];exact z36 _ _ _
  have hll:l.length=n:=by rw[<-h,zd6]
  have hp:2^x<=2^64:=Nat.pow_le_pow_right (by omega) hx;have hb:∀y∈l,y<=18446744073709551615:=fun y hy=>by have:=hlt y hy;omega
  have hw:wid l<=x:=(zgq l x hx hb).2 hlt;refine⟨?_,by omega,by omega,hb,by omega⟩;rw[zfi l x hx (by omega) hw,hll,<-h5,<-h,qer,Nat.mod_eq_of_lt h6,zsd b h8]
 ·cases h
end Go.Proofs.Y
namespace Go.Hm
open Go Go.RowKit
def u64N(n:Int):Nat:=(n%18446744073709551616).toNat
def plE(t:Int)(c:zab):List Nat:=
 if t=0 then low (u64N c.2.1) 8 else if t=2 then vp c.2.2.1.length++c.2.2.1 else if t=3 then vp (zig c.2.2.2.1)++vp (zig c.2.2.2.2) else []
def zdx(l:List zab):List Nat:=l.map fun c=>u64N c.2.1
def zhs(t:Int)(l:List zab):Bool:=decide (0<=t/\t<=3/\l.length<=65536)&&l.all fun c=>zac c t false
def plB(t:Int)(l:List zab):List Nat:=if t=1 then low (pk 1 (zdx l)) ((1*l.length+7)/8) else l.flatMap (plE t)
def plO(t:Int)(l:List zab):Option (List Nat):=if zhs t l then some (plB t l) else none
theorem zw0(n:Int):u64N n<18446744073709551616:=by unfold u64N;omega
theorem plOk_iff{t:Int}{l:List zab}:zhs t l=true↔(0<=t/\t<=3/\l.length<=65536)/\ ∀c∈l,zac c t false=true:=by unfold zhs;rw[Bool.and_eq_true,decide_eq_true_iff,List.all_eq_true]
theorem zge{c:zab}{t:Int}(h:zac c t false=true):c.1=false:=by
 unfold zac at h;cases e:c.1 with
 |false=>rfl
 |true=>rw[e] at h;simp at h
theorem qds{c:zab}(h:zac c 1 false=true):c.2.1=0\/c.2.1=1:=by have h0:=zge h;unfold zac at h;rw[h0] at h;simp at h;exact h.2
theorem z4r{c:zab}(h:zac c 2 false=true):c.2.2.1.length<=65536:=by have h0:=zge h;unfold zac at h;rw[h0] at h;simp at h;exact h.2
theorem zmf{c:zab}(h:zac c 3 false=true):(-1048576<=c.2.2.2.1/\c.2.2.2.1<=1048576)/\ -1048576<=c.2.2.2.2/\c.2.2.2.2<=1048576:=by have h0:=zge h;unfold zac inBox at h;rw[h0] at h;simp at h;omega
theorem zod{l:List zab}(h:∀c∈l,zac c 1 false=true):wid (zdx l)<=1:=by
 have hb:∀x∈zdx l,x<2:=by intro x hx;obtain⟨c,hc,rfl⟩:=List.mem_map.1 hx;rcases qds (h c hc) with e|e<;> rw[e]<;> decide
 exact(zgq _ 1 (by omega) fun x hx=>by have:=hb x hx;omega).2 fun x hx=>by simpa using hb x hx
theorem zln{t:Int}{c:zab}(h:zac c t false=true):(plE t c).length<=20+c.2.2.1.length:=by
 unfold plE;split
 ·rw[zbg];omega
 ·split
  ·rename_i h2
   subst h2;have:=z4r h;have:=zaj (n:=c.2.2.1.length) (by omega);rw[List.length_append];omega
  ·split
   ·rename_i h2
    subst h2;have:=zmf h;have a:=zaj (n:=zig c.2.2.2.1) (by unfold zig;split<;> omega);have b:=zaj (n:=zig c.2.2.2.2) (by unfold zig;split<;> omega);rw[List.length_append];omega
   ·simp
end Go.Hm
namespace Go.Proofs.Y
open Go.RowKit Go.Hm
theorem qam{L:List zab}(hR:∀c∈L,zac c 1 false=true)(hn:L.length<=65536):zn3 (zdx L) 1=some (plB 1 L):=by refine(zfi (zdx L) 1 (by omega) (by unfold zdx;rw[List.length_map];omega) (zod hR)).trans ?_;unfold plB;rw[if_pos rfl];unfold zdx;rw[List.length_map]
theorem zko{w:World}{t n:Int}:Calls Tryz.prog 153 #[.int .i64 t,.int .i64 n] w (zdw (.bool (decide (0<=t/\t<=3/\0<=n/\n<=65536))) w):=by
 by_cases h1:0<=t;all_goals try by_cases h2:t<=3
 all_goals try by_cases h3:0<=n
 all_goals try by_cases h4:n<=65536
 all_goals
  go_enter Tryz.func153,Tryz.ntmps153
  go_wp2
  go_ret
  exact⟨by simp;try omega,rfl⟩
set_option maxRecDepth 100000 in
theorem zmg{w:World}{t:Int}{A:Option Addr}{n c:Nat}{L:List zab}(h:Reads w w.heap.size 5 A n (recs zam L))(hL:∀y∈L,y.2.2.1.length<=140737488351232)(hn:n<=4611686018427387903):
 Calls Tryz.prog 154 #[.int .i64 t,.slice A n c] w (zap (.bool (L.all fun c=>zac c t false)) w):=by
 obtain rfl:=h.lenCell;have HR:=Hz h;have HL:=Hz hL;clear h hL;obtain⟨M,hM⟩:∃M,M=L.all fun c=>zac c t false:=⟨_,rfl⟩
 rw[<-hM];have HM:=Hz hM;clear hM;go_enter Tryz.func154,Tryz.ntmps154
 go_wp2_with fail
 go_loopw [9] (fun i wr=>∃k:Nat,k<=L.length/\i= .int .i64 (k:Int)/\New w wr/\Hid (∀c∈L.take k,zac c t false=true)) (fun i _=>L.length-(intOf i).toNat)
 case atStart=>exact⟨0,Nat.zero_le _,rfl,New.refl _,Hz (by simp)⟩
 case round=>
  obtain⟨k,hk,rfl,hW,hr⟩:=hrel;by_cases hlt:k<L.length
  ·obtain⟨ad,rfl,hb,d0,d1,d2,d3,d4⟩:=(Reads.later HR.out hW).cell5 hlt
   have htk:=zae L k (false,0,[],0,0) hlt;have hmem:L.getD k (false,0,[],0,0)∈L:=by rw[List.getD_eq_getElem?_getD,List.getElem?_eq_getElem hlt];exact List.getElem_mem hlt
   have hy:=HL.out _ hmem;have R1:=fun(W:World)=>zfj (w:=W) (b:=(L.getD k (false,0,[],0,0)).1) (n:=(L.getD k (false,0,[],0,0)).2.1) (s:=(L.getD k (false,0,[],0,0)).2.2.1) (x:=(L.getD k (false,0,[],0,0)).2.2.2.1) (y:=(L.getD k (false,0,[],0,0)).2.2.2.2) (cn:=[]) (t:=t) (nu:=false) hy
   have hno:zac (L.getD k (false,0,[],0,0)) t false=false->M=false:=fun e=>by
    rw[HM.out];refine Bool.eq_false_iff.2 fun e2=>?_
    have:=(List.all_eq_true.1 e2) _ hmem;rw[e] at this;cases this
   have hyes:zac (L.getD k (false,0,[],0,0)) t false=true-> ∀c∈L.take (k+1),zac c t false=true:=fun e c hc=>by
    rw[htk] at hc;rcases List.mem_append.1 hc with hc|hc
    ·exact hr.out c hc
    ·rw[List.mem_singleton.1 hc];exact e
   clear htk hmem hy hr;generalize L.getD k (false,0,[],0,0)=y at*;obtain⟨y0,y1,y2,y3,y4⟩:=y;dsimp only at R1 d0 d1 d2 d3 d4;generalize zac (y0,y1,y2,y3,y4) t false=m at*;have R1:Hid (∀W,Calls Tryz.prog 52 #[.agg #[.bool y0,.int .i64 y1,.string (zad y2),.int .i64 y3,.int .i64 y4],.agg #[.string ⟨#[]⟩,.int .i64 t,.bool false]] W (zap (.bool m) W)):=Hz R1;have hno:=Hz hno;have hyes:=Hz hyes;have ha:New wr (wr.alloc (.cells #[.bool y0,.int .i64 y1,.string (zad y2),.int .i64 y3,.int .i64 y4] 61)):=(Below.refl _ _).alloc (Nat.le_refl _) _;go_wp2_with fail
   refine(R1.out _).mono ?_;rintro e w1 ⟨rfl,b1⟩;have hl:=New.trans (New.trans hW ha) b1;cases m with
   |false=>
    have hm:=hno.out (by trivial);have HM2:=Hz hm;clear hno hyes hm;go_wp2_with fail
    go_ret
    exact⟨by rw[HM2.out];rfl,hl⟩
   |true=>
    have hy2:=hyes.out (by trivial);have HY2:=Hz hy2;clear hno hyes hy2;go_wp2_with fail
    go_roundw
    case rel=>exact⟨k+1,by omega,by go_num,hl,HY2⟩
    case measure=>simp[intOf];omega
  ·obtain rfl:k=L.length:=by omega
   have hr2:=hr.out;rw[List.take_length] at hr2;have HM2:Hid (M=true):=Hz (by rw[HM.out];exact List.all_eq_true.2 hr2);clear hr hr2;go_wp2_with fail
   go_ret
   exact⟨by rw[HM2.out];rfl,hW⟩
theorem qan(L:List zab)(k:Nat)(h:k<L.length):(zdx (L.take k)++List.replicate (L.length-k) 0).set k (u64N (L.getD k (false,0,[],0,0)).2.1)=zdx (L.take (k+1))++List.replicate (L.length-(k+1)) 0:=by
 have hl:(zdx (L.take k)).length=k:=by unfold zdx;rw[List.length_map,List.length_take];omega
 rw[List.set_append_right _ _ (by omega),hl,Nat.sub_self,show L.length-k=(L.length-(k+1))+1 by omega,List.replicate_succ,List.set_cons_zero,zae L k (false,0,[],0,0) h];unfold zdx;rw[List.map_append,List.append_assoc];rfl
theorem zub(n:Int):IntKind.u64.wrap n=(u64N n:Int):=by rw[IntKind.wrap_u64];unfold u64N;omega
set_option maxRecDepth 100000 in
theorem zsh{w:World}{A:Option Addr}{n c:Nat}{L:List zab}(h:Reads w w.heap.size 5 A n (recs zam L))(hn:n<=65536):
 Calls Tryz.prog 155 #[.slice A n c] w (OptB (zn3 (zdx L) 1) w):=by
 obtain rfl:=h.lenCell;have HR:=Hz h;clear h;go_enter Tryz.func155,Tryz.ntmps155
 go_wp2_with (first
  |(refine zb7 elW rfl (.tmp 8) (.tmp 8) rfl (W:=w) (B:=w.heap.size) L.length L.length rfl rfl rfl rfl (by omega) (Below.refl _ _) (Nat.le_refl _) rfl (by omega) (by simp only[maxLen];omega) ?_
    intro w3 hown3 hg3 hb3 hs3))
 go_loopw [12] (fun i wr=>∃k:Nat,k<=L.length/\i= .int .i64 (k:Int)/\Own wr w.heap.size 87 (.slice (some ⟨w.heap.size,0,none⟩) L.length L.length) (za3 .u64 (zdx (L.take k)++List.replicate (L.length-k) 0))/\Below w.heap.size w wr) (fun i _=>L.length-(intOf i).toNat)
 case atStart=>exact⟨0,Nat.zero_le _,rfl,by simpa[zbx,zdx] using hown3,hb3⟩
 case round=>
  obtain⟨k,hk,rfl,hown,hbl⟩:=hrel;clear hown3 hg3 hb3 hs3;by_cases hlt:k<L.length
  ·obtain⟨ad,rfl,hb,d0,d1,d2,d3,d4⟩:=(Reads.later HR.out hbl).cell5 hlt
   have hset:=qan L k hlt;have hwr:=zub (L.getD k (false,0,[],0,0)).2.1;have hsz:=hbl.size;generalize L.getD k (false,0,[],0,0)=y at*;obtain⟨y0,y1,y2,y3,y4⟩:=y;dsimp only at hset hwr d0 d1 d2 d3 d4;generalize u64N y1=z at*;have ha:New wr (wr.alloc (.cells #[.bool y0,.int .i64 y1,.string (zad y2),.int .i64 y3,.int .i64 y4] 61)):=(Below.refl _ _).alloc (Nat.le_refl _) _;obtain⟨hg0,hgl,hc,hf,hs⟩:=(hown.later ha).num0 (i:=k) hlt;have hs:=hs z;rw[hset] at hs;have HS:=Hz hs;have hbl2:=New.trans hbl ha;have HB:=Hz (hbl2.setCell (p:=⟨w.heap.size,k,none⟩) (Nat.le_refl _) (.int .u64 (z:Int)));clear hset hs hown;go_wp2_with fail
   go_roundw
   case rel=>exact⟨k+1,by omega,by go_num,HS.out,HB.out⟩
   case measure=>simp[intOf];omega
  ·obtain rfl:k=L.length:=by omega
   rw[Nat.sub_self,List.replicate_zero,List.append_nil,List.take_length] at hown;have P:=Hz (zm9 (c:=L.length) 1 hown.reads (fun x hx=>by unfold zdx at hx;obtain⟨y,_,rfl⟩:=List.mem_map.1 hx;have:=zw0 y.2.1;omega) (by omega) (by omega) (by omega));go_wp2_with fail
   refine P.out.mono ?_;intro e w5 h5;have hz:=hbl.size;generalize zn3 (zdx L) 1=o at*;cases o with
   |none=>
    obtain⟨rfl,b5⟩:=h5;go_wp2_with fail
    go_ret2
    exact⟨rfl,hbl.trans (Below.mono b5 hz)⟩
   |some l=>
    obtain⟨A5,n5,c5,rfl,o5,b5⟩:=h5;go_wp2_with fail
    go_ret2
    exact⟨_,_,_,rfl,o5.base_le hz,hbl.trans (Below.mono b5 hz)⟩
theorem qg4:(vp 18446744073709551615).length=10:=by rw[zfr (by omega),zfr (by omega),zfr (by omega),zfr (by omega),zfr (by omega),zfr (by omega),zfr (by omega),zfr (by omega),zfr (by omega),zez (by omega)];rfl
def qao(w:World)(e:Ending)(w':World):Prop:=∃r:Nat,e= .returned (.int .i64 (r:Int))/\r<=10000000000/\New w w'
set_option maxRecDepth 100000 in
theorem qap{w:World}{A:Option Addr}{n c:Nat}{L:List zab}(h:Reads w w.heap.size 5 A n (recs zam L))(hn:n<=65536)(hL:∀y∈L,y.2.2.1.length<=65536):
 Calls Tryz.prog 156 #[.slice A n c] w (qao w):=by
 obtain rfl:=h.lenCell;have HR:=Hz h;have HL:=Hz hL;clear h hL;go_enter Tryz.func156,Tryz.ntmps156
 go_wp2_with fail
 go_loopw [3,8] (fun v i wr=>∃k r:Nat,k<=L.length/\i= .int .i64 (k:Int)/\v= .int .i64 (r:Int)/\r<=k*65546/\New w wr) (fun _ i _=>L.length-(intOf i).toNat)
 case atStart=>exact⟨0,0,Nat.zero_le _,rfl,rfl,by omega,New.refl _⟩
 case round=>
  obtain⟨k,r,hk,rfl,rfl,hr,hW⟩:=hrel;by_cases hlt:k<L.length
  ·obtain⟨ad,rfl,hb,d0,d1,d2,d3,d4⟩:=(Reads.later HR.out hW).cell5 hlt
   have hy:=HL.out (L.getD k (false,0,[],0,0)) (by rw[List.getD_eq_getElem?_getD,List.getElem?_eq_getElem hlt];exact List.getElem_mem hlt);generalize L.getD k (false,0,[],0,0)=y at*;obtain⟨y0,y1,y2,y3,y4⟩:=y;dsimp only at hy d0 d1 d2 d3 d4;have zs:=zbh y2;have HY:=Hz (Blk.new wr 61 #[.bool y0,.int .i64 y1,.string (zad y2),.int .i64 y3,.int .i64 y4]);have ha:New wr (wr.alloc (.cells #[.bool y0,.int .i64 y1,.string (zad y2),.int .i64 y3,.int .i64 y4] 61)):=(Below.refl _ _).alloc (Nat.le_refl _) _;have SZ:Hid (∀W,Calls Tryz.prog 118 #[.int .u64 18446744073709551615] W (zdw (.int .i64 10) W)):=Hz fun W=>(zys 18446744073709551615 W (by omega)).mono (by rintro e w' ⟨rfl,rfl⟩;exact⟨by rw[qg4];rfl,rfl⟩)
   have w1:IntKind.i64.wrap (10+(y2.length:Int))=10+(y2.length:Int):=IntWalk.i64_in _ (by omega);have w2:IntKind.i64.wrap ((r:Int)+(10+(y2.length:Int)))=(r:Int)+(10+(y2.length:Int)):=IntWalk.i64_in _ (by omega);go_wp2_with fail
   refine zat New [(true,0),(true,2),(true,3),(true,4),(false,1),(true,5),(true,6),(true,7)] New.refl New.trans (by kernel_rfl) (by kernel_rfl) (by kernel_rfl) (by kernel_rfl) ?_;have hU:=New.drew (wr.alloc (.cells #[.bool y0,.int .i64 y1,.string (zad y2),.int .i64 y3,.int .i64 y4] 61));repeat(first
    |(refine zbb rfl rfl (fun K hK=>?_);go_simp
      (with_reducible refine(SZ.out _).mono ?_);rintro e w6 ⟨rfl,rfl⟩
      refine hK _ _ (New.refl _) ?_;clear hK)
    |(refine zjw rfl rfl ?_;simp only[Act.put,List.setIfInBounds_toArray,List.set_cons_zero,List.set_cons_succ])
    |(refine za1 rfl rfl (v:=?_) (fun W hQ=>?_) ?_;rotate_left;(obtain⟨z0,z1,z2,z3,z4⟩:=zcl (HY.out.below (New.trans hU hQ) HY.out.lt);go_simp<;> with_reducible rfl);simp only[Act.put,List.setIfInBounds_toArray,List.set_cons_zero,List.set_cons_succ]))
   refine zc3 ?_;go_wp2_with fail
   go_roundw
   case rel=>exact⟨k+1,r+(10+y2.length),by omega,by go_num,by simp,by omega,New.trans (New.trans hW ha) hU⟩
   case measure=>simp[intOf];omega
  ·obtain rfl:k=L.length:=by omega
   go_wp2_with fail
   go_ret
   exact⟨r,rfl,by omega,hW⟩
end Go.Proofs.Y
namespace Go.Hm
open Go Go.RowKit
theorem zw2{c:zab}(h:zac c 3 false=true):c.2.2.1=[]:=by have h0:=zge h;unfold zac at h;rw[h0] at h;simp at h;exact h.1.2
theorem znb{c:zab}{t:Int}(h:zac c t false=true):t=0\/t=1\/t=2\/t=3:=by
 have h0:=zge h;unfold zac at h;rw[h0] at h;by_cases h1:t=0
 ·exact .inl h1
 ·by_cases h2:t=1
  ·exact .inr (.inl h2)
  ·by_cases h3:t=2
   ·exact .inr (.inr (.inl h3))
   ·by_cases h4:t=3
    ·exact .inr (.inr (.inr h4))
    ·simp[h1,h2,h3,h4] at h
end Go.Hm
namespace Go.Proofs.Y
open Go.RowKit Go.Hm
def qiw(W0:World)(B base:Nat)(l:List Nat)(e:Ending)(w':World):Prop:=∃A n c,e= .returned (.slice A n c)/\Own w' base 5 (.slice A n c) (za3 .u8 l)/\Below B W0 w'
set_option maxRecDepth 100000 in
theorem qe7{w W0:World}{B base:Nat}{A:Option Addr}{n cap:Nat}{l:List Nat}{t:Int}{c:zab}(o:Own w base 5 (.slice A n cap) (za3 .u8 l))(hb:Below B W0 w)(hbB:B<=base)(hbase:base<=w.heap.size)(hn:n<=100000000000)
 (hr:zac c t false=true)(ht:t≠1)(h8:∀z∈c.2.2.1,z<256)(hi: -9223372036854775808<=c.2.1/\c.2.1<=9223372036854775807):
 Calls Tryz.prog 157 #[.slice A n cap,.int .i64 t,zcz c] w (qiw W0 B base (l++plE t c)):=by
 have h2:=fun(e:t=2)=>z4r (by rw[<-e];exact hr)
 have h3:=fun(e:t=3)=>zmf (by rw[<-e];exact hr)
 have h4:=fun(e:t=3)=>zw2 (by rw[<-e];exact hr)
 have h1:=znb hr;clear hr;obtain⟨y0,y1,y2,y3,y4⟩:=c;dsimp only at h2 h3 h4 h8 hi;unfold plE;dsimp only;show Calls Tryz.prog 157 #[.slice A n cap,.int .i64 t,.agg #[.bool y0,.int .i64 y1,.string (zad y2),.int .i64 y3,.int .i64 y4]] w _;have B0:=Blk.new w 61 #[.bool y0,.int .i64 y1,.string (zad y2),.int .i64 y3,.int .i64 y4];obtain⟨x0,x1,x2,x3,x4⟩:=zcl B0;have ha:New w (w.alloc (.cells #[.bool y0,.int .i64 y1,.string (zad y2),.int .i64 y3,.int .i64 y4] 61)):=(Below.refl _ _).alloc (Nat.le_refl _) _;have o1:=o.later ha;have b1:Below B W0 (w.alloc (.cells #[.bool y0,.int .i64 y1,.string (zad y2),.int .i64 y3,.int .i64 y4] 61)):=hb.trans (Below.mono ha (by omega));have zs:=zbh y2;have hz1:=ha.size;clear o hb;rcases h1 with rfl|rfl|rfl|rfl
 ·rw[if_pos rfl]
  have HL:=Hz (zbg (u64N y1) 8);have U:=Hz (fun(W:World)=>qeq (w:=W) (A:=none) (n:=0) (c:=0) (l:=[]) (u64N y1) Reads.none_ (by omega));have hw:=zub y1;generalize u64N y1=z at*;go_enter Tryz.func157,Tryz.ntmps157
  go_wp2_with fail
  refine(U.out _).mono ?_;rintro e w2 ⟨A2,n2,c2,rfl,k2,b2⟩;rw[List.nil_append] at k2;have o2:=o1.later b2;have b02:Below B W0 w2:=b1.trans (Below.mono b2 (by omega));have q2:n2<=8:=by have:=k2.len;rw[zaa,HL.out] at this;omega
  have hz2:=b2.size;have r2:=k2.reads;clear k2 b2
  go_wp2_with (refine zas elB rfl (.tmp 19) (.tmp 23) rfl (W:=W0) (B:=B) o2 r2 rfl rfl b02 hbB (by omega) (by omega) (by simp only[maxLen];omega) ?_
               intro A3 c3 w3 _ _ o3 _ b3 _)
  go_ret
  exact⟨_,_,_,rfl,o3,b3⟩
 ·exact absurd rfl ht
 ·rw[if_neg (by decide),if_pos rfl]
  have hl2:=h2 rfl;have V:=Hz (zaj (n:=y2.length) (by omega));have P:=Hz (fun(W:World)=>zcx none 0 0 [] y2.length W Reads.none_ (by omega) (by omega));have hw:IntKind.u64.wrap (y2.length:Int)=(y2.length:Int):=by rw[IntKind.wrap_u64];omega
  clear h2 h3 h4;go_enter Tryz.func157,Tryz.ntmps157
  go_wp2_with fail
  refine(P.out _).mono ?_;rintro e w2 ⟨A2,n2,c2,rfl,k2,b2⟩;rw[List.nil_append] at k2;have o2:=o1.later b2;have b02:Below B W0 w2:=b1.trans (Below.mono b2 (by omega));have q2:n2<=10:=by have:=k2.len;rw[zaa] at this;have:=V.out;omega
  have hz2:=b2.size;have r2:=k2.reads;have B2:=B0.below b2 B0.lt;clear k2 b2 x0 x1 x2 x3 x4;go_wp2_with (first
   |(refine zas elB rfl (.tmp 36) (.tmp 38) rfl (W:=W0) (B:=B) o2 r2 rfl rfl b02 hbB (by omega) (by omega) (by simp only[maxLen];omega) ?_
     intro A3 c3 w3 _ _ o3 g3 b3 _;obtain⟨x0,x1,x2,x3,x4⟩:=zcl (B2.push o2 g3 (by decide));have hz3:=g3.size)
   |(refine zev elB qdp rfl (.tmp 40) (.tmp 42) rfl (W:=W0) (B:=B) o3 h8 rfl rfl b3 hbB (by omega) (by omega) ?_
     intro A4 c4 w4 _ _ o4 _ b4))
  go_ret
  exact⟨_,_,_,rfl,by rw[<-List.append_assoc];exact o4,b4⟩
 ·rw[if_neg (by decide),if_neg (by decide),if_pos rfl]
  obtain⟨⟨p1,p2⟩,p3,p4⟩:=h3 rfl;have he:=h4 rfl;subst he;have V1:=Hz (zaj (n:=zig y3) (by unfold zig;split<;> omega));have V2:=Hz (zaj (n:=zig y4) (by unfold zig;split<;> omega));have Z1:=Hz (fun(W:World)=>zn6 y3 W (by omega) (by omega));have Z2:=Hz (fun(W:World)=>zn6 y4 W (by omega) (by omega));have P1:=Hz (fun(W:World)=>zcx none 0 0 [] (zig y3) W Reads.none_ (by omega) (by unfold zig;split<;> omega));have P2:=Hz (fun(W:World)=>zcx none 0 0 [] (zig y4) W Reads.none_ (by omega) (by unfold zig;split<;> omega));clear h2 h3 h4;generalize zig y3=z3 at*;generalize zig y4=z4 at*;go_enter Tryz.func157,Tryz.ntmps157
  go_wp2_with fail
  refine(Z1.out _).mono ?_;rintro e w2 ⟨rfl,rfl⟩;go_wp2_with fail
  refine(P1.out _).mono ?_;rintro e w2 ⟨A2,n2,c2,rfl,k2,b2⟩;rw[List.nil_append] at k2;have o2:=o1.later b2;have b02:Below B W0 w2:=b1.trans (Below.mono b2 (by omega));have q2:n2<=10:=by have:=k2.len;rw[zaa] at this;have:=V1.out;omega
  have hz2:=b2.size;have r2:=k2.reads;have B2:=B0.below b2 B0.lt;clear k2 b2 x0 x1 x2 x3 x4
  go_wp2_with (refine zas elB rfl (.tmp 25) (.tmp 30) rfl (W:=W0) (B:=B) o2 r2 rfl rfl b02 hbB (by omega) (by omega) (by simp only[maxLen];omega) ?_
               intro A3 c3 w3 _ _ o3 g3 b3 _;have B3:=B2.push o2 g3 (by decide);obtain⟨x0,x1,x2,x3,x4⟩:=zcl B3;have hz3:=g3.size)
  refine(Z2.out _).mono ?_;rintro e w4 ⟨rfl,rfl⟩;go_wp2_with fail
  refine(P2.out _).mono ?_;rintro e w4 ⟨A4,n4,c4,rfl,k4,b4⟩;rw[List.nil_append] at k4;have o4:=o3.later b4;have b04:Below B W0 w4:=b3.trans (Below.mono b4 (by omega));have q4:n4<=10:=by have:=k4.len;rw[zaa] at this;have:=V2.out;omega
  have hz4:=b4.size;have r4:=k4.reads;have B4:=B3.below b4 B3.lt;clear k4 b4 x0 x1 x2 x3 x4;go_wp2_with (first
   |(refine zas elB rfl (.tmp 36) (.tmp 38) rfl (W:=W0) (B:=B) o4 r4 rfl rfl b04 hbB (by omega) (by omega) (by simp only[maxLen];omega) ?_
     intro A5 c5 w5 _ _ o5 g5 b5 _;obtain⟨x0,x1,x2,x3,x4⟩:=zcl (B4.push o4 g5 (by decide));have hz5:=g5.size)
   |(refine zev elB qdp rfl (.tmp 40) (.tmp 42) rfl (W:=W0) (B:=B) o5 (l2:=[]) (by simp) rfl rfl b5 hbB (by omega) (by simp;omega) ?_
     intro A6 c6 w6 _ _ o6 _ b6))
  go_ret
  exact⟨_,_,_,rfl,by rw[List.append_nil] at o6;rw[<-List.append_assoc];exact o6,b6⟩
theorem z4t{t:Int}{L:List zab}{k:Nat}(h:k<L.length):(L.take (k+1)).flatMap (plE t)=(L.take k).flatMap (plE t)++plE t (L.getD k (false,0,[],0,0)):=by rw[zae L k (false,0,[],0,0) h,List.flatMap_append];simp
theorem zsi{t:Int}:∀l:List zab,(∀c∈l,zac c t false=true)->(∀c∈l,c.2.2.1.length<=65536)->(l.flatMap (plE t)).length<=l.length*65556
 | [],_,_=>by simp
 |c::l,h,k=>by
  have a:=zsi l (fun d hd=>h d (by simp[hd])) (fun d hd=>k d (by simp[hd]));have b:=zln (h c (by simp));have d:=k c (by simp);rw[List.flatMap_cons,List.length_append,List.length_cons];omega
theorem zg1{c:zab}{t:Int}(h:zac c t false=true):c.2.2.1.length<=65536:=by
 have h0:=zge h;rcases znb h with rfl|rfl|rfl|rfl
 ·unfold zac at h
  rw[h0] at h;simp at h;rw[h.1];simp
 ·unfold zac at h
  rw[h0] at h;simp at h;rw[h.1.1];simp
 ·exact z4r h
 ·rw[zw2 h]
  simp
def zai(c:zab):Prop:=(c.2.2.1.length<=140737488351232/\ ∀z∈c.2.2.1,z<256)/\ -9223372036854775808<=c.2.1/\c.2.1<=9223372036854775807
set_option maxRecDepth 100000 in
theorem zkq{w:World}{t:Int}{A:Option Addr}{n c:Nat}{L:List zab}(h:Reads w w.heap.size 5 A n (recs zam L))(hL:∀y∈L,zai y)(hn:n<=4611686018427387903):
 Calls Tryz.prog 120 #[.int .i64 t,.slice A n c] w (OptB (plO t L) w):=by
 obtain rfl:=h.lenCell;have HR:=Hz h;have AR:=Hz (zmg (t:=t) (c:=c) h (fun y hy=>(hL y hy).1.1) hn);have KN:=Hz (zko (w:=w) (t:=t) (n:=(L.length:Int)));have ek:zhs t L=(decide (0<=t/\t<=3/\0<=(L.length:Int)/\(L.length:Int)<=65536)&&L.all fun c=>zac c t false):=by
  unfold zhs;congr 1
  rw[decide_eq_decide];omega
 obtain⟨M,hM⟩:∃M,M=plO t L:=⟨_,rfl⟩;rw[<-hM];unfold plO at hM;by_cases hk:(0<=t/\t<=3/\0<=(L.length:Int)/\(L.length:Int)<=65536)
 ·rw[decide_eq_true hk] at KN ek
  cases ha:L.all fun c=>zac c t false with
  |false=>
   rw[ha] at AR;rw[ek,ha] at hM;simp at hM;have HM:=Hz hM;clear hM ek ha hL h;go_enter Tryz.func120,Tryz.ntmps120
   go_wp2_with fail
   refine KN.out.mono ?_;rintro e w1 ⟨rfl,rfl⟩;go_wp2_with fail
   refine AR.out.mono ?_;rintro e w1 ⟨rfl,b1⟩;go_wp2_with fail
   go_ret2
   rw[HM.out];exact⟨rfl,b1⟩
  |true=>
   rw[ha] at AR;rw[ek,ha] at hM;simp at hM;have hR:=List.all_eq_true.1 ha;have hn2:L.length<=65536:=by omega
   by_cases h1:t=1
   ·subst h1
    have hP:=zfi (zdx L) 1 (by omega) (by unfold zdx;rw[List.length_map];omega) (zod hR);have hM2:M=zn3 (zdx L) 1:=by rw[hM];unfold plB;rw[if_pos rfl];refine Eq.trans ?_ hP.symm;unfold zdx;rw[List.length_map]
    have HM:=Hz hM2;have PB:=Hz (fun(W:World) (hW:New w W)=>zsh (c:=c) (Reads.later HR.out hW) hn2);clear hM hM2 hP ek ha hR hL h;go_enter Tryz.func120,Tryz.ntmps120
    go_wp2_with fail
    refine KN.out.mono ?_;rintro e w1 ⟨rfl,rfl⟩;go_wp2_with fail
    refine AR.out.mono ?_;rintro e w1 ⟨rfl,b1⟩;go_wp2_with fail
    refine(PB.out _ b1).mono ?_;intro e w2 h2;rw[<-HM.out] at h2;cases M with
    |none=>
     obtain⟨rfl,b2⟩:=h2;go_wp2_with fail
     go_ret2
     exact⟨rfl,New.trans b1 b2⟩
    |some l=>
     obtain⟨A2,n2,c2,rfl,o2,b2⟩:=h2;go_wp2_with fail
     go_ret2
     exact⟨_,_,_,rfl,o2.base_le b1.size,New.trans b1 b2⟩
   ·have hM2:M=some (L.flatMap (plE t)):=by rw[hM];unfold plB;rw[if_neg h1]
    have HM:=Hz hM2;have HR2:=Hz hR;have hx:∀c∈L,c.2.2.1.length<=65536:=fun c hc=>zg1 (hR c hc)
    have HX:=Hz hx;have HD:=Hz hL;have RM:=Hz (fun(W:World) (hW:New w W)=>qap (c:=c) (Reads.later HR.out hW) hn2 hx);clear hM hM2 ek ha hR hL h hx;go_enter Tryz.func120,Tryz.ntmps120
    go_wp2_with fail
    refine KN.out.mono ?_;rintro e w1 ⟨rfl,rfl⟩;go_wp2_with fail
    refine AR.out.mono ?_;rintro e w1 ⟨rfl,b1⟩;go_wp2_with fail
    refine(RM.out _ b1).mono ?_;rintro e w2 ⟨r,rfl,hr,b2⟩;have b02:=New.trans b1 b2;have hz2:=b02.size
    go_wp2_with (refine zb7 elB rfl (.const (.int .i64 0)) (.tmp 27) rfl (W:=w) (B:=w.heap.size) 0 r rfl rfl rfl rfl (by omega) b02 hz2 rfl (by omega) (by simp only[maxLen];omega) ?_
                 intro w3 o3 _ b3 hs3)
    go_loopw [6,31] (fun v i wr=>∃(k m cc:Nat) (AA:Option Addr),k<=L.length/\i= .int .i64 (k:Int)/\v= .slice AA m cc/\Own wr w.heap.size 5 (.slice AA m cc) (za3 .u8 ((L.take k).flatMap (plE t)))/\Below w.heap.size w wr) (fun _ i _=>L.length-(intOf i).toNat)
    case atStart=>exact⟨0,0,r,_,Nat.zero_le _,rfl,rfl,by have:=o3.base_le hz2;simpa[za3] using this,b3⟩
    case round=>
     obtain⟨k,m,cc,AA,hk2,rfl,rfl,o,b⟩:=hrel;clear o3 b3 hs3 b1 b2 b02 hz2;by_cases hlt:k<L.length
     ·obtain⟨ad,rfl,hb,d0,d1,d2,d3,d4⟩:=(Reads.later HR.out b).cell5 hlt
      have hmem:L.getD k (false,0,[],0,0)∈L:=by rw[List.getD_eq_getElem?_getD,List.getElem?_eq_getElem hlt];exact List.getElem_mem hlt
      have hfs:=z4t (t:=t) hlt;have hfl:=zsi (L.take k) (fun c hc=>HR2.out c (List.mem_of_mem_take hc)) (fun c hc=>HX.out c (List.mem_of_mem_take hc));rw[List.length_take] at hfl;have hm:m<=100000000000:=by have:=o.len;rw[zaa] at this;have:=Nat.min_le_left k L.length;omega
      have h8:=HD.out _ hmem;have hry:=HR2.out _ hmem;clear hmem hfl;generalize L.getD k (false,0,[],0,0)=y at*;have hz:=b.size;have ha:New wr (wr.alloc (.cells (zam y).toArray 61)):=(Below.refl _ _).alloc (Nat.le_refl _) _;have LY:=qe7 (W0:=w) (B:=w.heap.size) (o.later ha) (b.trans (Below.mono ha hz)) (Nat.le_refl _) (by have:=ha.size;omega) hm hry h1 h8.1.2 h8.2;rw[<-hfs] at LY;obtain⟨y0,y1,y2,y3,y4⟩:=y;have LY:Hid (Calls Tryz.prog 157 #[.slice AA m cc,.int .i64 t,.agg #[.bool y0,.int .i64 y1,.string (zad y2),.int .i64 y3,.int .i64 y4]] (wr.alloc (.cells #[.bool y0,.int .i64 y1,.string (zad y2),.int .i64 y3,.int .i64 y4] 61)) (qiw w w.heap.size w.heap.size ((L.take (k+1)).flatMap (plE t)))):=Hz LY;dsimp only at d0 d1 d2 d3 d4;clear hfs o b h8 hry;go_wp2_with fail
      refine LY.out.mono ?_;rintro e w5 ⟨A5,n5,c5,rfl,o5,b5⟩;go_wp2_with fail
      go_roundw
      case rel=>exact⟨k+1,n5,c5,A5,by omega,by go_num,rfl,o5,b5⟩
      case measure=>simp[intOf];omega
     ·obtain rfl:k=L.length:=by omega
      rw[List.take_length] at o;go_wp2_with fail
      go_ret2
      rw[HM.out];exact⟨_,_,_,rfl,o,b⟩
 ·rw[decide_eq_false hk] at KN ek
  rw[ek] at hM;simp at hM;have HM:=Hz hM;clear hM ek AR hL h;go_enter Tryz.func120,Tryz.ntmps120
  go_wp2_with fail
  refine KN.out.mono ?_;rintro e w1 ⟨rfl,rfl⟩;go_wp2_with fail
  go_ret2
  rw[HM.out];exact⟨rfl,Below.refl _ _⟩
end Go.Proofs.Y
