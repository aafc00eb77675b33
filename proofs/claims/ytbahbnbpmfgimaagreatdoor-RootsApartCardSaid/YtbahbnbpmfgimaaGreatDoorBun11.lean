/- Merged. -/
import Derived.Test.YtbahbnbpmfgimaaGreatDoorBun10
import Derived.Test.YtbahbnbpmfgimaaGreatDoorBun9
set_option maxHeartbeats 2000000
namespace Go.Hm
open Go Go.RowKit
theorem qhu{w:World}{g:Nat}{ty:TypeId}{s:S8}(h:Blk w g ty (zbu s)):w.cell? ⟨g,0,none⟩=some (.int .u32 s.1)/\w.cell? ⟨g,1,none⟩=some (.int .u32 s.2.1)/\w.cell? ⟨g,2,none⟩=some (.int .u32 s.2.2.1)/\w.cell? ⟨g,3,none⟩=some (.int .u32 s.2.2.2.1)/\w.cell? ⟨g,4,none⟩=some (.int .u32 s.2.2.2.2.1)/\w.cell? ⟨g,5,none⟩=some (.int .u32 s.2.2.2.2.2.1)/\w.cell? ⟨g,6,none⟩=some (.int .u32 s.2.2.2.2.2.2.1)/\w.cell? ⟨g,7,none⟩=some (.int .u32 s.2.2.2.2.2.2.2):=by have e:∀i,w.cell? ⟨g,i,none⟩=(zbu s)[i]? :=h.cell;exact⟨e 0,e 1,e 2,e 3,e 4,e 5,e 6,e 7⟩
def ConstIn(w:World):Prop:=1<w.heap.size/\ ∀i,i<64->w.cell? ⟨1,i,none⟩=some (.int .u32 (kI.getD i 0))
theorem zi2(s:S8):(zbu s).all (·.oneCell')=true:=by simp[zbu,Value.oneCell']
theorem zbh(w:World)(t:TypeId)(old cs:Array Value):(w.alloc (.cells old t)).setRow w.heap.size cs=w.alloc (.cells cs t):=by
 unfold World.alloc World.setRow;congr 1
 apply Array.ext_getElem?;intro i;simp only[Array.getElem?_modify,Array.getElem?_push];by_cases h:i=w.heap.size
 ·subst h;simp
 ·simp[h];intro h2;exact absurd h2.symm h
theorem ConstIn.new{w w':World}(h:ConstIn w)(hb:New w w'):ConstIn w':=⟨Nat.lt_of_lt_of_le h.1 hb.size,fun i hi=>(hb.cell h.1).trans (h.2 i hi)⟩
end Go.Hm
namespace Go.Proofs.Y
open Go.RowKit Go.Hm
set_option maxRecDepth 100000 in
theorem zmq{w:World}(s:S8)(hs:OkS s)(B:List Nat)(hB:B.length=64)(h8:∀x∈B,x<256)(hC:ConstIn w):
 Calls Tryz.prog 46 #[.agg (zbu s),.agg (zao .u8 B).toArray] w (zal (.agg (zbu (z1o s B))) w):=by
 obtain⟨W0,hW0⟩:∃W,W=((w.alloc (.cells (zbu s) 98)).alloc (.cells (zao .u8 B).toArray 101)).alloc (.cells (zbu (0,0,0,0,0,0,0,0)) 98):=⟨_,rfl⟩;have e1:(w.alloc (.cells (zbu s) 98)).heap.size=w.heap.size+1:=by simp
 have e2:((w.alloc (.cells (zbu s) 98)).alloc (.cells (zao .u8 B).toArray 101)).heap.size=w.heap.size+1+1:=by simp
 have b0:New w W0:=by rw[hW0];exact(((Below.refl _ _).alloc (Nat.le_refl _) _).alloc (by simp) _).alloc (by simp;omega) _
 have A0:Blk W0 w.heap.size 98 (zbu s):=by rw[hW0];exact((Blk.new _ _ _).alloc _).alloc _
 have P0:Blk W0 (w.heap.size+1) 101 (zao .u8 B).toArray:=by rw[hW0,<-e1];exact(Blk.new _ _ _).alloc _
 have R0:Blk W0 (w.heap.size+1+1) 98 (zbu (0,0,0,0,0,0,0,0)):=by rw[hW0,<-e2];exact Blk.new _ _ _
 have hsz:(zao .u8 B).toArray.size=64:=by simp[zao,hB]
 have hi1:(Tryz.prog.info? 101).map (·.size)=some (zao .u8 B).toArray.size:=by rw[hsz];kernel_rfl
 have L1:=Hz (And.intro (zaz P0) hi1);have SC:=Hz (fun W:World=>z42 (w:=W) B hB h8);have HW:=Hz (show W0=((w.alloc (.cells #[.int .u32 s.1,.int .u32 s.2.1,.int .u32 s.2.2.1,.int .u32 s.2.2.2.1,.int .u32 s.2.2.2.2.1,.int .u32 s.2.2.2.2.2.1,.int .u32 s.2.2.2.2.2.2.1,.int .u32 s.2.2.2.2.2.2.2] 98)).alloc (.cells (zao .u8 B).toArray 101)).alloc (.cells #[.int .u32 0,.int .u32 0,.int .u32 0,.int .u32 0,.int .u32 0,.int .u32 0,.int .u32 0,.int .u32 0] 98) from hW0);have HA:=Hz A0;have HP:=Hz P0;have HR:=Hz R0;have HB:=Hz b0;have HK:=Hz (hC.new b0);clear hW0 e1 e2 A0 P0 R0 b0 hi1 hsz;have HS:=Hz hs;have h0:=L1.out;rw[HW.out] at h0;have L0:=Hz h0;have hcs:(za0 .u32 (zcp B)).toArray.size=64:=by simp[za0,zqz]
 have hi2:(Tryz.prog.info? 148).map (·.size)=some (za0 .u32 (zcp B)).toArray.size:=by rw[hcs];kernel_rfl
 have CS:=Hz (And.intro hcs (And.intro hi2 (zeo .u32 (zcp B))));have SU:=Hz (qam B h8);have SL:=Hz (zqz B);rw[show(.agg (zbu s):Value)= .agg #[.int .u32 s.1,.int .u32 s.2.1,.int .u32 s.2.2.1,.int .u32 s.2.2.2.1,.int .u32 s.2.2.2.2.1,.int .u32 s.2.2.2.2.2.1,.int .u32 s.2.2.2.2.2.2.1,.int .u32 s.2.2.2.2.2.2.2] from rfl];clear L1 h0 hcs hi2 hB h8 hC hs;go_enter Tryz.func46,Tryz.ntmps46
 go_wp2_with (refine wpList_load_row rfl 101 (.tmp 3) rfl (w.heap.size+1) rfl _ (zao .u8 B).toArray _ _ L0.out.1 (show Tryz.prog.underlying 101=some (.array 64 5) by kernel_rfl) rfl L0.out.2 ?_)
 rw[<-HW.out];refine(SC.out _).mono ?_;rintro e w1 ⟨rfl,b1⟩;clear SC HW L0 HP;go_wp2_with (refine wpList_store_row rfl 148 (.tmp 5) (.tmp 18) rfl w1.heap.size (za0 .u32 (zcp B)).toArray rfl rfl _ _ (heap_alloc_new _ _) CS.out.2.1 (by rw[CS.out.1];rfl) CS.out.2.2 ?_;rw[zbh])
 obtain⟨W2,hW2⟩:∃W,W=w1.alloc (.cells (za0 .u32 (zcp B)).toArray 148):=⟨_,rfl⟩;have b2:New W0 W2:=by rw[hW2];exact New.trans b1 ((Below.refl _ _).alloc (Nat.le_refl _) _)
 have C2:Blk W2 w1.heap.size 148 (za0 .u32 (zcp B)).toArray:=by rw[hW2];exact Blk.new _ _ _
 rw[<-hW2];have F:=Hz (fun(W:World) (hW:New W2 W)=>qhu (HA.out.below (New.trans b2 hW) HA.out.lt));have FK:=Hz (fun(t:Nat) (ht:t<64) (W:World) (hW:New W2 W)=>And.intro ((HK.out.new (New.trans b2 hW)).2 t ht) (zfm (i:=t) (C2.below hW C2.lt) (by rw[SL.out];exact ht)));have HR2:=Hz (HR.out.below b2 HR.out.lt);have HB2:=Hz (New.trans HB.out b2);have hg5:w.heap.size+1+1<W2.heap.size:=HR2.out.lt;generalize hgc:w1.heap.size=gc at*;clear hgc hW2 b1 b2 C2 HA HR HB HK hg5 CS;refine zaw New [(true,0),(true,1),(true,2),(true,3),(true,4),(true,5),(true,6),(true,7),(true,8),(true,9),(true,10),(true,11),(true,12),(true,13),(true,14),(true,15),(true,16),(true,17),(true,18),(true,19),(true,20),(true,21),(true,22),(true,23)]
  New.refl New.trans (by kernel_rfl) (by kernel_rfl) (by kernel_rfl) (by kernel_rfl) ?_
 iterate 24 (
  refine zar rfl rfl (v:=?_) (fun W hW=>?_) ?_;rotate_left
  ·obtain⟨x0,x1,x2,x3,x4,x5,x6,x7⟩:=F.out W (New.trans (New.drew W2) hW)
   go_simp<;> with_reducible rfl
  simp only[Act.put,List.setIfInBounds_toArray,List.set_cons_zero,List.set_cons_succ])
 refine zdh ?_;go_wp2
 go_loopw [6,7,8,9,10,11,12,13,35] (fun a b c d e f g i k wr=>∃t:Nat,t<=64/\k= .int .i64 (t:Int)/\a= .int .u32 (zfb (zcp B) s t).1/\b= .int .u32 (zfb (zcp B) s t).2.1/\c= .int .u32 (zfb (zcp B) s t).2.2.1/\d= .int .u32 (zfb (zcp B) s t).2.2.2.1/\e= .int .u32 (zfb (zcp B) s t).2.2.2.2.1/\f= .int .u32 (zfb (zcp B) s t).2.2.2.2.2.1/\g= .int .u32 (zfb (zcp B) s t).2.2.2.2.2.2.1/\i= .int .u32 (zfb (zcp B) s t).2.2.2.2.2.2.2/\New W2 wr) (fun _ _ _ _ _ _ _ _ k _=>64-(intOf k).toNat)
 case atStart=>exact⟨0,by omega,rfl,rfl,rfl,rfl,rfl,rfl,rfl,rfl,rfl,New.drew W2⟩
 case round=>
  obtain⟨t,ht,rfl,rfl,rfl,rfl,rfl,rfl,rfl,rfl,rfl,b⟩:=hrel;by_cases hlt:t<64
  ·have hok:=z4z (W:=zcp B) HS.out t
   have hst:zfb (zcp B) s (t+1)=qff (kI.getD t 0) ((zcp B).getD t 0) (zfb (zcp B) s t):=rfl;have F2:=Hz (FK.out t hlt);have HST:=Hz hst;generalize hr:zfb (zcp B) s t=r at*;have HRR:=Hz hr;generalize kI.getD t 0=kt at*;generalize(zcp B).getD t 0=wt at*;obtain⟨a,b',c,d,e,f,g,i⟩:=r;obtain⟨ua,ub,uc,ud,ue,uf,ug,ui⟩:=hok;simp only at ua ue HST⊢;have Te6:=Hz (fun W:World=>show Calls Tryz.prog 80 #[.int .u32 e,.int .i64 6] W (zal (.int .u32 (rot e 6)) W) from(ze6 e 6 ue (by omega)).mono fun _ _ h=>h.new);have Te11:=Hz (fun W:World=>show Calls Tryz.prog 80 #[.int .u32 e,.int .i64 11] W (zal (.int .u32 (rot e 11)) W) from(ze6 e 11 ue (by omega)).mono fun _ _ h=>h.new);have Te25:=Hz (fun W:World=>show Calls Tryz.prog 80 #[.int .u32 e,.int .i64 25] W (zal (.int .u32 (rot e 25)) W) from(ze6 e 25 ue (by omega)).mono fun _ _ h=>h.new);have Ta2:=Hz (fun W:World=>show Calls Tryz.prog 80 #[.int .u32 a,.int .i64 2] W (zal (.int .u32 (rot a 2)) W) from(ze6 a 2 ua (by omega)).mono fun _ _ h=>h.new);have Ta13:=Hz (fun W:World=>show Calls Tryz.prog 80 #[.int .u32 a,.int .i64 13] W (zal (.int .u32 (rot a 13)) W) from(ze6 a 13 ua (by omega)).mono fun _ _ h=>h.new);have Ta22:=Hz (fun W:World=>show Calls Tryz.prog 80 #[.int .u32 a,.int .i64 22] W (zal (.int .u32 (rot a 22)) W) from(ze6 a 22 ua (by omega)).mono fun _ _ h=>h.new);have jt:(t:Int)<64:=by omega
   clear ua ub uc ud ue uf ug ui hst hr HRR;have hpI:pI e f g i kt wt=IntKind.u32.wrap (IntKind.u32.wrap (IntKind.u32.wrap (IntKind.u32.wrap (i+bits .xor .u32 (bits .xor .u32 (rot e 6) (rot e 11)) (rot e 25))+bits .xor .u32 (bits .and .u32 e f) (bits .and .u32 (bits .xor .u32 (if IntKind.u32.signed=true then-1 else IntKind.u32.max) e) g))+kt)+wt):=rfl;have hqI:qI a b' c=(bits .xor .u32 (bits .xor .u32 (rot a 2) (rot a 13)) (rot a 22)+bits .xor .u32 (bits .xor .u32 (bits .and .u32 a b') (bits .and .u32 a c)) (bits .and .u32 b' c))%4294967296:=rfl;generalize rot e 6=r6 at*;generalize rot e 11=r11 at*;generalize rot e 25=r25 at*;generalize rot a 2=r2 at*;generalize rot a 13=r13 at*;generalize rot a 22=r22 at*;obtain⟨x1,q1⟩:∃x,bits .xor .u32 r6 r11=x:=⟨_,rfl⟩;obtain⟨x2,q2⟩:∃x,bits .xor .u32 x1 r25=x:=⟨_,rfl⟩;obtain⟨x3,q3⟩:∃x,IntKind.u32.wrap (i+x2)=x:=⟨_,rfl⟩;obtain⟨y1,q4⟩:∃x,bits .and .u32 e f=x:=⟨_,rfl⟩;obtain⟨y2,q5⟩:∃x,bits .xor .u32 (if IntKind.u32.signed=true then-1 else IntKind.u32.max) e=x:=⟨_,rfl⟩;obtain⟨y3,q6⟩:∃x,bits .and .u32 y2 g=x:=⟨_,rfl⟩;obtain⟨y4,q7⟩:∃x,bits .xor .u32 y1 y3=x:=⟨_,rfl⟩;obtain⟨x4,q8⟩:∃x,IntKind.u32.wrap (x3+y4)=x:=⟨_,rfl⟩;obtain⟨x5,q9⟩:∃x,IntKind.u32.wrap (x4+kt)=x:=⟨_,rfl⟩;obtain⟨p,q10⟩:∃x,IntKind.u32.wrap (x5+wt)=x:=⟨_,rfl⟩;rw[q1,q2,q3,q4,q5,q6,q7,q8,q9,q10] at hpI;obtain⟨z1,v1⟩:∃x,bits .xor .u32 r2 r13=x:=⟨_,rfl⟩;obtain⟨z2,v2⟩:∃x,bits .xor .u32 z1 r22=x:=⟨_,rfl⟩;obtain⟨z3,v3⟩:∃x,bits .and .u32 a b'=x:=⟨_,rfl⟩;obtain⟨z4,v4⟩:∃x,bits .and .u32 a c=x:=⟨_,rfl⟩;obtain⟨z5,v5⟩:∃x,bits .xor .u32 z3 z4=x:=⟨_,rfl⟩;obtain⟨z6,v6⟩:∃x,bits .and .u32 b' c=x:=⟨_,rfl⟩;obtain⟨z7,v7⟩:∃x,bits .xor .u32 z5 z6=x:=⟨_,rfl⟩;rw[v1,v2,v3,v4,v5,v6,v7] at hqI;have hst2:=HST.out;rw[show qff kt wt (a,b',c,d,e,f,g,i)=((pI e f g i kt wt+qI a b' c)%4294967296,a,b',c,(d+pI e f g i kt wt)%4294967296,e,f,g) from rfl,hpI,hqI] at hst2;have HST2:=Hz hst2;have QP:=Hz (And.intro q1 (And.intro q2 (And.intro q3 (And.intro q4 (And.intro q5 (And.intro q6 (And.intro q7 (And.intro q8 (And.intro q9 q10)))))))));have QV:=Hz (And.intro v1 (And.intro v2 (And.intro v3 (And.intro v4 (And.intro v5 (And.intro v6 v7))))));clear hst2 hpI hqI HST q1 q2 q3 q4 q5 q6 q7 q8 q9 q10 v1 v2 v3 v4 v5 v6 v7;go_wp2_with fail
   refine zaw New [(true,0),(true,1),(true,3),(true,6),(true,10),(true,11),(true,12),(true,13),(true,14),(true,15),(true,16),(true,17),(true,19),(true,20),(true,21),(true,23),(true,24),(true,25),(false,2),(false,4),(true,5),(false,7),(true,8),(true,9),(true,18),(true,22),(true,26),(true,27)]
    New.refl New.trans (by kernel_rfl) (by kernel_rfl) (by kernel_rfl) (by kernel_rfl) ?_
   have hU:=New.trans b (New.drew wr);repeat(first
    |(refine zar rfl rfl (v:=?_) (fun W hW=>?_) ?_;rotate_left;(obtain⟨o0,o1⟩:=F2.out W (New.trans hU hW);obtain⟨q1,q2,q3,q4,q5,q6,q7,q8,q9,q10⟩:=QP.out;go_simp<;> with_reducible rfl);simp only[Act.put,List.setIfInBounds_toArray,List.set_cons_zero,List.set_cons_succ])
    |(refine za7 rfl rfl (fun K hK=>?_);go_simp
      first
      |(with_reducible refine(Te6.out _).mono ?_)
      |(with_reducible refine(Te11.out _).mono ?_)
      |(with_reducible refine(Te25.out _).mono ?_)
      rintro e9 w9 ⟨rfl,c9⟩;refine hK _ _ c9 ?_;clear hK;replace hU:=New.trans hU c9))
   refine zdh ?_;go_wp2_with fail
   (with_reducible refine(Ta2.out _).mono ?_)
   rintro e9 w2 ⟨rfl,c2⟩;replace hU:=New.trans hU c2;go_wp2_with fail
   (with_reducible refine(Ta13.out _).mono ?_)
   rintro e9 w3 ⟨rfl,c3⟩;replace hU:=New.trans hU c3;obtain⟨v1,v2,v3,v4,v5,v6,v7⟩:=QV.out;go_wp2_with fail
   (with_reducible refine(Ta22.out _).mono ?_)
   rintro e9 w4 ⟨rfl,c4⟩;replace hU:=New.trans hU c4;clear Te6 Te11 Te25 Ta2 Ta13 Ta22 F2 c2 c3 c4 QP QV;go_wp2
   go_roundw
   case rel=>
    refine⟨t+1,by omega,by go_num,?_⟩;rw[HST2.out];exact⟨rfl,rfl,rfl,rfl,rfl,rfl,rfl,rfl,hU⟩
   case measure=>simp[intOf];omega
  ·have ht64:t=64:=by omega
   have HT:=Hz (show qfg s (zfb (zcp B) s t)=z1o s B by rw[ht64];rfl);obtain⟨x0,x1,x2,x3,x4,x5,x6,x7⟩:=F.out wr b;have R3:=Hz (HR2.out.below b HR2.out.lt);have bE:=New.far (New.trans HB2.out b) (zbo (g:=w.heap.size+1+1) wr (zbu (qfg s (zfb (zcp B) s t)))) (by omega);have BE:=Hz bE;generalize zfb (zcp B) s t=r at*;have hsz:(Tryz.prog.info? 98).map (·.size)=some (zbu (qfg s r)).size:=by rw[show(zbu (qfg s r)).size=8 from rfl];kernel_rfl
   have HSZ:=Hz hsz;clear ht64 hsz bE FK F HS SU SL;go_wp2_with (refine wpList_store_row rfl 98 (.tmp 4) (.tmp 130) rfl (w.heap.size+1+1) (zbu (qfg s r)) rfl rfl _ _ (zaz R3.out) HSZ.out rfl (zi2 _) ?_)
   exact bodyPost_ret (results_cell_row rfl _ _ (w.heap.size+1+1) _ (zbu (qfg s r)) (0,0) _ rfl (zaz (zbg R3.out _)) (show Tryz.prog.underlying 98=some (.array 8 97) by kernel_rfl) rfl HSZ.out) rfl ⟨by rw[HT.out],BE.out⟩
end Go.Proofs.Y
namespace Go.Hm
theorem z2b(n:Nat)(h0:n≠0)(h:n<18446744073709551616):Lib.bitLen (n ||| 1)=Lib.bitLen n:=by
 have e:(n ||| 1)/2=n/2:=by rw[Nat.or_div_two];simp
 have hlt:n ||| 1<2^64:=Nat.or_lt_two_pow h (by omega);have hne:n ||| 1≠0:=by intro e0;rw[e0] at e;have:=Nat.right_le_or (n:=n) (m:=1);omega
 rw[Lib.bitLen_half _ hne hlt,Lib.bitLen_half n h0 h,e]
theorem qf7:∀(k n:Nat),n<2^k->n≠0->n<18446744073709551616->(Lib.bitLen n+6)/7=(vp n).length:=by
 intro k;induction k using Nat.strongRecOn with
 |ind k ih=>
  intro n hk h0 h;by_cases hn:n<128
  ·have h1:=Lib.bitLen_le n 7 (by omega) hn
   have h2:=Lib.bitLen_half n h0 h;rw[zfz hn];simp only[List.length_singleton];omega
  ·have e:Lib.bitLen n=7+Lib.bitLen (n/128):=Lib.bitLen_shift 7 n (by omega) h
   have hk7:7<k:=by
    refine Nat.lt_of_not_le fun hle=>?_
    have:=Nat.pow_le_pow_right (n:=2) (by omega) hle;omega
   have hd:n/128<2^(k-7):=by refine Nat.div_lt_of_lt_mul ?_;rw[show(128:Nat)=2^7 from rfl,<-Nat.pow_add,show 7+(k-7)=k by omega];exact hk
   have:=ih (k-7) (by omega) (n/128) hd (by omega) (by omega);rw[zf0 hn,List.length_cons,<-this,e];omega
theorem qf8(n:Nat)(h:n<18446744073709551616):(Lib.bitLen (n ||| 1)+6)/7=(vp n).length:=by
 by_cases h0:n=0
 ·subst h0;rw[zfz (by omega)];decide
 ·rw[z2b n h0 h,qf7 64 n h h0 h]
theorem qbp(a:Nat)(h:a<18446744073709551616):bits .xor .u64 (a:Int) 0=a:=by have:=u64_xor_nat a 0 h (by omega);simpa using this
theorem qbq(a:Nat)(h:a<18446744073709551616):bits .xor .u64 (a:Int) 18446744073709551615=((18446744073709551615-a:Nat):Int):=by show IntKind.u64.wrap ((BitVec.ofInt 64 (a:Int) ^^^ BitVec.ofInt 64 18446744073709551615).toNat:Int)=_;rw[show BitVec.ofInt 64 18446744073709551615=BitVec.allOnes 64 from by decide,BitVec.xor_allOnes,BitVec.toNat_not,ofInt_u64 a h,IntKind.wrap_u64];omega
theorem qbr(a:Nat)(h:a<9223372036854775808):bits .xor .i64 (a:Int) 0=a:=by show IntKind.i64.wrap ((BitVec.ofInt 64 (a:Int) ^^^ BitVec.ofInt 64 0).toNat:Int)=_;rw[show BitVec.ofInt 64 0=0#64 from by decide,BitVec.xor_zero,ofInt_u64 a (by omega),IntKind.wrap_i64];omega
theorem qbs(a:Nat)(h:a<9223372036854775808):bits .xor .i64 (a:Int) (-1)= -(a:Int)-1:=by show IntKind.i64.wrap ((BitVec.ofInt 64 (a:Int) ^^^ BitVec.ofInt 64 (-1)).toNat:Int)=_;rw[show BitVec.ofInt 64 (-1)=BitVec.allOnes 64 from by decide,BitVec.xor_allOnes,BitVec.toNat_not,ofInt_u64 a (by omega),IntKind.wrap_i64];omega
def zig(x:Int):Nat:=if x<0 then(-(2*x)-1).toNat else(2*x).toNat
def zag(n:Nat):Int:=if n%2=0 then((n/2:Nat):Int) else-((n/2:Nat):Int)-1
theorem z6d(x:Int):zag (zig x)=x:=by unfold zig zag;split<;> split<;> omega
theorem z6e(n:Nat):zig (zag n)=n:=by unfold zig zag;split<;> split<;> omega
end Go.Hm
namespace Go.Proofs.Y
open Go.RowKit Go.Hm
def qh4(n:Nat)(w:World)(e:Ending)(w':World):Prop:=e= .returned (.int .i64 ((vp n).length:Int))/\w=w'
theorem zzu(n:Nat)(w:World)(h:n<18446744073709551616):Calls Tryz.prog 132 #[.int .u64 n] w (qh4 n w):=by
 have e:bits .or .u64 (n:Int) 1=((n ||| 1:Nat):Int):=by have:=u64_or_nat n 1 h (by omega);simpa using this
 have hlt:n ||| 1<2^64:=Nat.or_lt_two_pow h (by omega);have hv:=qf8 n h;have h10:=zap h;have hb:=Lib.bitLen_le (n ||| 1) 64 (by omega) hlt;go_enter Tryz.func132,Tryz.ntmps132
 go_wp2_with (first
  |(go_at_call 120;refine(bits_Len64 ((n ||| 1:Nat):Int) _ (by omega) (by omega)).mono ?_;rintro e w' ⟨rfl,rfl⟩))
 go_ret
 exact⟨by rw[<-hv];go_num,rfl⟩
def qh5(w:World)(l:List Nat)(N:Nat)(nv v:Value)(wr:World):Prop:=∃N' D A c,nv= .int .u64 ((N':Nat):Int)/\N'<=N/\D.length+(vp N').length<=l.length+10/\v= .slice A D.length c/\D++vp N'=l++vp N/\Own wr w.heap.size 5 (.slice A D.length c) (zao .u8 D)/\Below w.heap.size w wr
set_option maxRecDepth 100000 in
theorem zc0(A:Option Addr)(n c:Nat)(l:List Nat)(N:Nat)(w:World)(hr:Reads w w.heap.size 1 A n (zao .u8 l))(hn:n<=140737488355200)(hN:N<=18446744073709551615):
 Calls Tryz.prog 111 #[.slice A n c,.int .u64 N] w (zck (l++vp N) w):=by
 obtain rfl:l.length=n:=by have:=hr.1;rw[zaa] at this;omega
 have hsz:=zap (n:=N) (by omega);go_enter Tryz.func111,Tryz.ntmps111
 go_wp2_with (first
  |(go_at_call 132;refine(zzu N _ (by omega)).mono ?_;rintro e w' ⟨rfl,rfl⟩)
  |(refine zb6 elB rfl (.tmp 7) (.tmp 12) rfl (W:=w) (B:=w.heap.size) l.length (l.length+(vp N).length) rfl rfl rfl (by simp) (by omega) (Below.refl _ _) (Nat.le_refl _) rfl (by omega) (by simp only[maxLen];omega) ?_
    intro w1 hown1 hg1 hb1 hs1)
  |(refine zn3 elB rfl (.tmp 14) (.tmp 15) rfl (W:=w) (B:=w.heap.size) hown1 (hr.grown_far hg1 (by simp)) rfl rfl l.length (Nat.min_self _) hb1 (Nat.le_refl _) (zch _ _) ?_
    intro w2 hown2 hg2 hb2 hs2))
 go_frame
 go_loopw [1,5] (qh5 w l N) (fun nv _ _=>(intOf nv).toNat)
 case atStart=>
  refine⟨N,l,_,_,rfl,Nat.le_refl _,by omega,rfl,rfl,?_,hb2⟩;rw[List.take_of_length_le (by rw[zaa];omega),List.drop_of_length_le (by simp),List.append_nil] at hown2;exact hown2
 case round=>
  obtain⟨N',D,A',c',rfl,hN',hD,rfl,hDN,hown,hb⟩:=hrel;have hb0:=hb.size;by_cases hlt:N'<128
  ·go_wp2_with (first
    |(refine zci elB rfl (.tmp 27) (.tmp 30) rfl (W:=w) (B:=w.heap.size) hown rfl rfl N' rfl hb (Nat.le_refl _) (by omega) (by omega) (by simp only[maxLen];omega) ?_
      intro A3 c3 w3 _ _ hown3 hg3 hb3 _ _))
   go_ret
   rw[zfz hlt] at hDN;rw[hDN] at hown3;have hl':D.length+1=(l++vp N).length:=by rw[<-hDN];simp
   rw[hl'] at hown3⊢;exact⟨_,_,_,rfl,hown3,hb3⟩
  ·have hu:=qjn N'
   have Hu:=Hz hu;clear hu;have hv:=zf0 hlt;have Hv:=Hz hv;clear hv;go_wp2_with (first
    |(refine zci elB rfl (.tmp 19) (.tmp 23) rfl (W:=w) (B:=w.heap.size) hown rfl rfl (N'%128+128) (by rw[Hu.out]) hb (Nat.le_refl _) (by omega) (by omega) (by simp only[maxLen];omega) ?_
      intro A3 c3 w3 _ _ hown3 hg3 hb3 _ _))
   go_roundw
   case rel=>
    have hv':=Hv.out;rw[hv',List.length_cons] at hD;exact⟨N'/128,D++[N'%128+128],A3,c3,by go_num,by omega,by simp;omega,by simp,by rw[<-hDN,hv'];simp,by simpa using hown3,hb3⟩
   case measure=>simp[intOf];omega
def z6f(v:Value)(w:World)(e:Ending)(w':World):Prop:=e= .returned v/\w=w'
theorem zou(x:Int)(w:World)(h: -9223372036854775808<=x)(h1:x<=9223372036854775807):Calls Tryz.prog 167 #[.int .i64 x] w (z6f (.int .u64 (zig x:Int)) w):=by
 have e:bits .xor .u64 (IntKind.u64.wrap (IntKind.u64.wrap x*2)) (IntKind.u64.wrap (x/9223372036854775808))=(zig x:Int):=by
  simp only[IntKind.wrap_u64];by_cases hx:x<0
  ·rw[show(x/9223372036854775808)%18446744073709551616=18446744073709551615 from by omega,
    show x%18446744073709551616*2%18446744073709551616=((18446744073709551616+2*x).toNat:Int) from by omega,qbq _ (by omega)]
   simp only[zig,if_pos hx];omega
  ·rw[show(x/9223372036854775808)%18446744073709551616=0 from by omega,
    show x%18446744073709551616*2%18446744073709551616=((2*x).toNat:Int) from by omega,qbp _ (by omega)]
   simp only[zig,if_neg hx]
 go_enter Tryz.func167,Tryz.ntmps167
 go_wp2
 go_ret
 exact⟨rfl,rfl⟩
theorem z6g(x:Nat)(w:World)(h:x<18446744073709551616):Calls Tryz.prog 177 #[.int .u64 (x:Int)] w (z6f (.int .i64 (zag x)) w):=by
 have e1:bits .and .u64 (x:Int) 1=((x%2:Nat):Int):=by have:=u64_and_nat x 1 h (by omega);rw[nat_mask1] at this;simpa using this
 have e:bits .xor .i64 ((x:Int)/2) (-((x:Int)%2))=zag x:=by
  by_cases hx:x%2=0
  ·rw[show(-((x:Int)%2))=0 from by omega,show((x:Int)/2)=((x/2:Nat):Int) from by omega,qbr _ (by omega)]
   simp only[zag,if_pos hx]
  ·rw[show(-((x:Int)%2))= -1 from by omega,show((x:Int)/2)=((x/2:Nat):Int) from by omega,qbs _ (by omega)]
   simp only[zag,if_neg hx]
 go_enter Tryz.func177,Tryz.ntmps177
 go_wp2
 go_ret
 exact⟨rfl,rfl⟩
end Go.Proofs.Y
namespace Go.Hm
theorem zo0{N b:Nat}{r s:List Nat}(h:b::s=vp N++r)(hb:b<128):N=b/\r=s:=by
 by_cases hN:N<128
 ·rw[zfz hN] at h
  simp only[List.cons_append,List.nil_append,List.cons.injEq] at h;exact⟨h.1.symm,h.2.symm⟩
 ·rw[zf0 hN] at h
  simp only[List.cons_append,List.cons.injEq] at h;omega
theorem zo1{N b:Nat}{r s:List Nat}(h:b::s=vp N++r)(hb:128<=b):N%128+128=b/\0<N/128/\s=vp (N/128)++r:=by
 by_cases hN:N<128
 ·rw[zfz hN] at h
  simp only[List.cons_append,List.nil_append,List.cons.injEq] at h;omega
 ·rw[zf0 hN] at h
  simp only[List.cons_append,List.cons.injEq] at h;exact⟨h.1.symm,by omega,h.2⟩
theorem qge{b N:Nat}(hb:128<=b)(h8:b<256)(hN:0<N):b::vp N=vp (b-128+128*N):=by
 rw[zf0 (n:=b-128+128*N) (by omega)];congr 1
 ·omega
 ·congr 1;omega
theorem z2g:∀(k M N:Nat) (r s:List Nat),M<=k->vp M++r=vp N++s->M=N/\r=s:=by
 intro k;induction k using Nat.strongRecOn with
 |ind k ih=>
  intro M N r s hk h;by_cases hM:M<128
  ·rw[zfz hM] at h
   have:=zo0 h hM;exact⟨this.1.symm,this.2.symm⟩
  ·rw[zf0 hM] at h
   have h1:=zo1 h (by omega);have h2:=ih (M/128) (by omega) _ _ _ _ (Nat.le_refl _) h1.2.2;exact⟨by omega,h2.2⟩
def VIn(l:List Nat)(k v:Nat)(rl:List Nat):Prop:=
 v<128^k/\(∀N r,l=vp N++r-> ∃N',N=v+128^k*N'/\(k=0\/0<N')/\rl=vp N'++r)/\
 (∀N r,(k=0\/0<N)->rl=vp N++r->l=vp (v+128^k*N)++r)
theorem VIn.zero(l:List Nat):VIn l 0 0 l:=⟨by simp,fun N r h=>⟨N,by simp,.inl rfl,h⟩,fun N r _ h=>by simpa using h⟩
theorem VIn.step{l rl:List Nat}{k v b:Nat}(h:VIn l k v (b::rl))(hb:128<=b)(h8:b<256):VIn l (k+1) (v+128^k*(b-128)) rl:=by
 obtain⟨h1,h2,h3⟩:=h;have hp:128^(k+1)=128^k*128:=Nat.pow_succ ..;have hm:128^k*(b-128)<=128^k*127:=Nat.mul_le_mul_left _ (by omega);refine⟨by omega,fun N r e=>?_,fun N r hN e=>?_⟩
 ·obtain⟨N',e1,e2,e3⟩:=h2 N r e
  obtain⟨f1,f2,f3⟩:=zo1 e3 hb;refine⟨N'/128,?_,.inr f2,f3⟩;rw[e1,hp,Nat.mul_assoc,Nat.add_assoc,<-Nat.mul_add];congr 2
  omega
 ·have hN':0<N:=by rcases hN with hN|hN<;> omega
  have:=h3 (b-128+128*N) r (.inr (by omega)) (by rw[e,<-qge hb h8 hN',List.cons_append]);rw[this,Nat.mul_add,hp,Nat.mul_assoc,Nat.add_assoc]
theorem VIn.done{l rl:List Nat}{k v b:Nat}(h:VIn l k v (b::rl))(hb:b<128)(hk:k=0\/0<b):l=vp (v+128^k*b)++rl:=
 h.2.2 b rl hk (by rw[zfz hb];rfl)
theorem VIn.not_zero{l rl:List Nat}{k v:Nat}(h:VIn l k v (0::rl))(hk:0<k):∀N r,l=vp N++r->18446744073709551616<=N:=by intro N r e;obtain⟨N',_,e2,e3⟩:=h.2.1 N r e;have:=zo0 e3 (by omega);omega
theorem VIn.not_nil{l:List Nat}{k v:Nat}(h:VIn l k v []):∀N r,l=vp N++r->18446744073709551616<=N:=by intro N r e;obtain⟨N',_,_,e3⟩:=h.2.1 N r e;have:=zt1 N';have:=congrArg List.length e3;simp at this;omega
theorem VIn.not_big{l rl:List Nat}{v b:Nat}(h:VIn l 9 v (b::rl))(hb:1<b):∀N r,l=vp N++r->18446744073709551616<=N:=by
 intro N r e;obtain⟨N',e1,e2,e3⟩:=h.2.1 N r e;by_cases hlt:b<128
 ·have:=(zo0 e3 hlt).1
  omega
 ·have:=zo1 e3 (by omega)
  omega
theorem qeh(k:Nat):(128:Nat)^k=2^(7*k):=by rw[Nat.pow_mul]
theorem VIn.fits{k v b:Nat}(hv:v<128^k)(hb:b<128)(hk:k<=8\/(k<=9/\b<=1)):v+128^k*b<18446744073709551616:=by
 rcases hk with hk|⟨hk,hb1⟩
 ·have h1:(128:Nat)^k<=128^8:=Nat.pow_le_pow_right (by omega) hk
  have h2:128^k*b<=128^8*b:=Nat.mul_le_mul_right _ h1;omega
 ·have h1:(128:Nat)^k<=128^9:=Nat.pow_le_pow_right (by omega) hk
  have h2:128^k*b<=128^9*b:=Nat.mul_le_mul_right _ h1;omega
theorem z6t(b:Nat)(h:b<256):bits .andNot .u8 (b:Int) 128=((b%128:Nat):Int):=by have:=u8_andNot_nat b 128 h (by omega);rw[show 255-128=127 from rfl,nat_mask7] at this;simpa using this
theorem qgf{k v b:Nat}(hv:v<128^k)(hb:b<128)(hk:k<=8\/(k<=9/\b<=1)):
 bits .or .u64 (v:Int) ((b:Int)*2^(7*k)%18446744073709551616)=((v+128^k*b:Nat):Int):=by
 have hf:=VIn.fits hv hb hk;have e2:(b:Int)*2^(7*k)=((b*2^(7*k):Nat):Int):=by simp
 have e0:128^k*b=b*2^(7*k):=by rw[qeh,Nat.mul_comm]
 rw[e2,show(((b*2^(7*k):Nat):Int)%18446744073709551616)=((b*2^(7*k):Nat):Int) from Int.emod_eq_of_lt (by omega) (by omega),
  u64_or_nat v (b*2^(7*k)) (by omega) (by omega),Nat.or_comm,zqy b v (7*k) (by rw[<-qeh];exact hv),e0,Nat.add_comm]
theorem zzz{k v b:Nat}(hv:v<128^k)(h8:b<256)(hk:k<=8\/(k<=9/\b%128<=1)):
 bits .or .u64 (v:Int) (IntKind.u64.wrap (IntKind.u64.wrap (bits .andNot .u8 (b:Int) 128)*2^(7*k)))=((v+128^k*(b%128):Nat):Int):=by
 rw[z6t b h8,IntKind.wrap_u64,IntKind.wrap_u64,show(((b%128:Nat):Int)%18446744073709551616)=((b%128:Nat):Int) from by omega];exact qgf hv (by omega) hk
end Go.Hm
namespace Go.Proofs.Y
open Go.RowKit Go.Hm
def qgg(g:Nat)(l:List Nat)(w:World)(e:Ending)(w':World):Prop:=
 (∃N r,l=vp N++r/\N<18446744073709551616/\e= .returned (.int .u64 (N:Int))/\Cur w' g r false/\w.grownBy w' (some g))\/
 ((∀N r,l=vp N++r->18446744073709551616<=N)/\e= .returned (.int .u64 0)/\Cur w' g [] true/\w.grownBy w' (some g))
def qka(g:Nat)(l:List Nat)(w:World)(a:Act)(w':World):Prop:=
 ∃(u1 u2 u3 u4 u5 u6 u7 u8 u9 u10 u11 u12 u13 u14 u15 u16 u17 u18 u19 u20 u21 u22 u23 u24 u25 u26 u27 u28 u29 u30 u31 u32 u33 u34 u35 u36 u37 u38 u39 u40 u41:Value) (rl:List Nat) (bad:Bool),a={tmps:= #[.pointer (some ⟨g,0,none⟩),u1,u2,u3,u4,u5,u6,u7,u8,u9,u10,u11,u12,u13,u14,u15,u16,u17,u18,u19,u20,u21,u22,u23,u24,u25,u26,u27,u28,u29,u30,u31,u32,u33,u34,u35,u36,u37,u38,u39,u40,u41],defers:=[]}/\Cur w' g rl bad/\w.grownBy w' (some g)/\(∀N r,l=vp N++r->18446744073709551616<=N)
theorem Cur.lt8{w:World}{g:Nat}{l:List Nat}{bad:Bool}(h:Cur w g l bad):∀x∈l,x<256:=by obtain⟨A,c,_,_,_,_,h5,_⟩:=h;exact h5
set_option maxRecDepth 100000 in
theorem z6u{w:World}{g:Nat}{l:List Nat}(h:Cur w g l false)(h8:∀x∈l,x<256):
 Calls Tryz.prog 117 #[.pointer (some ⟨g,0,none⟩)] w (qgg g l w):=by
 go_enter Tryz.func117,Tryz.ntmps117
 go_wp2
 refine wp_scope_jumps 0 (qka g l w) (fun _ _=>0) rfl ?_ ?_
 ·go_wp2
  go_loopw [3,4] (fun v i wr=>∃(k x:Nat) (rl:List Nat),i= .int .i64 ((7*k:Nat):Int)/\k<=9/\v= .int .u64 (x:Int)/\VIn l k x rl/\(∀y∈rl,y<256)/\Cur wr g rl false/\w.grownBy wr (some g)) (fun _ i _=>100-(intOf i).toNat)
  case atStart=>exact⟨0,0,l,rfl,by omega,rfl,VIn.zero l,h8,h,Far.refl g w⟩
  case round=>
   obtain⟨k,x,rl,rfl,hk,rfl,hV,h8',hC,hg⟩:=hrel;have HV:=Hz hV;cases rl with
   |nil=>
    have B:=Hz (zni hC (.inr (by simp)));go_wp2_with (first
     |(go_at_call 137;refine B.out.mono ?_;rintro e w1 ⟨rfl,C1,g1⟩
       have hB:=Hz (zj3 C1))
     |(go_at_call 98;refine hB.out.mono ?_;rintro e w2 ⟨rfl,rfl⟩)
     |go_step3)
    exact⟨rfl,_,_,_,_,_,_,_,_,_,_,_,_,_,_,_,_,_,_,_,_,_,_,_,_,_,_,_,_,_,_,_,_,_,_,_,_,_,_,_,_,_,_,_,rfl,C1,Far.trans hg g1,HV.out.not_nil⟩
   |cons b rl=>
    have hb8:b<256:=h8' b (by simp);have B:=Hz (zzr hC);have hx:=hV.1;clear hV;by_cases hz:0<k/\b=0
    ·obtain⟨hz,rfl⟩:=hz
     go_wp2_with (first
      |(go_at_call 137;refine B.out.mono ?_;rintro e w1 ⟨rfl,C1,g1⟩
        have hB:=Hz (zj3 C1))
      |(go_at_call 98;refine hB.out.mono ?_;rintro e w2 ⟨rfl,rfl⟩)
      |go_step3)
     all_goals first
      |(exfalso;omega)
      |exact⟨rfl,_,_,_,_,_,_,_,_,_,_,_,_,_,_,_,_,_,_,_,_,_,_,_,_,_,_,_,_,_,_,_,_,_,_,_,_,_,_,_,_,_,_,_,rfl,C1,Far.trans hg g1,HV.out.not_zero hz⟩
    ·by_cases h9:k=9
     ·subst h9
      by_cases hb1:1<b
      ·go_wp2_with (first
       |(go_at_call 137;refine B.out.mono ?_;rintro e w1 ⟨rfl,C1,g1⟩
         have hB:=Hz (zj3 C1))
       |(go_at_call 98;refine hB.out.mono ?_;rintro e w2 ⟨rfl,rfl⟩)
       |go_step3)
       all_goals first
        |(exfalso;omega)
        |exact⟨rfl,_,_,_,_,_,_,_,_,_,_,_,_,_,_,_,_,_,_,_,_,_,_,_,_,_,_,_,_,_,_,_,_,_,_,_,_,_,_,_,_,_,_,_,rfl,C1,Far.trans hg g1,HV.out.not_big hb1⟩
      ·have HO:=zzz hx hb8 (.inr ⟨by omega,by omega⟩)
       rw[show(2:Int)^(7*9)=9223372036854775808 from by decide,show b%128=b from by omega] at HO;go_wp2_with (first
        |(go_at_call 137;refine B.out.mono ?_;rintro e w1 ⟨rfl,C1,g1⟩
          have hB:=Hz (zj3 C1))
        |(go_at_call 98;refine hB.out.mono ?_;rintro e w2 ⟨rfl,rfl⟩)
        |go_step3)
       all_goals first
        |(rename_i hq;exfalso;rcases hq with hq|hq;(simp at hq;omega);omega)
        |(simp only[Exit.jump];go_ret
          exact .inl ⟨_,_,HV.out.done (by omega) (.inl (by omega)),VIn.fits hx (by omega) (.inr ⟨by omega,by omega⟩),by simp,C1,Far.trans hg g1⟩)
        |(simp only[Exit.jump];go_ret
          exact .inl ⟨_,_,HV.out.done (by omega) (.inr (by omega)),VIn.fits hx (by omega) (.inr ⟨by omega,by omega⟩),by simp,C1,Far.trans hg g1⟩)
     ·have HO:=zzz hx hb8 (.inl (by omega))
      go_wp2_with (first
       |(go_at_call 137;refine B.out.mono ?_;rintro e w1 ⟨rfl,C1,g1⟩
         have hB:=Hz (zj3 C1))
       |(go_at_call 98;refine hB.out.mono ?_;rintro e w2 ⟨rfl,rfl⟩)
       |go_step3)
      all_goals first
       |(exfalso;omega)
       |(simp only[Exit.jump];go_ret
         exact .inl ⟨x+128^k*b,rl,HV.out.done (by omega) (by omega),VIn.fits hx (by omega) (.inl (by omega)),by rw[show((b:Int)%128)=(b:Int) from by omega];simp,C1,Far.trans hg g1⟩)
       |(go_roundw
         case rel=>exact⟨k+1,x+128^k*(b-128),rl,by go_num,by omega,by rw[show((b:Int)%128)=((b-128:Nat):Int) from by omega];simp,HV.out.step (by omega) hb8,fun y hy=>h8' y (List.mem_cons_of_mem _ hy),C1,Far.trans hg g1⟩
         case measure=>simp[intOf];omega)
 ·rintro a' w' ⟨u,u,u,u,u,u,u,u,u,u,u,u,u,u,u,u,u,u,u,u,u,u,u,u,u,u,u,u,u,u,u,u,u,u,u,u,u,u,u,u,u,rl,bad,rfl,C1,hg,hno⟩
  have hF:=Hz (zhs C1);go_wp2_with (go_at_call 116;refine hF.out.mono ?_;rintro e w2 ⟨rfl,C2,g2⟩)
  simp only[Exit.jump];go_ret
  exact .inr ⟨hno,rfl,C2,Far.trans hg g2⟩
set_option maxRecDepth 100000 in
theorem qgh{w:World}{g:Nat}{l:List Nat}{bad:Bool}(h:Cur w g l bad)(hn:bad=true\/l.length<1):
 Calls Tryz.prog 117 #[.pointer (some ⟨g,0,none⟩)] w (zda (.returned (.int .u64 0)) g [] true w):=by
 have B:=Hz (zni h hn);clear hn;go_enter Tryz.func117,Tryz.ntmps117
 go_wp2
 refine wp_scope_jumps 0 (qka g [] w) (fun _ _=>0) rfl ?_ ?_
 ·go_wp2
  refine wp_loop_rounds 1 ?_;rw[rounds_succ];go_wp2_with (first
   |(go_at_call 137;refine B.out.mono ?_;rintro e w1 ⟨rfl,C1,g1⟩
     have hB:=Hz (zj3 C1))
   |(go_at_call 98;refine hB.out.mono ?_;rintro e w2 ⟨rfl,rfl⟩)
   |go_step3)
  exact⟨rfl,_,_,_,_,_,_,_,_,_,_,_,_,_,_,_,_,_,_,_,_,_,_,_,_,_,_,_,_,_,_,_,_,_,_,_,_,_,_,_,_,_,_,_,rfl,C1,g1,(VIn.zero []).not_nil⟩
 ·rintro a' w' ⟨u,u,u,u,u,u,u,u,u,u,u,u,u,u,u,u,u,u,u,u,u,u,u,u,u,u,u,u,u,u,u,u,u,u,u,u,u,u,u,u,u,rl,bad',rfl,C1,hg,hno⟩
  have hF:=Hz (zhs C1);go_wp2_with (go_at_call 116;refine hF.out.mono ?_;rintro e w2 ⟨rfl,C2,g2⟩)
  simp only[Exit.jump];go_ret
  exact⟨rfl,C2,Far.trans hg g2⟩
theorem zxv{w:World}{g N:Nat}{r:List Nat}(h:Cur w g (vp N++r) false)(hN:N<18446744073709551616):
 Calls Tryz.prog 117 #[.pointer (some ⟨g,0,none⟩)] w (zda (.returned (.int .u64 (N:Int))) g r false w):=
 (z6u h h.lt8).mono fun e w' hp=>by
  rcases hp with⟨M,s,h1,h2,h3,h4,h5⟩|⟨h1,_⟩
  ·obtain⟨rfl,rfl⟩:=z2g N N M r s (Nat.le_refl _) h1
   exact⟨h3,h4,h5⟩
  ·have:=h1 N r rfl
   omega
theorem z6v{w:World}{g:Nat}{l:List Nat}{bad:Bool}(h:Cur w g l bad)(hN:bad=true\/ ∀N r,l=vp N++r->18446744073709551616<=N):
 Calls Tryz.prog 117 #[.pointer (some ⟨g,0,none⟩)] w (zda (.returned (.int .u64 0)) g [] true w):=by
 cases bad with
 |true=>exact qgh h (.inl rfl)
 |false=>
  refine(z6u h h.lt8).mono fun e w' hp=>?_
  rcases hp with⟨M,s,h1,h2,h3,h4,h5⟩|⟨h1,h2,h3,h4⟩
  ·rcases hN with hN|hN
   ·simp at hN
   ·have:=hN M s h1
    omega
  ·exact⟨h2,h3,h4⟩
theorem qgi{w:World}{g N:Nat}{r:List Nat}{m:Int}(h:Cur w g (vp N++r) false)(hN:(N:Int)<=m)(hm:m<=9223372036854775807):
 Calls Tryz.prog 97 #[.pointer (some ⟨g,0,none⟩),.int .i64 m] w (zda (.returned (.int .i64 (N:Int))) g r false w):=by
 have G:=Hz (zxv h (by omega));go_enter Tryz.func97,Tryz.ntmps97
 go_wp2_with (go_at_call 117;refine G.out.mono ?_;rintro e w1 ⟨rfl,C1,g1⟩)
 go_ret
 exact⟨rfl,C1,g1⟩
theorem qic{w:World}{g:Nat}{l:List Nat}{bad:Bool}{m:Int}(h:Cur w g l bad)(hN:bad=true\/ ∀N r,l=vp N++r->m<N)(hm0: -9223372036854775808<=m)(hm:m<=9223372036854775807):
 Calls Tryz.prog 97 #[.pointer (some ⟨g,0,none⟩),.int .i64 m] w (zda (.returned (.int .i64 0)) g [] true w):=by
 by_cases hG:bad=true\/ ∀N r,l=vp N++r->18446744073709551616<=N
 ·have G:=Hz (z6v h hG)
  clear hG hN;go_enter Tryz.func97,Tryz.ntmps97
  by_cases hm1:m<0
  ·go_wp2_with (first
    |(go_at_call 117;refine G.out.mono ?_;rintro e w1 ⟨rfl,C1,g1⟩
      have hF:=Hz (zhs C1))
    |(go_at_call 116;refine hF.out.mono ?_;rintro e w2 ⟨rfl,C2,g2⟩))
   go_ret
   exact⟨rfl,C2,Far.trans g1 g2⟩
  ·go_wp2_with (first
    |(go_at_call 117;refine G.out.mono ?_;rintro e w1 ⟨rfl,C1,g1⟩))
   go_ret
   exact⟨rfl,C1,g1⟩
 ·simp only[not_or,Classical.not_forall] at hG
  obtain⟨hb,N,r,rfl,hlt⟩:=hG;have hb':bad=false:=by simpa using hb
  subst hb';have hmN:m<N:=by rcases hN with hN|hN;exact absurd hN hb;exact hN N r rfl
  have G:=Hz (zxv h (by omega));clear hN hb;go_enter Tryz.func97,Tryz.ntmps97
  by_cases hm1:m<0
  ·go_wp2_with (first
    |(go_at_call 117;refine G.out.mono ?_;rintro e w1 ⟨rfl,C1,g1⟩
      have hF:=Hz (zhs C1))
    |(go_at_call 116;refine hF.out.mono ?_;rintro e w2 ⟨rfl,C2,g2⟩))
   go_ret
   exact⟨rfl,C2,Far.trans g1 g2⟩
  ·go_wp2_with (first
    |(go_at_call 117;refine G.out.mono ?_;rintro e w1 ⟨rfl,C1,g1⟩
      have hF:=Hz (zhs C1))
    |(go_at_call 116;refine hF.out.mono ?_;rintro e w2 ⟨rfl,C2,g2⟩))
   go_ret
   exact⟨rfl,C2,Far.trans g1 g2⟩
end Go.Proofs.Y
namespace Go.Hm
open Go Go.RowKit
def zjr(t:Int)(a b:zab):Int:=if a.1||b.1 then z4o a.1 b.1 else if t=0\/t=1 then zia a.2.1 b.2.1 else if t=2 then qci a.2.2.1 b.2.2.1 else if t=3 then cmpP a.2.2.2.1 a.2.2.2.2 b.2.2.2.1 b.2.2.2.2 else 0
theorem qil{t:Int}{a b:zab}(h: ¬(t=3/\a.1=false/\b.1=false)):zjr t a b=qii t a b:=by
 unfold zjr qii;by_cases h1:(a.1||b.1)=true
 ·rw[if_pos h1,if_pos h1]
 ·rw[if_neg h1,if_neg h1]
  have h3: ¬t=3:=fun e=>h ⟨e,by simp_all,by simp_all⟩
  simp[h3]
def qgs(x y u v:Int):Prop:=(-2097152<=x/\x<=2097152)/\(-2097152<=y/\y<=2097152)/\(-2097152<=u/\u<=2097152)/\(-2097152<=v/\v<=2097152)
end Go.Hm
namespace Go.Proofs.Y
open Go.RowKit Go.Hm
set_option maxRecDepth 100000 in
theorem zu9{w:World}{t:Int}{a b:Bool}{n m:Int}{s r:List Nat}{x y x2 y2:Int}(hp:qgs x y x2 y2):
 Calls Tryz.prog 144 #[.int .i64 t,.agg #[.bool a,.int .i64 n,.string (zad s),.int .i64 x,.int .i64 y],.agg #[.bool b,.int .i64 m,.string (zad r),.int .i64 x2,.int .i64 y2]] w (zal (.int .i64 (zjr t (a,n,s,x,y) (b,m,r,x2,y2))) w):=by
 by_cases h3:t=3/\a=false/\b=false
 ·obtain⟨rfl,rfl,rfl⟩:=h3
  have hO:zjr 3 (false,n,s,x,y) (false,m,r,x2,y2)=cmpP x y x2 y2:=by simp[zjr]
  rw[hO];have P:=Hz (fun(W:World)=>zu8 (w:=W) hp.1 hp.2.1 hp.2.2.1 hp.2.2.2);have B0:=Blk.new w 75 #[.bool false,.int .i64 n,.string (zad s),.int .i64 x,.int .i64 y];have B1:=Blk.new (w.alloc (.cells #[.bool false,.int .i64 n,.string (zad s),.int .i64 x,.int .i64 y] 75)) 75 #[.bool false,.int .i64 m,.string (zad r),.int .i64 x2,.int .i64 y2];obtain⟨x0,x1,x2',x3,x4⟩:=zcq (B0.alloc (.cells #[.bool false,.int .i64 m,.string (zad r),.int .i64 x2,.int .i64 y2] 75));obtain⟨y0,y1,y2',y3,y4⟩:=zcq B1;clear B0 B1 hO hp;go_enter Tryz.func144,Tryz.ntmps144
  go_wp2_with (go_at_call 166;refine(P.out _).mono ?_;rintro e w' ⟨rfl,b1⟩)
  go_ret
  exact⟨rfl,New.trans (zxs w _ _) b1⟩
 ·rw[qil h3]
  exact zx6 h3
end Go.Proofs.Y
namespace Go.Hm
open Go Go.RowKit
theorem qel:∀a b:List UInt8,Lib.compareBytes b a= -Lib.compareBytes a b
 | [],[]=>by simp[Lib.compareBytes]
 | [],_::_=>by simp[Lib.compareBytes]
 |_::_,[]=>by simp[Lib.compareBytes]
 |x::a,y::b=>by
  have ih:=qel a b;unfold Lib.compareBytes;by_cases h1:x<y
  ·have h2: ¬y<x:=fun h=>UInt8.lt_irrefl _ (UInt8.lt_trans h h1)
   rw[if_neg h2,if_pos h1,if_pos h1];rfl
  ·by_cases h2:y<x
   ·rw[if_pos h2,if_neg h1,if_pos h2]
   ·rw[if_neg h2,if_neg h1,if_neg h1,if_neg h2,ih]
theorem z7j:∀a b:List UInt8,Lib.compareBytes a b=0↔a=b
 | [],[]=>by simp[Lib.compareBytes]
 | [],_::_=>by simp[Lib.compareBytes]
 |_::_,[]=>by simp[Lib.compareBytes]
 |x::a,y::b=>by
  have ih:=z7j a b;unfold Lib.compareBytes;by_cases h1:x<y
  ·have hne:x≠y:=by rintro rfl;exact UInt8.lt_irrefl _ h1
   rw[if_pos h1];simp[hne]
  ·by_cases h2:y<x
   ·have hne:x≠y:=by rintro rfl;exact h1 h2
    rw[if_neg h1,if_pos h2];simp[hne]
   ·have he:x=y:=UInt8.le_antisymm (UInt8.not_lt.1 h2) (UInt8.not_lt.1 h1)
    subst he;rw[if_neg h1,if_neg h1,ih];simp
theorem z0c:∀a b c:List UInt8,Lib.compareBytes a b<=0->Lib.compareBytes b c<=0->Lib.compareBytes a c<=0
 | [],b,[]=>by simp[Lib.compareBytes]
 | [],b,_::_=>by simp[Lib.compareBytes]
 |_::_,[],c=>by simp[Lib.compareBytes]
 |_::_,_::_,[]=>by simp[Lib.compareBytes]
 |x::a,y::b,z::c=>by
  have ih:=z0c a b c;unfold Lib.compareBytes;intro h1 h2;by_cases xz:x<z
  ·rw[if_pos xz];decide
  ·rw[if_neg xz]
   by_cases xy:x<y
   ·have yz: ¬y<z:=fun h=>xz (UInt8.lt_trans xy h)
    rw[if_neg yz] at h2;by_cases zy:z<y
    ·rw[if_pos zy] at h2;omega
    ·have he:y=z:=UInt8.le_antisymm (UInt8.not_lt.1 zy) (UInt8.not_lt.1 yz)
     exact absurd (he▸xy) xz
   ·rw[if_neg xy] at h1
    by_cases yx:y<x
    ·rw[if_pos yx] at h1;omega
    ·rw[if_neg yx] at h1
     have he:x=y:=UInt8.le_antisymm (UInt8.not_lt.1 yx) (UInt8.not_lt.1 xy);subst he;rw[if_neg xz] at h2;by_cases zx:z<x
     ·rw[if_pos zx] at h2;omega
     ·rw[if_neg zx] at h2⊢
      exact ih h1 h2
theorem qco{a b:Bool}(h:(a||b)=true):z4o b a= -z4o a b:=by cases a<;> cases b<;> simp_all[z4o]
theorem znn(t:Int)(a b:zab):zjr t b a= -zjr t a b:=by
 unfold zjr;by_cases h:(a.1||b.1)=true
 ·have h':(b.1||a.1)=true:=by rw[Bool.or_comm];exact h
  rw[if_pos h',if_pos h,qco h]
 ·have h': ¬(b.1||a.1)=true:=by rw[Bool.or_comm];exact h
  rw[if_neg h',if_neg h,znm a.2.1,qcn a.2.2.2.1,qci,qci,qel];split
  ·rfl
  ·split
   ·rfl
   ·split
    ·rfl
    ·rfl
theorem zrb:∀{a b:List Nat},(∀z∈a,z<256)->(∀z∈b,z<256)->a.map UInt8.ofNat=b.map UInt8.ofNat->a=b
 | [],[],_,_,_=>rfl
 | [],_::_,_,_,h=>by simp at h
 |_::_,[],_,_,h=>by simp at h
 |x::a,y::b,ha,hb,h=>by
  rw[List.map_cons,List.map_cons,List.cons.injEq] at h;have e1:x=y:=by have:=congrArg UInt8.toNat h.1;rw[UInt8.toNat_ofNat',UInt8.toNat_ofNat',Nat.mod_eq_of_lt (ha x (by simp)),Nat.mod_eq_of_lt (hb y (by simp))] at this;exact this
  rw[e1,zrb (fun z hz=>ha z (by simp[hz])) (fun z hz=>hb z (by simp[hz])) h.2]
theorem z7k{t:Int}{nu:Bool}{a b:zab}(ha:zae a t nu=true)(hb:zae b t nu=true)(fa:∀z∈a.2.2.1,z<256)(fb:∀z∈b.2.2.1,z<256):zjr t a b=0↔a=b:=by
 obtain⟨na,ia,sa,xa,ya⟩:=a;obtain⟨nb,ib,sb,xb,yb⟩:=b;simp only at fa fb;have ht:qci sa sb=0↔sa=sb:=by rw[qci,z7j];exact⟨zrb fa fb,fun h=>by rw[h]⟩
 unfold zae at ha hb;unfold zjr;cases na<;> cases nb
 ·simp only[Bool.or_self,Bool.false_eq_true,if_false] at ha hb⊢
  by_cases h0:t=0
  ·subst h0
   simp at ha hb;simp[cmpI_zero,ha,hb]
  ·by_cases h1:t=1
   ·subst h1
    simp at ha hb;simp[cmpI_zero,ha,hb]
   ·by_cases h2:t=2
    ·subst h2
     simp at ha hb;simp[ht,ha,hb]
    ·by_cases h3:t=3
     ·subst h3
      simp at ha hb;simp[z7h,ha,hb]
     ·simp[h0,h1,h2,h3] at ha
 ·simp[z4o]
 ·simp[z4o]
 ·simp at ha hb
  simp[z4o,ha,hb]
theorem zjf{t:Int}{a b c:zab}(h1:zjr t a b<=0)(h2:zjr t b c<=0):zjr t a c<=0:=by
 obtain⟨na,ia,sa,xa,ya⟩:=a;obtain⟨nb,ib,sb,xb,yb⟩:=b;obtain⟨nc,ic,sc,xc,yc⟩:=c;unfold zjr at*;cases na
 ·cases nb
  ·cases nc
   ·simp only[Bool.or_self,Bool.false_eq_true,if_false] at h1 h2⊢
    split
    ·rename_i ht
     rw[if_pos ht,zpa] at h1 h2;rw[zpa];omega
    ·rename_i ht
     rw[if_neg ht] at h1 h2;split
     ·rename_i ht
      rw[if_pos ht,qci] at h1 h2;exact z0c _ _ _ h1 h2
     ·rename_i ht
      rw[if_neg ht] at h1 h2;split
      ·rename_i ht
       rw[if_pos ht,z7i] at h1 h2;rw[z7i];generalize xa*xa+ya*ya=n1 at*;generalize xb*xb+yb*yb=n2 at*;generalize xc*xc+yc*yc=n3 at*;omega
      ·omega
   ·simp[z4o] at h2
  ·simp[z4o] at h1
 ·cases nc<;> simp[z4o]
theorem zl8{t:Int}{nu:Bool}{a:zab}(h:zae a t nu=true):(-1048576<=a.2.2.2.1/\a.2.2.2.1<=1048576)/\ -1048576<=a.2.2.2.2/\a.2.2.2.2<=1048576:=by
 obtain⟨na,ia,sa,xa,ya⟩:=a;unfold zae at h;show(-1048576<=xa/\xa<=1048576)/\ -1048576<=ya/\ya<=1048576;cases na
 ·simp only[Bool.false_eq_true,if_false] at h
  by_cases h0:t=0
  ·subst h0;simp at h;omega
  ·by_cases h1:t=1
   ·subst h1;simp at h;omega
   ·by_cases h2:t=2
    ·subst h2;simp at h;omega
    ·by_cases h3:t=3
     ·subst h3;simp[inBox] at h;omega
     ·simp[h0,h1,h2,h3] at h
 ·simp at h;omega
open Go Go.RowKit
abbrev zdb:=Int × Bool × zab × zab
def zbx:zdb:=(0,false,za8,za8)
def zb8(s:zdb):List Value:= .int .i64 s.1:: .bool s.2.1::(zay s.2.2.1++zay s.2.2.2)
def nullsL(l:List zab):Nat:=(l.filter fun c=>c.1).length
structure IsStat(t:Int)(l:List zab)(s:zdb):Prop where
 nulls:s.1=(nullsL l:Int)
 has:s.2.1=true↔ ∃c∈l,c.1=false
 none:s.2.1=false->s.2.2.1=za8/\s.2.2.2=za8
 least:s.2.1=true->(s.2.2.1∈l/\s.2.2.1.1=false)/\ ∀c∈l,c.1=false->zjr t s.2.2.1 c<=0
 most:s.2.1=true->(s.2.2.2∈l/\s.2.2.2.1=false)/\ ∀c∈l,c.1=false->zjr t c s.2.2.2<=0
theorem zva(t:Int)(c:zab):zjr t c c=0:=by have:=znn t c c;omega
theorem zs7(a b:List zab):nullsL (a++b)=nullsL a+nullsL b:=by unfold nullsL;rw[List.filter_append,List.length_append]
theorem zis(l:List zab):nullsL l<=l.length:=List.length_filter_le _ _
def zj5(c:zab):zdb:=if c.1 then(1,false,za8,za8) else(0,true,c,c)
theorem zrc(t:Int):IsStat t [] zbx:=⟨rfl,by simp[zbx],fun _=>⟨rfl,rfl⟩,fun h=>by simp[zbx] at h,fun h=>by simp[zbx] at h⟩
theorem zrd(t:Int)(c:zab):IsStat t [c] (zj5 c):=by
 have h0:=zva t c;unfold zj5;cases hc:c.1 with
 |true=>
  rw[if_pos rfl];exact⟨by simp[nullsL,hc],by simp[hc],fun _=>⟨rfl,rfl⟩,fun h=>by simp at h,fun h=>by simp at h⟩
 |false=>
  rw[if_neg (by simp)];refine⟨by simp[nullsL,hc],by simp[hc],fun h=>by simp at h,fun _=>⟨⟨by simp,hc⟩,fun d hd _=>?_⟩,fun _=>⟨⟨by simp,hc⟩,fun d hd _=>?_⟩⟩
  ·rw[List.mem_singleton.1 hd]
   show zjr t c c<=0;omega
  ·rw[List.mem_singleton.1 hd]
   show zjr t c c<=0;omega
def zm0(t:Int)(a b:zdb):zdb:=
 if a.2.1 then(a.1+b.1,true,if b.2.1&&decide (zjr t b.2.2.1 a.2.2.1<0) then b.2.2.1 else a.2.2.1,if b.2.1&&decide (0<zjr t b.2.2.2 a.2.2.2) then b.2.2.2 else a.2.2.2)
 else if b.2.1 then(a.1+b.1,true,b.2.2.1,b.2.2.2) else(a.1+b.1,false,za8,za8)
theorem IsStat.merge{t:Int}{a b:List zab}{x y:zdb}(h:IsStat t a x)(k:IsStat t b y):IsStat t (a++b) (zm0 t x y):=by
 obtain⟨xn,xh,x1,x2⟩:=x;obtain⟨yn,yh,y1,y2⟩:=y;obtain⟨h1,h2,h3,h4,h5⟩:=h;obtain⟨k1,k2,k3,k4,k5⟩:=k;dsimp only at*;have hn:xn+yn=(nullsL (a++b):Int):=by rw[zs7];omega
 have hex:(∃c∈a++b,c.1=false)↔(xh=true\/yh=true):=by
  rw[h2,k2];constructor
  ·rintro⟨c,hc,e⟩
   rcases List.mem_append.1 hc with hc|hc
   ·exact .inl ⟨c,hc,e⟩
   ·exact .inr ⟨c,hc,e⟩
  ·rintro(⟨c,hc,e⟩|⟨c,hc,e⟩)
   ·exact⟨c,List.mem_append_left _ hc,e⟩
   ·exact⟨c,List.mem_append_right _ hc,e⟩
 unfold zm0;dsimp only;cases xh with
 |true=>
  rw[if_pos rfl];obtain⟨⟨p1,p2⟩,p3⟩:=h4 rfl;obtain⟨⟨q1,q2⟩,q3⟩:=h5 rfl;cases yh with
  |false=>
   have hno:∀c∈b,c.1=false->False:=fun c hc e=>by have:=k2.2 ⟨c,hc,e⟩;simp at this
   simp only[Bool.false_and,Bool.false_eq_true,if_false];refine⟨hn,?_,?_,?_,?_⟩
   ·rw[hex];simp
   ·intro h;simp at h
   ·intro _
    exact⟨⟨List.mem_append_left _ p1,p2⟩,fun c hc e=>by
     rcases List.mem_append.1 hc with hc|hc
     ·exact p3 c hc e
     ·exact(hno c hc e).elim⟩
   ·intro _
    exact⟨⟨List.mem_append_left _ q1,q2⟩,fun c hc e=>by
     rcases List.mem_append.1 hc with hc|hc
     ·exact q3 c hc e
     ·exact(hno c hc e).elim⟩
  |true=>
   obtain⟨⟨u1,u2⟩,u3⟩:=k4 rfl;obtain⟨⟨v1,v2⟩,v3⟩:=k5 rfl;simp only[Bool.true_and,decide_eq_true_eq];refine⟨hn,?_,?_,?_,?_⟩
   ·rw[hex];simp
   ·intro h;simp at h
   ·intro _
    dsimp only;by_cases hlt:zjr t y1 x1<0
    ·rw[if_pos hlt]
     exact⟨⟨List.mem_append_right _ u1,u2⟩,fun c hc e=>by
      rcases List.mem_append.1 hc with hc|hc
      ·exact zjf (by omega) (p3 c hc e)
      ·exact u3 c hc e⟩
    ·rw[if_neg hlt]
     have hg:zjr t x1 y1<=0:=by rw[znn];omega
     exact⟨⟨List.mem_append_left _ p1,p2⟩,fun c hc e=>by
      rcases List.mem_append.1 hc with hc|hc
      ·exact p3 c hc e
      ·exact zjf hg (u3 c hc e)⟩
   ·intro _
    dsimp only;by_cases hlt:0<zjr t y2 x2
    ·rw[if_pos hlt]
     have hg:zjr t x2 y2<=0:=by rw[znn];omega
     exact⟨⟨List.mem_append_right _ v1,v2⟩,fun c hc e=>by
      rcases List.mem_append.1 hc with hc|hc
      ·exact zjf (q3 c hc e) hg
      ·exact v3 c hc e⟩
    ·rw[if_neg hlt]
     exact⟨⟨List.mem_append_left _ q1,q2⟩,fun c hc e=>by
      rcases List.mem_append.1 hc with hc|hc
      ·exact q3 c hc e
      ·exact zjf (v3 c hc e) (by omega)⟩
 |false=>
  have hno:∀c∈a,c.1=false->False:=fun c hc e=>by have:=h2.2 ⟨c,hc,e⟩;simp at this
  rw[if_neg (by simp)];cases yh with
  |false=>
   rw[if_neg (by simp)];exact⟨hn,by rw[hex];simp,fun _=>⟨rfl,rfl⟩,fun h=>by simp at h,fun h=>by simp at h⟩
  |true=>
   rw[if_pos rfl];obtain⟨⟨u1,u2⟩,u3⟩:=k4 rfl;obtain⟨⟨v1,v2⟩,v3⟩:=k5 rfl;refine⟨hn,by rw[hex];simp,fun h=>by simp at h,?_,?_⟩
   ·intro _
    exact⟨⟨List.mem_append_right _ u1,u2⟩,fun c hc e=>by
     rcases List.mem_append.1 hc with hc|hc
     ·exact(hno c hc e).elim
     ·exact u3 c hc e⟩
   ·intro _
    exact⟨⟨List.mem_append_right _ v1,v2⟩,fun c hc e=>by
     rcases List.mem_append.1 hc with hc|hc
     ·exact(hno c hc e).elim
     ·exact v3 c hc e⟩
theorem IsStat.uniq{t:Int}{l:List zab}(hr:∀c∈l,zae c t true=true)(h8:∀c∈l,∀z∈c.2.2.1,z<256){x y:zdb}(h:IsStat t l x)(k:IsStat t l y):x=y:=by
 obtain⟨xn,xh,x1,x2⟩:=x;obtain⟨yn,yh,y1,y2⟩:=y;obtain⟨h1,h2,h3,h4,h5⟩:=h;obtain⟨k1,k2,k3,k4,k5⟩:=k;dsimp only at*;have hh:xh=yh:=by rw[Bool.eq_iff_iff,h2,k2]
 subst hh;have key:∀{a b:zab},a∈l->b∈l->zjr t a b<=0->zjr t b a<=0->a=b:=fun {a b} ha hb p q=>by rw[znn] at q;exact(z7k (hr a ha) (hr b hb) (h8 a ha) (h8 b hb)).1 (by omega)
 rw[show xn=yn by omega];cases xh with
 |false=>
  rw[(h3 rfl).1,(h3 rfl).2,(k3 rfl).1,(k3 rfl).2]
 |true=>
  obtain⟨⟨p1,p2⟩,p3⟩:=h4 rfl;obtain⟨⟨q1,q2⟩,q3⟩:=h5 rfl;obtain⟨⟨u1,u2⟩,u3⟩:=k4 rfl;obtain⟨⟨v1,v2⟩,v3⟩:=k5 rfl;rw[key p1 u1 (p3 _ u1 u2) (u3 _ p1 p2),key q1 v1 (v3 _ q1 q2) (q3 _ v1 v2)]
def zb9(t:Int)(s:zdb):Bool:=
 if t<0\/3<t\/s.1<0\/65536<s.1 then false
 else if s.2.1 then zae s.2.2.1 t false&&(zae s.2.2.2 t false&&decide (zjr t s.2.2.1 s.2.2.2<=0))
 else decide (s.2.2.1=za8)&&decide (s.2.2.2=za8)
theorem zpb{c:zab}{t:Int}(h:zae c t true=true)(hc:c.1=false):zae c t false=true:=by unfold zae at h⊢;rw[hc] at h⊢;simpa using h
theorem IsStat.right{t:Int}{l:List zab}{s:zdb}(h:IsStat t l s)(hr:∀c∈l,zae c t true=true)(ht:0<=t/\t<=3)(hl:l.length<=65536):zb9 t s=true:=by
 unfold zb9;have hn:=zis l;have:=h.nulls;rw[if_neg (by omega)];cases hh:s.2.1 with
 |false=>
  obtain⟨e1,e2⟩:=h.none hh;simp[e1,e2]
 |true=>
  obtain⟨⟨p1,p2⟩,p3⟩:=h.least hh;obtain⟨⟨q1,q2⟩,q3⟩:=h.most hh;simp[zpb (hr _ p1) p2,zpb (hr _ q1) q2,p3 _ q1 q2]
open Go Go.RowKit
def zce(s:zdb):Value:= .agg (zb8 s).toArray
end Go.Hm
namespace Go.Proofs.Y
open Go.RowKit Go.Hm
set_option maxRecDepth 100000 in
theorem z2u{w:World}(c:zab):Calls Tryz.prog 130 #[zc2 c] w (zal (zce (zj5 c)) w):=by
 obtain⟨b,n,s,x,y⟩:=c;cases b with
 |true=>
  show Calls Tryz.prog 130 #[.agg #[.bool true,.int .i64 n,.string (zad s),.int .i64 x,.int .i64 y]] w (zal (zce (1,false,za8,za8)) w);go_enter Tryz.func130,Tryz.ntmps130
  go_wp2
  exact bodyPost_ret (v:=zce (1,false,za8,za8)) (by simp[results,Tryz.results130,go_sem,zce,zb8,zay,za8,show zad []=⟨#[]⟩ from rfl]) rfl ⟨rfl,zxs w _ _⟩
 |false=>
  show Calls Tryz.prog 130 #[.agg #[.bool false,.int .i64 n,.string (zad s),.int .i64 x,.int .i64 y]] w (zal (zce (0,true,(false,n,s,x,y),(false,n,s,x,y))) w);have B0:=Blk.new w 75 #[.bool false,.int .i64 n,.string (zad s),.int .i64 x,.int .i64 y];obtain⟨x0,x1,x2,x3,x4⟩:=zcq (B0.alloc (.cells #[.int .i64 0,.bool false,.bool false,.int .i64 0,.string ⟨#[]⟩,.int .i64 0,.int .i64 0,.bool false,.int .i64 0,.string ⟨#[]⟩,.int .i64 0,.int .i64 0] 133));clear B0;go_enter Tryz.func130,Tryz.ntmps130
  go_wp2
  exact bodyPost_ret (v:=zce (0,true,(false,n,s,x,y),(false,n,s,x,y))) (by simp[results,Tryz.results130,go_sem,zce,zb8,zay]) rfl ⟨rfl,zxs w _ _⟩
end Go.Proofs.Y
