/- Texts merged and made short: FooA, SchG. -/
import Derived.Test.YtmgfkpnghlmheaaGreatBun1
import Derived.Test.YtmgfkpnghlmheaaGreatBun12
import Derived.Test.YtmgfkpnghlmheaaGreatBun13
import Derived.Test.YtmgfkpnghlmheaaGreatBun14
import Derived.Test.YtmgfkpnghlmheaaGreatBun16
set_option maxHeartbeats 2000000
namespace Go.Hm
open Go Go.RowKit
abbrev ChD:=Option Addr × Nat × List zax
def chV(x:ChD):List Value:=[.slice x.1 x.2.2.length x.2.1]
abbrev GrD:=Int × Option Addr × Nat × List ChD
def grV(g:GrD):List Value:=[.int .i64 g.1,.slice g.2.1 g.2.2.2.length g.2.2.1]
def grP(g:GrD):za4:=(g.1,g.2.2.2.map (·.2.2))
theorem zcj{w:World}{g:Nat}{ty:TypeId}{a0 a1 a2 a3 a4 a5 a6 a7 a8 a9 a10 a11 a12 a13:Value}(h:Blk w g ty #[a0,a1,a2,a3,a4,a5,a6,a7,a8,a9,a10,a11,a12,a13]):w.cell? ⟨g,0,none⟩=some a0∧w.cell? ⟨g,1,none⟩=some a1∧w.cell? ⟨g,2,none⟩=some a2∧w.cell? ⟨g,3,none⟩=some a3∧w.cell? ⟨g,4,none⟩=some a4∧w.cell? ⟨g,5,none⟩=some a5∧w.cell? ⟨g,6,none⟩=some a6∧w.cell? ⟨g,7,none⟩=some a7∧w.cell? ⟨g,8,none⟩=some a8∧w.cell? ⟨g,9,none⟩=some a9∧w.cell? ⟨g,10,none⟩=some a10∧w.cell? ⟨g,11,none⟩=some a11∧w.cell? ⟨g,12,none⟩=some a12∧w.cell? ⟨g,13,none⟩=some a13:=by
 have h0:=h.cell 0;have h1:=h.cell 1;have h2:=h.cell 2;have h3:=h.cell 3;have h4:=h.cell 4;have h5:=h.cell 5;have h6:=h.cell 6;have h7:=h.cell 7;have h8:=h.cell 8;have h9:=h.cell 9;have h10:=h.cell 10;have h11:=h.cell 11;have h12:=h.cell 12;have h13:=h.cell 13;simp at h0 h1 h2 h3 h4 h5 h6 h7 h8 h9 h10 h11 h12 h13;exact⟨h0,h1,h2,h3,h4,h5,h6,h7,h8,h9,h10,h11,h12,h13⟩
def zp2(p:zax):Value:= .agg (zg5 p).toArray
def qiz(c:za0):Value:= .agg (zh4 c).toArray
end Go.Hm
namespace Go.Proofs.YtmgfkpnghlmheaaGreat
open Go.RowKit Go.Hm
def PageFine(p:zax):Prop:=((CellFine p.2.2.2.2.1∧CellFine p.2.2.2.2.2)∧ -9223372036854775808≤p.2.2.1∧p.2.2.1≤9223372036854775807)∧(-9223372036854775808≤p.1∧p.1≤9223372036854775807)∧ -9223372036854775808≤p.2.1∧p.2.1≤9223372036854775807
theorem PageFine.stat{p:zax}(h:PageFine p):zdk p.2.2:=⟨h.1.1.1.1,h.1.1.2.1⟩
set_option maxRecDepth 100000 in
theorem zsq{w:World}{c:za0}{p:zax}{most:Int}(hp:zdk p.2.2):
 Calls Tryz.prog 117 #[qiz c,zp2 p,.int .i64 most] w (zap (.bool (zh8 c.2.1 c.2.2 p most)) w):=by
 obtain⟨nm,t,nu⟩:=c
 have SR:=fun(W:World)=>zg2 (w:=W) (t:=t) hp
 clear hp;obtain⟨M,hM⟩:∃M,M=zh8 t nu p most:=⟨_,rfl⟩;dsimp only;rw[←hM];unfold zh8 at hM;generalize zb7 t p.2.2=R at*;obtain⟨sz,rw,nn,bb,⟨p1,p2,p3,p4,p5⟩,⟨q1,q2,q3,q4,q5⟩⟩:=p;dsimp only at hM SR;have SR:Hid (∀W,Calls Tryz.prog 119 #[.int .i64 t,.agg #[.int .i64 nn,.bool bb,.bool p1,.int .i64 p2,.string (zae p3),.int .i64 p4,.int .i64 p5,.bool q1,.int .i64 q2,.string (zae q3),.int .i64 q4,.int .i64 q5]] W (zap (.bool R) W)):=Hz SR;show Calls Tryz.prog 117 #[.agg #[.string (zae nm),.int .i64 t,.bool nu],.agg #[.int .i64 sz,.int .i64 rw,.int .i64 nn,.bool bb,.bool p1,.int .i64 p2,.string (zae p3),.int .i64 p4,.int .i64 p5,.bool q1,.int .i64 q2,.string (zae q3),.int .i64 q4,.int .i64 q5],.int .i64 most] w (zap (.bool M) w);have B0:=(Blk.new w 70 #[.string (zae nm),.int .i64 t,.bool nu]).alloc (.cells #[.int .i64 sz,.int .i64 rw,.int .i64 nn,.bool bb,.bool p1,.int .i64 p2,.string (zae p3),.int .i64 p4,.int .i64 p5,.bool q1,.int .i64 q2,.string (zae q3),.int .i64 q4,.int .i64 q5] 65);have B1:=Blk.new (w.alloc (.cells #[.string (zae nm),.int .i64 t,.bool nu] 70)) 65 #[.int .i64 sz,.int .i64 rw,.int .i64 nn,.bool bb,.bool p1,.int .i64 p2,.string (zae p3),.int .i64 p4,.int .i64 p5,.bool q1,.int .i64 q2,.string (zae q3),.int .i64 q4,.int .i64 q5];have b0:=zwx w (.cells #[.string (zae nm),.int .i64 t,.bool nu] 70) (.cells #[.int .i64 sz,.int .i64 rw,.int .i64 nn,.bool bb,.bool p1,.int .i64 p2,.string (zae p3),.int .i64 p4,.int .i64 p5,.bool q1,.int .i64 q2,.string (zae q3),.int .i64 q4,.int .i64 q5] 65);simp only[World.size_alloc] at B1;obtain⟨x0,x1,x2,x3,x4,x5,x6,x7,x8,x9,x10,x11,x12,x13⟩:=zcj B1;obtain⟨y0,y1,y2⟩:=zaf B0;by_cases hbad:rw<1∨most<rw∨sz<1∨268435456<sz
 ·rw[if_pos hbad] at hM
  have HM:=Hz hM;clear hM SR;by_cases h1:rw<1
  all_goals try by_cases h2:most<rw
  all_goals try by_cases h3:sz<1
  all_goals try(have h4:268435456<sz:=by omega)
  all_goals
   clear hbad
   go_enter Tryz.func117,Tryz.ntmps117
   go_wp2
   go_ret
   exact⟨by rw[HM.out];rfl,b0⟩
 ·rw[if_neg hbad] at hM
  have h1: ¬rw<1:=fun h=>hbad (by omega)
  have h2: ¬most<rw:=fun h=>hbad (by omega)
  have h3: ¬sz<1:=fun h=>hbad (by omega)
  have h4: ¬268435456<sz:=fun h=>hbad (by omega)
  have HM:=Hz hM;clear hM hbad;have hs:New ((w.alloc (.cells #[.string (zae nm),.int .i64 t,.bool nu] 70)).alloc (.cells #[.int .i64 sz,.int .i64 rw,.int .i64 nn,.bool bb,.bool p1,.int .i64 p2,.string (zae p3),.int .i64 p4,.int .i64 p5,.bool q1,.int .i64 q2,.string (zae q3),.int .i64 q4,.int .i64 q5] 65)) (((w.alloc (.cells #[.string (zae nm),.int .i64 t,.bool nu] 70)).alloc (.cells #[.int .i64 sz,.int .i64 rw,.int .i64 nn,.bool bb,.bool p1,.int .i64 p2,.string (zae p3),.int .i64 p4,.int .i64 p5,.bool q1,.int .i64 q2,.string (zae q3),.int .i64 q4,.int .i64 q5] 65)).alloc (.cells #[.int .i64 nn,.bool bb,.bool p1,.int .i64 p2,.string (zae p3),.int .i64 p4,.int .i64 p5,.bool q1,.int .i64 q2,.string (zae q3),.int .i64 q4,.int .i64 q5] 63)):=(Below.refl _ _).alloc (Nat.le_refl _) _;have B2:=Blk.new ((w.alloc (.cells #[.string (zae nm),.int .i64 t,.bool nu] 70)).alloc (.cells #[.int .i64 sz,.int .i64 rw,.int .i64 nn,.bool bb,.bool p1,.int .i64 p2,.string (zae p3),.int .i64 p4,.int .i64 p5,.bool q1,.int .i64 q2,.string (zae q3),.int .i64 q4,.int .i64 q5] 65)) 63 #[.int .i64 nn,.bool bb,.bool p1,.int .i64 p2,.string (zae p3),.int .i64 p4,.int .i64 p5,.bool q1,.int .i64 q2,.string (zae q3),.int .i64 q4,.int .i64 q5];simp only[World.size_alloc] at B2;obtain⟨z0,z1,z2,z3,z4,z5,z6,z7,z8,z9,z10,z11⟩:=za6 B2;have B0:=B0.below hs B0.lt;have B1:=B1.below hs B1.lt;have b2:=New.trans b0 hs;obtain⟨v0,v1,v2⟩:=zaf B0;have HB0:=Hz B0;have HB1:=Hz B1;have HB2:=Hz B2;have Hb2:=Hz b2;clear hs b0 B0 B1 B2 b2
  go_enter Tryz.func117,Tryz.ntmps117
  go_wp2_with fail
  refine(SR.out _).mono ?_;rintro e w1 ⟨rfl,b1⟩;have B0:=HB0.out.below b1 HB0.out.lt;have B1:=HB1.out.below b1 HB1.out.lt;have B2:=HB2.out.below b1 HB2.out.lt;have b01:=New.trans Hb2.out b1;clear x0 x1 x2 x3 x4 x5 x6 x7 x8 x9 x10 x11 x12 x13 y0 y1 y2 v0 v1 v2 z0 z1 z2 z3 z4 z5 z6 z7 z8 z9 z10 z11 HB0 HB1 HB2 Hb2 b1 SR;obtain⟨x0,x1,x2,x3,x4,x5,x6,x7,x8,x9,x10,x11,x12,x13⟩:=zcj B1;obtain⟨z0,z1,z2,z3,z4,z5,z6,z7,z8,z9,z10,z11⟩:=za6 B2;obtain⟨y0,y1,y2⟩:=zaf B0
  cases R with
  |false=>
   go_wp2
   go_ret
   exact⟨by rw[HM.out];rfl,b01⟩
  |true=>
   generalize k1:decide (nn≤rw)=d1 at*;generalize k2:decide (nn<rw)=d2 at*;generalize k3:decide (nn=0)=d3 at*
   have k4:(nn==0)=d3:=by rw[←k3];rfl
   cases d1<;> cases d2<;> cases d3<;> cases bb<;> cases nu
   all_goals
    go_wp2
    go_ret
    exact⟨by rw[HM.out];rfl,b01⟩
open Go.RowKit Go.Hm
def qfy(c:za0)(g:Nat)(S:St)(w:World)(e:Ending)(w':World):Prop:=e= .returned (.agg #[.string (zae c.1),.int .i64 c.2.1,.bool c.2.2])∧CurS w' g S∧w.grownBy w' (some g)
set_option maxRecDepth 100000 in
theorem z2l{w:World}{g:Nat}{S:St}(h:CurS w g S):Calls Tryz.prog 109 #[.pointer (some ⟨g,0,none⟩)] w (qfy (zsz S).1 g (zsz S).2 w):=by
 have hok:=h.ok;have hg:=h.lt;obtain⟨W0,hW0⟩:∃W,W=w.alloc (.cells #[.string ⟨#[]⟩,.int .i64 0,.bool false] 70):=⟨_,rfl⟩
 have b0:New w W0:=by rw[hW0];exact(Below.refl _ _).alloc (Nat.le_refl _) _
 have G0:w.grownBy W0 (some g):=by rw[hW0];exact World.grownBy_alloc _ _ _
 have B0:Blk W0 w.heap.size 70 #[.string ⟨#[]⟩,.int .i64 0,.bool false]:=by rw[hW0];exact Blk.new _ _ _
 have h0:=h.below b0
 have hne:w.heap.size≠g:=by omega
 have P1:=Hz (zb8 (m:=100) h0 (by omega) (by omega));have hl:=zb0 (m:=100) S (by omega) hok;have ok1:=za5 (m:=100) hok;rw[hW0] at P1;have HW:=Hz hW0;clear h h0 hok hW0 b0;generalize hS:zsz S=R;unfold zsz at hS;generalize lenS 100 S=R1 at*;obtain⟨n1,S1⟩:=R1;simp only at hl ok1 hS P1;have HS:=Hz hS;clear hS
 go_enter Tryz.func109,Tryz.ntmps109
 go_wp2_with fail
 refine P1.out.mono ?_;rintro e w1 ⟨rfl,C1,G1⟩;rw[←HW.out] at G1;have B1:=B0.grown G1 (by simpa using hne);have G01:=G0.trans G1;have P2:=Hz (zc6 (n:=(n1:Int)) C1 (by omega) (by omega));obtain⟨ok2,l2⟩:=zcr (n:=(n1:Int)) ok1;replace HS:=HS.out;generalize zbv (n1:Int) S1=R2 at*;obtain⟨s2,S2⟩:=R2;simp only at ok2 l2 HS P2;replace HS:=Hz HS;clear P1 B0 G0 G1 C1
 go_wp2_with fail
 refine P2.out.mono ?_;rintro e w2 ⟨A2,n2,c2,rfl,e2,k2,C2,G2⟩;have B2:=B1.grown G2 (by simpa using hne);have G02:=G01.trans G2;have X2:=zf5 (c:=c2) k2.reads;have P3:=Hz (ze3 C2);have ok3:=zm4 ok2;have lt3:=zho ok2;replace HS:=HS.out;generalize zbc S2=R3 at*;obtain⟨t3,S3⟩:=R3;simp only at ok3 lt3 HS P3;replace HS:=Hz HS;clear P2 B1 G01 G2 C2 k2 e2
 go_wp2_with fail
 refine P3.out.mono ?_;rintro e w3 ⟨rfl,C3,G3⟩;have B3:=B2.grown G3 (by simpa using hne);have G03:=G02.trans G3;have P4:=Hz (ze3 C3);have lt4:=zho ok3;replace HS:=HS.out;generalize zbc S3=R4 at*;obtain⟨u4,S4⟩:=R4;simp only at lt4 HS P4;replace HS:=Hz HS;clear P3 B2 G02 G3 C3 X2
 go_wp2_with fail
 refine P4.out.mono ?_;rintro e w4 ⟨rfl,C4,G4⟩;have B4:=B3.grown G4 (by simpa using hne);have G04:=G03.trans G4;clear P4 B3 G03 G4;by_cases hu:1<u4
 ·have P5:=Hz (zju C4)
  go_wp2_with fail
  refine P5.out.mono ?_;rintro e w5 ⟨rfl,C5,G5⟩;have B5:=B4.grown G5 (by simpa using hne);have G05:=G04.trans G5;clear P5 B4 G04 G5 C4;obtain⟨p0,p1,p2⟩:=zaf B5;have f0:=B5.frozen 0;have f1:=B5.frozen 1;have f2:=B5.frozen 2;have HB:=Hz B5;clear B5
  go_wp2
  obtain⟨W3,hW3,R10,G10,K10⟩:=z4h HB.out (a:= .string (zae s2)) (b:= .int .i64 (t3:Int)) (c:= .bool ((u4:Int)==1)) G05 (Nat.le_refl _);rw[←hW3];have s0:=R10.cell 0;have s1:=R10.cell 1;have s2':=R10.cell 2;simp at s0 s1 s2'
  have CW:CurS W3 g none:=by rw[hW3];exact((C5.keep zb5 HB.out (by omega) (by decide)).keep zb5 (HB.out.set_ 0 _) (by omega) (by decide)).keep zb5 ((HB.out.set_ 0 _).set_ 1 _) (by omega) (by decide)
  refine bodyPost_ret (v:= .agg #[.string (zae s2),.int .i64 (t3:Int),.bool ((u4:Int)==1)]) (by simp[results,Tryz.results109,go_sem,s0,s1,s2']) rfl ⟨?_,?_,G10⟩
  ·rw[←HS.out,show((u4:Int)==1)=decide (u4=1) by rw[Bool.eq_iff_iff];simp;omega]
  ·rw[←HS.out,if_pos hu]
   exact CW
 ·
  obtain⟨p0,p1,p2⟩:=zaf B4;have f0:=B4.frozen 0;have f1:=B4.frozen 1;have f2:=B4.frozen 2;have HB:=Hz B4;clear B4
  go_wp2
  obtain⟨W3,hW3,R10,G10,K10⟩:=z4h HB.out (a:= .string (zae s2)) (b:= .int .i64 (t3:Int)) (c:= .bool ((u4:Int)==1)) G04 (Nat.le_refl _);rw[←hW3];have s0:=R10.cell 0;have s1:=R10.cell 1;have s2':=R10.cell 2;simp at s0 s1 s2'
  have CW:CurS W3 g S4:=by rw[hW3];exact((C4.keep zb5 HB.out (by omega) (by decide)).keep zb5 (HB.out.set_ 0 _) (by omega) (by decide)).keep zb5 ((HB.out.set_ 0 _).set_ 1 _) (by omega) (by decide)
  refine bodyPost_ret (v:= .agg #[.string (zae s2),.int .i64 (t3:Int),.bool ((u4:Int)==1)]) (by simp[results,Tryz.results109,go_sem,s0,s1,s2']) rfl ⟨?_,?_,G10⟩
  ·rw[←HS.out,show((u4:Int)==1)=decide (u4=1) by rw[Bool.eq_iff_iff];simp;omega]
  ·rw[←HS.out,if_neg hu]
   exact CW
theorem zit{w w1 w2:World}{row:Option Nat}(h:w.grownBy w1 row)(h2:w1.grownBy w2 row):w.grownBy w2 row:=h.trans h2
def qbx(l:List za0)(g:Nat)(S:St)(w:World)(e:Ending)(w':World):Prop:=∃A n c,e= .returned (.slice A n c)∧n≤c∧c≤maxLen∧w'.ownsRow w.heap.size 70 3 (.slice A n c) n (recs zh4 l)∧CurS w' g S∧w.grownBy w' (some g)
theorem elC:ElT Tryz.prog 22 70 (.agg #[.string ⟨#[]⟩,.int .i64 0,.bool false]) 3 32:=⟨by kernel_rfl,by kernel_rfl,rfl,by omega⟩
set_option maxRecDepth 100000 in
theorem qby{w:World}{g:Nat}{S:St}(h:CurS w g S):Calls Tryz.prog 78 #[.pointer (some ⟨g,0,none⟩)] w (qbx (getC S).1 g (getC S).2 w):=by
 have hok:=h.ok;have hg:=h.lt;have P1:=Hz (zb8 (m:=64) h (by omega) (by omega));have hl:=zb0 (m:=64) S (by omega) hok;have ok1:=za5 (m:=64) hok;have G1:=Hz (show getC S=_ from rfl);generalize hR:getC S=R at*;unfold getC at hR;generalize lenS 64 S=R1 at*;obtain⟨n,S1⟩:=R1;simp only at hl ok1 hR P1;have HR:=Hz hR;clear hR G1 h hok
 go_enter Tryz.func78,Tryz.ntmps78
 go_wp2_with fail
 refine P1.out.mono ?_;rintro e w1 ⟨rfl,C1,G1⟩;have z1:=G1.size;clear P1;have g1:g<w1.heap.size:=C1.lt
 go_wp2_with (refine z05 elC rfl (.tmp 8) (.tmp 8) rfl (W:=w1) (B:=w1.heap.size) n rfl rfl rfl rfl (Below.refl _ w1) (Nat.le_refl _) (by omega) (by simp only[maxLen];omega) ?_
              intro w2 o2 g2 b2 s2)
 have C2:=C1.below b2;have G2:w.grownBy w2 (some g):=zhk G1 b2;obtain⟨gm,hgm⟩:∃gm,gm=w1.heap.size:=⟨_,rfl⟩;rw[←hgm] at o2⊢
 have hgm1:w.heap.size≤gm∧g≠gm:=by omega
 have o2:=zbd o2 hgm1.1;clear hgm C1 G1 z1 g2 b2 s2 g1
 go_loopw [12] (fun i wr=>∃k:Nat,i= .int .i64 (k:Int)∧k≤n∧CurS wr g (zeh k S1).2∧wr.ownsRow w.heap.size 70 3 (.slice (some ⟨gm,0,none⟩) n n) n (recs zh4 ((zeh k S1).1++List.replicate (n-k) ([],0,false)))∧w.grownBy wr (some g)) (fun i _=>n-(intOf i).toNat)
 case atStart=>exact⟨0,rfl,by omega,C2,by simpa[recs,zeh,List.flatMap_replicate,zh4,zae] using o2,G2⟩
 case round=>
  obtain⟨k,rfl,hk,C3,o3,G3⟩:=hrel;by_cases hlt:k<n
  ·have P4:=Hz (z2l C3)
   obtain⟨q1,q2⟩:=zq7 k S1;have okk:=zzz k ok1;have hlen:=zkv k S1;have fin:=zvd okk;have HQ1:=Hz q1;have HQ2:=Hz q2;clear q1 q2;generalize(zeh k S1).1=pre at*;generalize(zeh k S1).2=Sk at*;generalize zsz Sk=R4 at*;obtain⟨⟨nm4,t4,u4⟩,S4⟩:=R4;simp only at P4
   have hrep:List.replicate (n-k) (([],0,false):za0)=([],0,false)::List.replicate (n-(k+1)) ([],0,false):=by rw[show n-k=(n-(k+1))+1 by omega];rfl
   rw[hrep,zav,zgz] at o3
   have hpl:(recs zh4 pre).length=k*3:=by rw[zar (sz:=3) (fun _=>rfl),hlen]
   have hiz:(k:Int)<(n:Int):=by omega
   have HO3:=Hz o3;clear o3 C3 hrep
   go_wp2_with fail
   refine P4.out.mono ?_;rintro e w4 ⟨rfl,C4,G4⟩;have o4:=World.ownsRow.kept HO3.out G4 (.inr (by simp[Value.ownBlock];exact fun e=>hgm1.2 e.symm));have G04:=zit G3 G4;obtain⟨cs,B4⟩:=zie o4;have c0:=o4.cellAt (k*3) (by omega);have c1:=o4.cellAt (k*3+1) (by omega);have c2:=o4.cellAt (k*3+2) (by omega);rw[List.getElem?_append_right (by omega),hpl] at c0 c1 c2;simp[zh4] at c0 c1 c2;have f0:=o4.frozenAt (k*3);have f1:=o4.frozenAt (k*3+1);have f2:=o4.frozenAt (k*3+2);have HO4:=Hz o4;clear o4 P4 HO3
   go_wp2
   obtain⟨W5,hW5,o5,g5⟩:=qad (a:= .string (zae nm4)) (b:= .int .i64 t4) (d:= .bool u4) HO4.out hpl;rw[←hW5];clear hW5
   go_roundw
   case rel=>exact⟨k+1,by go_num,by omega,by rw[HQ2.out];exact C4.keep g5 B4 hgm1.2 (by decide),by rw[HQ1.out,List.append_assoc,zav];exact o5,z4g G04 g5 hgm1.1⟩
   case measure=>simp[intOf];omega
  ·obtain rfl:k=n:=by omega
   rw[Nat.sub_self,List.replicate_zero,List.append_nil] at o3;have hfin:=zq8 k ok1;have HR:=HR.out;have hlen:=zkv k S1;generalize zeh k S1=R5 at*;obtain⟨L,S5⟩:=R5;simp only at o3 hfin HR hlen C3;subst hlen;have r3:=Reads.of_own o3;have P6:=Hz (znd (c:=L.length) r3 (fun x hx=>⟨(hfin x hx).1,by have:=(hfin x hx).2;omega⟩) (Nat.le_refl _) (by omega));have P5:=Hz (zy4 C3);rcases S5 with _|l5
   ·rw[if_pos (.inl rfl)] at HR
    subst HR
    go_wp2_with fail
    refine P5.out.mono ?_;rintro e w5 ⟨rfl,rfl⟩;have P7:=Hz (zju C3)
    go_wp2_with fail
    refine P7.out.mono ?_;rintro e w7 ⟨rfl,C7,G7⟩
    go_wp2
    go_ret
    exact⟨none,0,0,rfl,by omega,by simp[maxLen],zcp,C7,zit G3 G7⟩
   ·by_cases hck:zch L=0
    ·rw[if_neg (by simp[hck])] at HR
     subst HR;rw[hck] at P6
     go_wp2_with fail
     refine P5.out.mono ?_;rintro e w5 ⟨rfl,rfl⟩
     go_wp2_with fail
     refine P6.out.mono ?_;rintro e w6 ⟨rfl,b6⟩
     go_wp2
     go_ret
     exact⟨_,_,_,rfl,Nat.le_refl _,by simp only[maxLen];omega,zau o3 b6,C3.below b6,zhk G3 b6⟩
    ·rw[if_pos (.inr hck)] at HR
     subst HR;generalize zch L=ck at*
     have e1:(ck != 0)=true:=by simpa using hck
     clear hck
     go_wp2_with fail
     refine P5.out.mono ?_;rintro e w5 ⟨rfl,rfl⟩
     go_wp2_with fail
     refine P6.out.mono ?_;rintro e w6 ⟨rfl,b6⟩;have P7:=Hz (zju (C3.below b6))
     go_wp2_with fail
     refine P7.out.mono ?_;rintro e w7 ⟨rfl,C7,G7⟩
     go_wp2
     go_ret
     exact⟨none,0,0,rfl,by omega,by simp[maxLen],zcp,C7,zit (zhk G3 b6) G7⟩
end Go.Proofs.YtmgfkpnghlmheaaGreat
