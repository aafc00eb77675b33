/- Merged. -/
import Derived.Test.YtmgfkpnghlmheaaGreatBun16
set_option maxHeartbeats 4000000
namespace Go.Hm
open Go Go.RowKit
abbrev ChD:=Option Addr × Nat × List zay
def chV(x:ChD):List Value:=[.slice x.1 x.2.2.length x.2.1]
abbrev GrD:=Int × Option Addr × Nat × List ChD
def grV(g:GrD):List Value:=[.int .i64 g.1,.slice g.2.1 g.2.2.2.length g.2.2.1]
def grP(g:GrD):za4:=(g.1,g.2.2.2.map (·.2.2))
theorem zci{w:World}{g:Nat}{ty:TypeId}{a0 a1 a2 a3 a4 a5 a6 a7 a8 a9 a10 a11 a12 a13:Value}(h:Blk w g ty #[a0,a1,a2,a3,a4,a5,a6,a7,a8,a9,a10,a11,a12,a13]):w.cell? ⟨g,0,none⟩=some a0/\w.cell? ⟨g,1,none⟩=some a1/\w.cell? ⟨g,2,none⟩=some a2/\w.cell? ⟨g,3,none⟩=some a3/\w.cell? ⟨g,4,none⟩=some a4/\w.cell? ⟨g,5,none⟩=some a5/\w.cell? ⟨g,6,none⟩=some a6/\w.cell? ⟨g,7,none⟩=some a7/\w.cell? ⟨g,8,none⟩=some a8/\w.cell? ⟨g,9,none⟩=some a9/\w.cell? ⟨g,10,none⟩=some a10/\w.cell? ⟨g,11,none⟩=some a11/\w.cell? ⟨g,12,none⟩=some a12/\w.cell? ⟨g,13,none⟩=some a13:=by have h0:=h.cell 0;have h1:=h.cell 1;have h2:=h.cell 2;have h3:=h.cell 3;have h4:=h.cell 4;have h5:=h.cell 5;have h6:=h.cell 6;have h7:=h.cell 7;have h8:=h.cell 8;have h9:=h.cell 9;have h10:=h.cell 10;have h11:=h.cell 11;have h12:=h.cell 12;have h13:=h.cell 13;simp at h0 h1 h2 h3 h4 h5 h6 h7 h8 h9 h10 h11 h12 h13;exact⟨h0,h1,h2,h3,h4,h5,h6,h7,h8,h9,h10,h11,h12,h13⟩
def zqg(p:zay):Value:= .agg (zg9 p).toArray
def qiz(c:za2):Value:= .agg (zh8 c).toArray
end Go.Hm
namespace Go.Proofs.Y
open Go.RowKit Go.Hm
def PageFine(p:zay):Prop:=((CellFine p.2.2.2.2.1/\CellFine p.2.2.2.2.2)/\ -9223372036854775808<=p.2.2.1/\p.2.2.1<=9223372036854775807)/\(-9223372036854775808<=p.1/\p.1<=9223372036854775807)/\ -9223372036854775808<=p.2.1/\p.2.1<=9223372036854775807
theorem PageFine.stat{p:zay}(h:PageFine p):zdk p.2.2:=⟨h.1.1.1.1,h.1.1.2.1⟩
set_option maxRecDepth 100000 in
theorem zs0{w:World}{c:za2}{p:zay}{most:Int}(hp:zdk p.2.2):
 Calls Tryz.prog 117 #[qiz c,zqg p,.int .i64 most] w (zap (.bool (zh0 c.2.1 c.2.2 p most)) w):=by
 obtain⟨nm,t,nu⟩:=c;have SR:=fun(W:World)=>zg5 (w:=W) (t:=t) hp
 clear hp;obtain⟨M,hM⟩:∃M,M=zh0 t nu p most:=⟨_,rfl⟩;dsimp only;rw[<-hM];unfold zh0 at hM;generalize zb5 t p.2.2=R at*;obtain⟨sz,rw,nn,bb,⟨p1,p2,p3,p4,p5⟩,⟨q1,q2,q3,q4,q5⟩⟩:=p;dsimp only at hM SR;have SR:Hid (∀W,Calls Tryz.prog 119 #[.int .i64 t,.agg #[.int .i64 nn,.bool bb,.bool p1,.int .i64 p2,.string (zad p3),.int .i64 p4,.int .i64 p5,.bool q1,.int .i64 q2,.string (zad q3),.int .i64 q4,.int .i64 q5]] W (zap (.bool R) W)):=Hz SR;show Calls Tryz.prog 117 #[.agg #[.string (zad nm),.int .i64 t,.bool nu],.agg #[.int .i64 sz,.int .i64 rw,.int .i64 nn,.bool bb,.bool p1,.int .i64 p2,.string (zad p3),.int .i64 p4,.int .i64 p5,.bool q1,.int .i64 q2,.string (zad q3),.int .i64 q4,.int .i64 q5],.int .i64 most] w (zap (.bool M) w);have B0:=(Blk.new w 70 #[.string (zad nm),.int .i64 t,.bool nu]).alloc (.cells #[.int .i64 sz,.int .i64 rw,.int .i64 nn,.bool bb,.bool p1,.int .i64 p2,.string (zad p3),.int .i64 p4,.int .i64 p5,.bool q1,.int .i64 q2,.string (zad q3),.int .i64 q4,.int .i64 q5] 65);have B1:=Blk.new (w.alloc (.cells #[.string (zad nm),.int .i64 t,.bool nu] 70)) 65 #[.int .i64 sz,.int .i64 rw,.int .i64 nn,.bool bb,.bool p1,.int .i64 p2,.string (zad p3),.int .i64 p4,.int .i64 p5,.bool q1,.int .i64 q2,.string (zad q3),.int .i64 q4,.int .i64 q5];have b0:=zw1 w (.cells #[.string (zad nm),.int .i64 t,.bool nu] 70) (.cells #[.int .i64 sz,.int .i64 rw,.int .i64 nn,.bool bb,.bool p1,.int .i64 p2,.string (zad p3),.int .i64 p4,.int .i64 p5,.bool q1,.int .i64 q2,.string (zad q3),.int .i64 q4,.int .i64 q5] 65);simp only[World.size_alloc] at B1;obtain⟨x0,x1,x2,x3,x4,x5,x6,x7,x8,x9,x10,x11,x12,x13⟩:=zci B1;obtain⟨y0,y1,y2⟩:=zaf B0;by_cases hbad:rw<1\/most<rw\/sz<1\/268435456<sz
 ·rw[if_pos hbad] at hM
  have HM:=Hz hM;clear hM SR;by_cases h1:rw<1;all_goals try by_cases h2:most<rw
  all_goals try by_cases h3:sz<1
  all_goals try(have h4:268435456<sz:=by omega)
  all_goals
   clear hbad;go_enter Tryz.func117,Tryz.ntmps117
   go_wp2
   go_ret
   exact⟨by rw[HM.out];rfl,b0⟩
 ·rw[if_neg hbad] at hM
  have h1: ¬rw<1:=fun h=>hbad (by omega)
  have h2: ¬most<rw:=fun h=>hbad (by omega)
  have h3: ¬sz<1:=fun h=>hbad (by omega)
  have h4: ¬268435456<sz:=fun h=>hbad (by omega)
  have HM:=Hz hM;clear hM hbad;have hs:New ((w.alloc (.cells #[.string (zad nm),.int .i64 t,.bool nu] 70)).alloc (.cells #[.int .i64 sz,.int .i64 rw,.int .i64 nn,.bool bb,.bool p1,.int .i64 p2,.string (zad p3),.int .i64 p4,.int .i64 p5,.bool q1,.int .i64 q2,.string (zad q3),.int .i64 q4,.int .i64 q5] 65)) (((w.alloc (.cells #[.string (zad nm),.int .i64 t,.bool nu] 70)).alloc (.cells #[.int .i64 sz,.int .i64 rw,.int .i64 nn,.bool bb,.bool p1,.int .i64 p2,.string (zad p3),.int .i64 p4,.int .i64 p5,.bool q1,.int .i64 q2,.string (zad q3),.int .i64 q4,.int .i64 q5] 65)).alloc (.cells #[.int .i64 nn,.bool bb,.bool p1,.int .i64 p2,.string (zad p3),.int .i64 p4,.int .i64 p5,.bool q1,.int .i64 q2,.string (zad q3),.int .i64 q4,.int .i64 q5] 63)):=(Below.refl _ _).alloc (Nat.le_refl _) _;have B2:=Blk.new ((w.alloc (.cells #[.string (zad nm),.int .i64 t,.bool nu] 70)).alloc (.cells #[.int .i64 sz,.int .i64 rw,.int .i64 nn,.bool bb,.bool p1,.int .i64 p2,.string (zad p3),.int .i64 p4,.int .i64 p5,.bool q1,.int .i64 q2,.string (zad q3),.int .i64 q4,.int .i64 q5] 65)) 63 #[.int .i64 nn,.bool bb,.bool p1,.int .i64 p2,.string (zad p3),.int .i64 p4,.int .i64 p5,.bool q1,.int .i64 q2,.string (zad q3),.int .i64 q4,.int .i64 q5];simp only[World.size_alloc] at B2;obtain⟨z0,z1,z2,z3,z4,z5,z6,z7,z8,z9,z10,z11⟩:=za7 B2;have B0:=B0.below hs B0.lt;have B1:=B1.below hs B1.lt;have b2:=New.trans b0 hs;obtain⟨v0,v1,v2⟩:=zaf B0;have HB0:=Hz B0;have HB1:=Hz B1;have HB2:=Hz B2;have Hb2:=Hz b2;clear hs b0 B0 B1 B2 b2;go_enter Tryz.func117,Tryz.ntmps117
  go_wp2_with fail
  refine(SR.out _).mono ?_;rintro e w1 ⟨rfl,b1⟩;have B0:=HB0.out.below b1 HB0.out.lt;have B1:=HB1.out.below b1 HB1.out.lt;have B2:=HB2.out.below b1 HB2.out.lt;have b01:=New.trans Hb2.out b1;clear x0 x1 x2 x3 x4 x5 x6 x7 x8 x9 x10 x11 x12 x13 y0 y1 y2 v0 v1 v2 z0 z1 z2 z3 z4 z5 z6 z7 z8 z9 z10 z11 HB0 HB1 HB2 Hb2 b1 SR;obtain⟨x0,x1,x2,x3,x4,x5,x6,x7,x8,x9,x10,x11,x12,x13⟩:=zci B1;obtain⟨z0,z1,z2,z3,z4,z5,z6,z7,z8,z9,z10,z11⟩:=za7 B2;obtain⟨y0,y1,y2⟩:=zaf B0;cases R with
  |false=>
   go_wp2
   go_ret
   exact⟨by rw[HM.out];rfl,b01⟩
  |true=>
   generalize k1:decide (nn<=rw)=d1 at*;generalize k2:decide (nn<rw)=d2 at*;generalize k3:decide (nn=0)=d3 at*;have k4:(nn==0)=d3:=by rw[<-k3];rfl
   cases d1<;> cases d2<;> cases d3<;> cases bb<;> cases nu;all_goals
    go_wp2
    go_ret
    exact⟨by rw[HM.out];rfl,b01⟩
end Go.Proofs.Y
namespace Go.Hm
open Go Go.RowKit
theorem zpl(l:List (Int × Int))(p:Int × Int):zcy (l++[p])=zcy l++[.int .i64 p.1,.int .i64 p.2]:=by simp[zcy]
theorem z7k{h:Int × Int}{l:List (Int × Int)}{k:Nat}(hk:k<l.length):
 zfy h (l.drop k)=if nearB (l.getD k (0,0)).1 (l.getD k (0,0)).2&&inBox (h.1+(l.getD k (0,0)).1) (h.2+(l.getD k (0,0)).2) then(zfy (h.1+(l.getD k (0,0)).1,h.2+(l.getD k (0,0)).2) (l.drop (k+1))).map ((h.1+(l.getD k (0,0)).1,h.2+(l.getD k (0,0)).2):: ·) else none:=by
 rw[zd0 l k (0,0) hk,zfy]
theorem z2s{h:Int × Int}{l:List (Int × Int)}{k:Nat}(hk:k<l.length):
 zfz h (l.drop k)=if inBox (l.getD k (0,0)).1 (l.getD k (0,0)).2 then(zfz (l.getD k (0,0)) (l.drop (k+1))).map (((l.getD k (0,0)).1-h.1,(l.getD k (0,0)).2-h.2):: ·) else none:=by
 rw[zd0 l k (0,0) hk,zfz]
theorem zmv{α:Type}{o:Option (List α)}{x:α}{acc:List α}:(o.map (x:: ·)).map (acc++ ·)=o.map ((acc++[x])++ ·):=by cases o<;> simp
section
variable{P:Program}{ops:Array Oper}{rest:List Oper}{o:Oper}{a:Act}{Q:Exit->Act->World->Prop}
theorem zru{w:World}{t e:TypeId}{z:Value}{sz bytes:Nat}(E:ElT P t e z sz bytes)(hgd:o.guard=none)(lo co:Operand)(ho:o.op=Op.makeSlice t lo co)
 {W:World}{B:Nat}{kl kc:IntKind}{L C:Int}(n:Nat)(hl:a.eval lo= .int kl L)(hc:a.eval co= .int kc C)(hL:L=0)(hC:C=(n:Int))(hb:Below B W w)(hbase:B<=w.heap.size)
 (hn:n*bytes<=140737488355328)(hm:n<=maxLen)
 (h:∀w',w'.ownsRow w.heap.size e sz (.slice (some ⟨w.heap.size,0,none⟩) 0 n) 0 []->w.grownBy w' none->Below B W w'->w'.heap.size=w.heap.size+1->wpList P ops Q rest (a.put o.dst (.slice (some ⟨w.heap.size,0,none⟩) 0 n)) w'):
 wpList P ops Q (o::rest) a w:=by
 obtain⟨i,hi,hz0,hs1,hb1⟩:=info_parts E.hi;subst hL hC;have hmC:(n:Int)<=9223372036854775807:=by have h:=hm;simp only[maxLen] at h;omega
 have hbC:(i.bytes:Int)*(n:Int)<=281474976710656:=by
  have h:((i.bytes*n:Nat):Int)<=281474976710656:=by rw[hb1,Nat.mul_comm];omega
  rwa[Int.natCast_mul] at h
 have hrun:=run_make (P:=P) w t e i z E.ht hi hz0 kl kc 0 (n:Int) (by omega) (by omega) hbC hmC;rw[Int.toNat_natCast,hs1] at hrun;refine wpList_plain hgd fun K hK=>?_
 unfold Oper.wp;simp[execOp,ho,hl,hc,hrun,Result.andThen];refine hK _ _ (h _ ?_ (World.grownBy_alloc _ _ _) (hb.alloc hbase _) (by simp));exact⟨by simp,.inr ⟨_,n,_,rfl,Nat.le_refl _,heap_alloc_new w _,Nat.zero_le _,hm,by simp[size_madeCells],by simp⟩⟩
end
end Go.Hm
namespace Go.Proofs.Y
open Go.RowKit Go.Hm
theorem qgs:ElT Tryz.prog 199 59 (.agg #[.int .i64 0,.int .i64 0]) 2 16:=⟨by kernel_rfl,by kernel_rfl,rfl,by omega⟩
def qf6(o:Option (List (Int × Int)))(w:World)(e:Ending)(w':World):Prop:=
 ∃A n c,e= .returned (.tuple #[.slice A n c,.bool o.isSome])/\w'.ownsRow w.heap.size 59 2 (.slice A n c) n (zcy (o.getD []))/\New w w'
def qd5(o:Option (List (Int × Int)))(w:World)(e:Ending)(w':World):Prop:=
 ∃A n c,e= .returned (.slice A n c)/\w'.ownsRow w.heap.size 59 2 (.slice A n c) n (zcy (o.getD []))/\New w w'
set_option maxRecDepth 100000 in
theorem z7l{w:World}{A:Option Addr}{n c:Nat}{l:List (Int × Int)}(h:Reads w w.heap.size 2 A n (zcy l))(hn:n<=1000000):
 Calls Tryz.prog 231 #[.slice A n c] w (qf6 (zfy (0,0) l) w):=by
 obtain rfl:=h.lenP;have Z:=Hz (show∀z,(zfy (0,0) (l.drop 0)).map ([]++ ·)=z->zfy (0,0) l=z by intro z hz;rw[<-hz];cases hw:zfy (0,0) l<;> simp[hw])
 generalize zfy (0,0) l=O at*;go_enter Tryz.func231,Tryz.ntmps231
 go_wp2_with (refine zru qgs rfl _ _ rfl (W:=w) (B:=w.heap.size) l.length rfl rfl rfl rfl (Below.refl _ _) (Nat.le_refl _) (by omega) (by simp only[maxLen];omega) ?_;intro w1 o1 g1 b1 z1)
 obtain⟨W2,hW2⟩:∃W,W=w1.alloc (.cells #[.int .i64 0,.int .i64 0] 59):=⟨_,rfl⟩;have B2:Blk W2 (w.heap.size+1) 59 #[.int .i64 0,.int .i64 0]:=by rw[hW2,<-z1];exact Blk.new _ _ _
 have b2:New w W2:=by rw[hW2];exact b1.alloc (by omega) _
 have o2:W2.ownsRow w.heap.size 59 2 (.slice (some ⟨w.heap.size,0,none⟩) 0 l.length) 0 (zcy []):=by rw[hW2];exact World.ownsRow.alloc o1 _
 have HB2:=Hz B2;have HR:=Hz h;have Z2:=Hz z1;rw[z1] at*;have HW2:=Hz hW2;clear hW2 B2 h o1 g1 b1 z1;go_wp2
 rw[<-HW2.out];go_loopw [4,13] (fun v i wr=>∃(k:Nat) (A:Option Addr) (c:Nat) (acc:List (Int × Int)) (hx hy:Int),k<=l.length/\i= .int .i64 (k:Int)/\v= .slice A k c/\Hid (wr.ownsRow w.heap.size 59 2 (.slice A k c) k (zcy acc))/\Hid ((Value.slice A k c).ownBlock≠some (w.heap.size+1))/\Hid (Blk wr (w.heap.size+1) 59 #[.int .i64 hx,.int .i64 hy])/\New w wr/\Hid (inBox hx hy=true)/\Hid ((zfy (hx,hy) (l.drop k)).map (acc++ ·)=O)) (fun _ i _=>l.length-(intOf i).toNat)
 case atStart=>exact⟨0,_,_,[],0,0,by omega,rfl,rfl,Hz o2,Hz (by simp[Value.ownBlock]),HB2,b2,Hz rfl,Hz (Z.out _ rfl).symm⟩
 case round=>
  obtain⟨k,A1,c1,acc,hx,hy,hk,rfl,rfl,o,N,B,b,I,E⟩:=hrel;by_cases hlt:k<l.length
  ·have hst:=z7k (h:=(hx,hy)) hlt
   have E2:=Hz (E.out.symm.trans (congrArg (fun z=>z.map (acc++ ·)) hst));obtain⟨ad,rfl,hbk,x0,x1⟩:=(Reads.later HR.out b).pair2 hlt;generalize(l.getD k (0,0)).1=x at*;generalize(l.getD k (0,0)).2=y at*;obtain⟨W3,hW3⟩:∃W,W=wr.alloc (.cells #[.int .i64 x,.int .i64 y] 59):=⟨_,rfl⟩;have b3:New wr W3:=by rw[hW3];exact(Below.refl _ _).alloc (Nat.le_refl _) _
   have T3:Blk W3 wr.heap.size 59 #[.int .i64 x,.int .i64 y]:=by rw[hW3];exact Blk.new _ _ _
   have B3:=B.out.below b3 B.out.lt;have F3:=Hz (fun(W:World) (hW:New W3 W)=>And.intro (zbe (T3.below hW T3.lt)) (zbe (B3.below hW B3.lt)));obtain⟨⟨t0,t1⟩,y0,y1⟩:=F3.out W3 (New.refl _);have HW3:=Hz hW3;have HT3:=Hz T3;have HB3:=Hz B3;have WT:=Hz (fun W:World=>zx0 (w:=W) x y);rw[hW3] at t0 t1 y0 y1;clear hst hW3 T3 B3;go_wp2_with fail
   rw[<-HW3.out]
   (with_reducible refine(WT.out _).mono ?_)
   rintro e w4 ⟨rfl,b4⟩;clear x0 x1 t0 t1 y0 y1 WT HW3;obtain⟨⟨t0,t1⟩,y0,y1⟩:=F3.out w4 b4;cases hnb:nearB x y with
   |false=>
    have hO:O=none:=by rw[E2.out,hnb];simp
    have HO:=Hz hO;have bE:=New.trans b (New.trans b3 b4);clear hO hnb;go_wp2
    go_ret2
    exact⟨_,_,_,by rw[HO.out];rfl,by rw[HO.out];exact zcn,bE⟩
   |true=>
    have nb:=nearB_iff.1 hnb;have ib:=inBox_iff.1 I.out;have PA:=Hz (fun W:World=>qcc (w:=W) (x:=hx) (y:=hy) (u:=x) (v:=y) (by omega) (by omega) (by omega) (by omega));rw[hnb] at E2;have HNB:=Hz hnb;clear nb ib hnb;go_wp2_with fail
    (with_reducible refine(PA.out _).mono ?_)
    rintro e w5 ⟨rfl,b5⟩;have b35:=New.trans b4 b5;clear t0 t1 y0 y1 PA;generalize hx+x=px at*;generalize hy+y=py at*;have T5:=HT3.out.below b35 HT3.out.lt;have B5:=HB3.out.below b35 HB3.out.lt;obtain⟨y0,y1⟩:=zbe B5;have f0:=B5.frozen 0;have f1:=B5.frozen 1;obtain⟨W6,hW6⟩:∃W,W=((w5.setCell ⟨w.heap.size+1,0,none⟩ (.int .i64 px)).setCell ⟨w.heap.size+1,1,none⟩ (.int .i64 py)):=⟨_,rfl⟩;have B6:Blk W6 (w.heap.size+1) 59 #[.int .i64 px,.int .i64 py]:=by rw[hW6];exact zz6 B5
    have g6:Far (w.heap.size+1) w5 W6:=by rw[hW6];exact znv _ _ _
    have hle:w.heap.size+1<wr.heap.size:=B.out.lt;have T6:=T5.grown g6 (by simp;omega);have o5:=zau o.out (New.trans b3 b35);have o6:=World.ownsRow.kept o5 g6 (.inr N.out);have b6:New w W6:=(New.trans b (New.trans b3 b35)).grown g6 (by have:=b.size;have:=(New.trans b3 b35).size;omega) (fun k hk=>by injection hk with hk;omega);have HB6:=Hz B6;have HT6:=Hz T6;have HO6:=Hz o6;have HW6:=Hz hW6;have z6:=g6.size;have z35:=(New.trans b3 b35).size;clear T5 B5 hW6 B6 g6 T6 o5 o6 b35 b3 b4 b5 HT3 HB3;have PR:=Hz (fun W:World=>zlo (w:=W) px py);obtain⟨q0,q1⟩:=zbe HB6.out;rw[HW6.out] at q0 q1;go_wp2_with fail
    rw[<-HW6.out]
    (with_reducible refine(PR.out _).mono ?_)
    rintro e w7 ⟨rfl,b7⟩;clear y0 y1 f0 f1 q0 q1 PR HW6;have o7:=zau HO6.out b7;have B7:=HB6.out.below b7 HB6.out.lt;obtain⟨q0,q1⟩:=zbe B7;have b07:=New.trans b6 b7;cases hnb:inBox px py with
    |false=>
     have hO:O=none:=by rw[E2.out,hnb];simp
     have HO:=Hz hO;clear hO hnb;go_wp2
     go_ret2
     exact⟨_,_,_,by rw[HO.out];rfl,by rw[HO.out];exact zcn,b07⟩
    |true=>
     have E3:=Hz (show(zfy (px,py) (l.drop (k+1))).map ((acc++[(px,py)])++ ·)=O by rw[E2.out,hnb,<-zmv];simp);have HI:=Hz hnb;have z0:=b07.size;have HB7:=Hz B7;have hz7:w.heap.size+1<w7.heap.size:=by have:=b7.size;omega
     clear hnb E2 E B7
     go_wp2_with (refine zdb qgs rfl (.tmp 26) (.tmp 28) rfl (W:=w) (B:=w.heap.size) (base:=w.heap.size) (n:=k) o7 rfl rfl b07 (Nat.le_refl _) z0 rfl (by simp[Value.oneCell']) (by omega) (by simp only[maxLen];omega) ?_
                  intro A' c' w8 _ _ o' g' b' hsz hat)
     have N8:(Value.slice A' (k+1) c').ownBlock≠some (w.heap.size+1):=by
      rcases hat with e1|⟨gg,e1,e2⟩
      ·rw[e1];exact N.out
      ·rw[e1];simp;omega
     have B8:=HB7.out.grown g' (fun e=>N.out e.symm);go_roundw
     case rel=>exact⟨k+1,A',c',acc++[(px,py)],px,py,by omega,by go_num,rfl,Hz (by rw[zpl];exact o'),Hz N8,Hz B8,b',HI,E3⟩
     case measure=>simp[intOf];omega
  ·obtain rfl:k=l.length:=by omega
   have HO:=Hz (show O=some acc by rw[<-E.out,List.drop_length,zfy];simp);clear E;go_wp2
   go_ret2
   exact⟨_,_,_,by rw[HO.out];rfl,by rw[HO.out];exact o.out,b⟩
set_option maxRecDepth 100000 in
theorem z2t{w:World}{A:Option Addr}{n c:Nat}{l:List (Int × Int)}(h:Reads w w.heap.size 2 A n (zcy l))(hn:n<=1000000):
 Calls Tryz.prog 227 #[.slice A n c] w (qd5 (zfz (0,0) l) w):=by
 obtain rfl:=h.lenP;have Z:=Hz (show∀z,(zfz (0,0) (l.drop 0)).map ([]++ ·)=z->zfz (0,0) l=z by intro z hz;rw[<-hz];cases hw:zfz (0,0) l<;> simp[hw])
 generalize zfz (0,0) l=O at*;go_enter Tryz.func227,Tryz.ntmps227
 go_wp2_with (refine zru qgs rfl _ _ rfl (W:=w) (B:=w.heap.size) l.length rfl rfl rfl rfl (Below.refl _ _) (Nat.le_refl _) (by omega) (by simp only[maxLen];omega) ?_;intro w1 o1 g1 b1 z1)
 obtain⟨W2,hW2⟩:∃W,W=w1.alloc (.cells #[.int .i64 0,.int .i64 0] 59):=⟨_,rfl⟩;have B2:Blk W2 (w.heap.size+1) 59 #[.int .i64 0,.int .i64 0]:=by rw[hW2,<-z1];exact Blk.new _ _ _
 have b2:New w W2:=by rw[hW2];exact b1.alloc (by omega) _
 have o2:W2.ownsRow w.heap.size 59 2 (.slice (some ⟨w.heap.size,0,none⟩) 0 l.length) 0 (zcy []):=by rw[hW2];exact World.ownsRow.alloc o1 _
 have HB2:=Hz B2;have HR:=Hz h;have Z2:=Hz z1;rw[z1] at*;have HW2:=Hz hW2;clear hW2 B2 h o1 g1 b1 z1;go_wp2
 rw[<-HW2.out];go_loopw [3,12] (fun v i wr=>∃(k:Nat) (A:Option Addr) (c:Nat) (acc:List (Int × Int)) (hx hy:Int),k<=l.length/\i= .int .i64 (k:Int)/\v= .slice A k c/\Hid (wr.ownsRow w.heap.size 59 2 (.slice A k c) k (zcy acc))/\Hid ((Value.slice A k c).ownBlock≠some (w.heap.size+1))/\Hid (Blk wr (w.heap.size+1) 59 #[.int .i64 hx,.int .i64 hy])/\New w wr/\Hid (inBox hx hy=true)/\Hid ((zfz (hx,hy) (l.drop k)).map (acc++ ·)=O)) (fun _ i _=>l.length-(intOf i).toNat)
 case atStart=>exact⟨0,_,_,[],0,0,by omega,rfl,rfl,Hz o2,Hz (by simp[Value.ownBlock]),HB2,b2,Hz rfl,Hz (Z.out _ rfl).symm⟩
 case round=>
  obtain⟨k,A1,c1,acc,hx,hy,hk,rfl,rfl,o,N,B,b,I,E⟩:=hrel;by_cases hlt:k<l.length
  ·have hst:=z2s (h:=(hx,hy)) hlt
   have E2:=Hz (E.out.symm.trans (congrArg (fun z=>z.map (acc++ ·)) hst));obtain⟨ad,rfl,hbk,x0,x1⟩:=(Reads.later HR.out b).pair2 hlt;have hpp:l.getD k (0,0)=((l.getD k (0,0)).1,(l.getD k (0,0)).2):=rfl;rw[hpp] at E2;generalize(l.getD k (0,0)).1=x at*;generalize(l.getD k (0,0)).2=y at*;obtain⟨W3,hW3⟩:∃W,W=wr.alloc (.cells #[.int .i64 x,.int .i64 y] 59):=⟨_,rfl⟩;have b3:New wr W3:=by rw[hW3];exact(Below.refl _ _).alloc (Nat.le_refl _) _
   have T3:Blk W3 wr.heap.size 59 #[.int .i64 x,.int .i64 y]:=by rw[hW3];exact Blk.new _ _ _
   have B3:=B.out.below b3 B.out.lt;have F3:=Hz (fun(W:World) (hW:New W3 W)=>And.intro (zbe (T3.below hW T3.lt)) (zbe (B3.below hW B3.lt)));obtain⟨⟨t0,t1⟩,y0,y1⟩:=F3.out W3 (New.refl _);have HW3:=Hz hW3;have HT3:=Hz T3;have HB3:=Hz B3;have WT:=Hz (fun W:World=>zlo (w:=W) x y);rw[hW3] at t0 t1 y0 y1;clear hst hW3 T3 B3 hpp;go_wp2_with fail
   rw[<-HW3.out]
   (with_reducible refine(WT.out _).mono ?_)
   rintro e w4 ⟨rfl,b4⟩;clear x0 x1 t0 t1 y0 y1 WT HW3;obtain⟨⟨t0,t1⟩,y0,y1⟩:=F3.out w4 b4;cases hnb:inBox x y with
   |false=>
    have hO:O=none:=by rw[E2.out,hnb];simp
    have HO:=Hz hO;have bE:=New.trans b (New.trans b3 b4);clear hO hnb;go_wp2
    go_ret
    exact⟨_,_,_,rfl,by rw[HO.out];exact zcn,bE⟩
   |true=>
    have nb:=inBox_iff.1 hnb;have ib:=inBox_iff.1 I.out;have PA:=Hz (fun W:World=>qcd (w:=W) (x:=x) (y:=y) (u:=hx) (v:=hy) (by omega) (by omega) (by omega) (by omega));have HNB:=Hz hnb;have E3:=Hz (show(zfz (x,y) (l.drop (k+1))).map ((acc++[(x-hx,y-hy)])++ ·)=O by rw[E2.out,hnb,<-zmv];simp);clear nb ib hnb E2 E;go_wp2_with fail
    (with_reducible refine(PA.out _).mono ?_)
    rintro e w5 ⟨rfl,b5⟩;have b35:=New.trans b4 b5;clear t0 t1 y0 y1 PA;generalize x-hx=px at*;generalize y-hy=py at*;have o5:=zau o.out (New.trans b3 b35);have b05:=New.trans b (New.trans b3 b35);have z0:=b05.size;have hle:w.heap.size+1<wr.heap.size:=B.out.lt;have hz5:wr.heap.size<w5.heap.size:=by have:=HT3.out.lt;have:=b35.size;omega
    obtain⟨W6,hW6⟩:∃W,W=w5.alloc (.cells #[.int .i64 px,.int .i64 py] 59):=⟨_,rfl⟩;have T5:=HT3.out.below b35 HT3.out.lt;have B5:=HB3.out.below b35 HB3.out.lt;have HT5:=Hz T5;have HB5:=Hz B5;clear T5 B5 hW6;have NT:(Value.slice A1 k c1).ownBlock≠some wr.heap.size:=by intro e;have:=(World.ownsRow.lt o.out _ e).2;omega
    have FT:=Hz (fun(W:World) (hW:w5.grownBy W (Value.slice A1 k c1).ownBlock)=>And.intro (HT5.out.grown hW (fun e=>NT e.symm)) (HB5.out.grown hW (fun e=>N.out e.symm)));clear NT
    go_wp2_with (refine zdb qgs rfl (.tmp 19) (.tmp 23) rfl (W:=w) (B:=w.heap.size) (base:=w.heap.size) (n:=k) o5 rfl rfl b05 (Nat.le_refl _) z0 rfl (by simp[Value.oneCell']) (by omega) (by simp only[maxLen];omega) ?_
                 intro A' c' w8 _ _ o' g' b' hsz hat;obtain⟨t0,t1⟩:=zbe (FT.out w8 g').1;obtain⟨y0,y1⟩:=zbe (FT.out w8 g').2;have f0:=(FT.out w8 g').2.frozen 0;have f1:=(FT.out w8 g').2.frozen 1)
    have N8:(Value.slice A' (k+1) c').ownBlock≠some (w.heap.size+1):=by
     rcases hat with e1|⟨gg,e1,e2⟩
     ·rw[e1];exact N.out
     ·rw[e1];simp;omega
    have g6:=znv (g:=w.heap.size+1) (.int .i64 x) (.int .i64 y) w8;have o9:=World.ownsRow.kept o' g6 (.inr N8);have B9:=zz6 (FT.out w8 g').2 (a:= .int .i64 x) (b:= .int .i64 y);have b9:=New.far b' g6 (by omega);go_roundw
    case rel=>exact⟨k+1,A',c',acc++[(px,py)],x,y,by omega,by go_num,rfl,Hz (by rw[zpl];exact o9),Hz N8,Hz B9,b9,HNB,E3⟩
    case measure=>simp[intOf];omega
  ·obtain rfl:k=l.length:=by omega
   have HO:=Hz (show O=some acc by rw[<-E.out,List.drop_length,zfz];simp);clear E;go_wp2
   go_ret
   exact⟨_,_,_,rfl,by rw[HO.out];exact o.out,b⟩
end Go.Proofs.Y
