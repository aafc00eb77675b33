/- Merged. -/
import Derived.Test.YtmgfkpnghlmheaaGreatBun15
import Derived.Test.YtmgfkpnghlmheaaGreatBun17
set_option maxHeartbeats 2000000
namespace Go.Hm
open Go Go.RowKit
abbrev ChD:=Option Addr × Nat × List zax
def chV(x:ChD):List Value:=[.slice x.1 x.2.2.length x.2.1]
abbrev GrD:=Int × Option Addr × Nat × List ChD
def grV(g:GrD):List Value:=[.int .i64 g.1,.slice g.2.1 g.2.2.2.length g.2.2.1]
def grP(g:GrD):za5:=(g.1,g.2.2.2.map (·.2.2))
theorem zce{w:World}{g:Nat}{ty:TypeId}{a0 a1 a2 a3 a4 a5 a6 a7 a8 a9 a10 a11 a12 a13:Value}(h:Blk w g ty #[a0,a1,a2,a3,a4,a5,a6,a7,a8,a9,a10,a11,a12,a13]):w.cell? ⟨g,0,none⟩=some a0/\w.cell? ⟨g,1,none⟩=some a1/\w.cell? ⟨g,2,none⟩=some a2/\w.cell? ⟨g,3,none⟩=some a3/\w.cell? ⟨g,4,none⟩=some a4/\w.cell? ⟨g,5,none⟩=some a5/\w.cell? ⟨g,6,none⟩=some a6/\w.cell? ⟨g,7,none⟩=some a7/\w.cell? ⟨g,8,none⟩=some a8/\w.cell? ⟨g,9,none⟩=some a9/\w.cell? ⟨g,10,none⟩=some a10/\w.cell? ⟨g,11,none⟩=some a11/\w.cell? ⟨g,12,none⟩=some a12/\w.cell? ⟨g,13,none⟩=some a13:=by have h0:=h.cell 0;have h1:=h.cell 1;have h2:=h.cell 2;have h3:=h.cell 3;have h4:=h.cell 4;have h5:=h.cell 5;have h6:=h.cell 6;have h7:=h.cell 7;have h8:=h.cell 8;have h9:=h.cell 9;have h10:=h.cell 10;have h11:=h.cell 11;have h12:=h.cell 12;have h13:=h.cell 13;simp at h0 h1 h2 h3 h4 h5 h6 h7 h8 h9 h10 h11 h12 h13;exact⟨h0,h1,h2,h3,h4,h5,h6,h7,h8,h9,h10,h11,h12,h13⟩
def zot(p:zax):Value:= .agg (zf7 p).toArray
def qif(c:za1):Value:= .agg (zhq c).toArray
end Go.Hm
namespace Go.Proofs.Y
open Go.RowKit Go.Hm
def PageFine(p:zax):Prop:=((CellFine p.2.2.2.2.1/\CellFine p.2.2.2.2.2)/\ -9223372036854775808<=p.2.2.1/\p.2.2.1<=9223372036854775807)/\(-9223372036854775808<=p.1/\p.1<=9223372036854775807)/\ -9223372036854775808<=p.2.1/\p.2.1<=9223372036854775807
theorem PageFine.stat{p:zax}(h:PageFine p):zco p.2.2:=⟨h.1.1.1.1,h.1.1.2.1⟩
set_option maxRecDepth 100000 in
theorem zs4{w:World}{c:za1}{p:zax}{most:Int}(hp:zco p.2.2):
 Calls Tryz.prog 117 #[qif c,zot p,.int .i64 most] w (zak (.bool (zex c.2.1 c.2.2 p most)) w):=by
 obtain⟨nm,t,nu⟩:=c;have SR:=fun(W:World)=>zg5 (w:=W) (t:=t) hp
 clear hp;obtain⟨M,hM⟩:∃M,M=zex t nu p most:=⟨_,rfl⟩;dsimp only;rw[<-hM];unfold zex at hM;generalize zbu t p.2.2=R at*;obtain⟨sz,rw,nn,bb,⟨p1,p2,p3,p4,p5⟩,⟨q1,q2,q3,q4,q5⟩⟩:=p;dsimp only at hM SR;have SR:Hid (∀W,Calls Tryz.prog 119 #[.int .i64 t,.agg #[.int .i64 nn,.bool bb,.bool p1,.int .i64 p2,.string (zac p3),.int .i64 p4,.int .i64 p5,.bool q1,.int .i64 q2,.string (zac q3),.int .i64 q4,.int .i64 q5]] W (zak (.bool R) W)):=Hz SR;show Calls Tryz.prog 117 #[.agg #[.string (zac nm),.int .i64 t,.bool nu],.agg #[.int .i64 sz,.int .i64 rw,.int .i64 nn,.bool bb,.bool p1,.int .i64 p2,.string (zac p3),.int .i64 p4,.int .i64 p5,.bool q1,.int .i64 q2,.string (zac q3),.int .i64 q4,.int .i64 q5],.int .i64 most] w (zak (.bool M) w);have B0:=(Blk.new w 70 #[.string (zac nm),.int .i64 t,.bool nu]).alloc (.cells #[.int .i64 sz,.int .i64 rw,.int .i64 nn,.bool bb,.bool p1,.int .i64 p2,.string (zac p3),.int .i64 p4,.int .i64 p5,.bool q1,.int .i64 q2,.string (zac q3),.int .i64 q4,.int .i64 q5] 65);have B1:=Blk.new (w.alloc (.cells #[.string (zac nm),.int .i64 t,.bool nu] 70)) 65 #[.int .i64 sz,.int .i64 rw,.int .i64 nn,.bool bb,.bool p1,.int .i64 p2,.string (zac p3),.int .i64 p4,.int .i64 p5,.bool q1,.int .i64 q2,.string (zac q3),.int .i64 q4,.int .i64 q5];have b0:=zqo w (.cells #[.string (zac nm),.int .i64 t,.bool nu] 70) (.cells #[.int .i64 sz,.int .i64 rw,.int .i64 nn,.bool bb,.bool p1,.int .i64 p2,.string (zac p3),.int .i64 p4,.int .i64 p5,.bool q1,.int .i64 q2,.string (zac q3),.int .i64 q4,.int .i64 q5] 65);simp only[World.size_alloc] at B1;obtain⟨x0,x1,x2,x3,x4,x5,x6,x7,x8,x9,x10,x11,x12,x13⟩:=zce B1;obtain⟨y0,y1,y2⟩:=zad B0;by_cases hbad:rw<1\/most<rw\/sz<1\/268435456<sz
 ·rw[if_pos hbad] at hM
  have HM:=Hz hM;clear hM SR;by_cases h1:rw<1;all_goals try by_cases h2:most<rw
  all_goals try by_cases h3:sz<1
  all_goals try(have h4:268435456<sz:=by omega)
  all_goals
   clear hbad;go_enter Tryz.func117,Tryz.ntmps117
   go_wp2
   go_ret
   exact⟨by rw[HM.out];rfl,b0⟩
 ·rw[if_neg hbad] at hM
  have h1: ¬rw<1:=fun h=>hbad (by omega)
  have h2: ¬most<rw:=fun h=>hbad (by omega)
  have h3: ¬sz<1:=fun h=>hbad (by omega)
  have h4: ¬268435456<sz:=fun h=>hbad (by omega)
  have HM:=Hz hM;clear hM hbad;have hs:New ((w.alloc (.cells #[.string (zac nm),.int .i64 t,.bool nu] 70)).alloc (.cells #[.int .i64 sz,.int .i64 rw,.int .i64 nn,.bool bb,.bool p1,.int .i64 p2,.string (zac p3),.int .i64 p4,.int .i64 p5,.bool q1,.int .i64 q2,.string (zac q3),.int .i64 q4,.int .i64 q5] 65)) (((w.alloc (.cells #[.string (zac nm),.int .i64 t,.bool nu] 70)).alloc (.cells #[.int .i64 sz,.int .i64 rw,.int .i64 nn,.bool bb,.bool p1,.int .i64 p2,.string (zac p3),.int .i64 p4,.int .i64 p5,.bool q1,.int .i64 q2,.string (zac q3),.int .i64 q4,.int .i64 q5] 65)).alloc (.cells #[.int .i64 nn,.bool bb,.bool p1,.int .i64 p2,.string (zac p3),.int .i64 p4,.int .i64 p5,.bool q1,.int .i64 q2,.string (zac q3),.int .i64 q4,.int .i64 q5] 63)):=(Below.refl _ _).alloc (Nat.le_refl _) _;have B2:=Blk.new ((w.alloc (.cells #[.string (zac nm),.int .i64 t,.bool nu] 70)).alloc (.cells #[.int .i64 sz,.int .i64 rw,.int .i64 nn,.bool bb,.bool p1,.int .i64 p2,.string (zac p3),.int .i64 p4,.int .i64 p5,.bool q1,.int .i64 q2,.string (zac q3),.int .i64 q4,.int .i64 q5] 65)) 63 #[.int .i64 nn,.bool bb,.bool p1,.int .i64 p2,.string (zac p3),.int .i64 p4,.int .i64 p5,.bool q1,.int .i64 q2,.string (zac q3),.int .i64 q4,.int .i64 q5];simp only[World.size_alloc] at B2;obtain⟨z0,z1,z2,z3,z4,z5,z6,z7,z8,z9,z10,z11⟩:=za6 B2;have B0:=B0.below hs B0.lt;have B1:=B1.below hs B1.lt;have b2:=New.trans b0 hs;obtain⟨v0,v1,v2⟩:=zad B0;have HB0:=Hz B0;have HB1:=Hz B1;have HB2:=Hz B2;have Hb2:=Hz b2;clear hs b0 B0 B1 B2 b2;go_enter Tryz.func117,Tryz.ntmps117
  go_wp2_with fail
  refine(SR.out _).mono ?_;rintro e w1 ⟨rfl,b1⟩;have B0:=HB0.out.below b1 HB0.out.lt;have B1:=HB1.out.below b1 HB1.out.lt;have B2:=HB2.out.below b1 HB2.out.lt;have b01:=New.trans Hb2.out b1;clear x0 x1 x2 x3 x4 x5 x6 x7 x8 x9 x10 x11 x12 x13 y0 y1 y2 v0 v1 v2 z0 z1 z2 z3 z4 z5 z6 z7 z8 z9 z10 z11 HB0 HB1 HB2 Hb2 b1 SR;obtain⟨x0,x1,x2,x3,x4,x5,x6,x7,x8,x9,x10,x11,x12,x13⟩:=zce B1;obtain⟨z0,z1,z2,z3,z4,z5,z6,z7,z8,z9,z10,z11⟩:=za6 B2;obtain⟨y0,y1,y2⟩:=zad B0;cases R with
  |false=>
   go_wp2
   go_ret
   exact⟨by rw[HM.out];rfl,b01⟩
  |true=>
   generalize k1:decide (nn<=rw)=d1 at*;generalize k2:decide (nn<rw)=d2 at*;generalize k3:decide (nn=0)=d3 at*;have k4:(nn==0)=d3:=by rw[<-k3];rfl
   cases d1<;> cases d2<;> cases d3<;> cases bb<;> cases nu;all_goals
    go_wp2
    go_ret
    exact⟨by rw[HM.out];rfl,b01⟩
end Go.Proofs.Y
namespace Go.Hm
open Go Go.RowKit
abbrev za9:zax:=(0,0,0,false,(false,0,[],0,0),(false,0,[],0,0))
theorem Reads.page14{w:World}{B n i:Nat}{A:Option Addr}{l:List zax}(h:Reads w B 14 A n (recs zf7 l))(hi:i<n):
 ∃ad,A=some ad/\ad.block<B/\w.cell? (ad.add (i*14))=some (.int .i64 (l.getD i za9).1)/\w.cell? ⟨(ad.add (i*14)).block,(ad.add (i*14)).off+1,none⟩=some (.int .i64 (l.getD i za9).2.1)/\w.cell? ⟨(ad.add (i*14)).block,(ad.add (i*14)).off+2,none⟩=some (.int .i64 (l.getD i za9).2.2.1)/\w.cell? ⟨(ad.add (i*14)).block,(ad.add (i*14)).off+3,none⟩=some (.bool (l.getD i za9).2.2.2.1)/\w.cell? ⟨(ad.add (i*14)).block,(ad.add (i*14)).off+4,none⟩=some (.bool (l.getD i za9).2.2.2.2.1.1)/\w.cell? ⟨(ad.add (i*14)).block,(ad.add (i*14)).off+5,none⟩=some (.int .i64 (l.getD i za9).2.2.2.2.1.2.1)/\w.cell? ⟨(ad.add (i*14)).block,(ad.add (i*14)).off+6,none⟩=some (.string (zac (l.getD i za9).2.2.2.2.1.2.2.1))/\w.cell? ⟨(ad.add (i*14)).block,(ad.add (i*14)).off+7,none⟩=some (.int .i64 (l.getD i za9).2.2.2.2.1.2.2.2.1)/\w.cell? ⟨(ad.add (i*14)).block,(ad.add (i*14)).off+8,none⟩=some (.int .i64 (l.getD i za9).2.2.2.2.1.2.2.2.2)/\w.cell? ⟨(ad.add (i*14)).block,(ad.add (i*14)).off+9,none⟩=some (.bool (l.getD i za9).2.2.2.2.2.1)/\w.cell? ⟨(ad.add (i*14)).block,(ad.add (i*14)).off+10,none⟩=some (.int .i64 (l.getD i za9).2.2.2.2.2.2.1)/\w.cell? ⟨(ad.add (i*14)).block,(ad.add (i*14)).off+11,none⟩=some (.string (zac (l.getD i za9).2.2.2.2.2.2.2.1))/\w.cell? ⟨(ad.add (i*14)).block,(ad.add (i*14)).off+12,none⟩=some (.int .i64 (l.getD i za9).2.2.2.2.2.2.2.2.1)/\w.cell? ⟨(ad.add (i*14)).block,(ad.add (i*14)).off+13,none⟩=some (.int .i64 (l.getD i za9).2.2.2.2.2.2.2.2.2):=by
 obtain⟨ad,h1,h2,_,h3⟩:=h.rec_ (f:=zf7) (sz:=14) (fun _=>rfl) za9 hi (by omega);refine⟨ad,h1,h2,h3 0 _ rfl,?_,?_,?_,?_,?_,?_,?_,?_,?_,?_,?_,?_,?_⟩
 ·have:=h3 1 _ rfl
  rw[<-zbc] at this;exact this
 ·have:=h3 2 _ rfl
  rw[<-zbc] at this;exact this
 ·have:=h3 3 _ rfl
  rw[<-zbc] at this;exact this
 ·have:=h3 4 _ rfl
  rw[<-zbc] at this;exact this
 ·have:=h3 5 _ rfl
  rw[<-zbc] at this;exact this
 ·have:=h3 6 _ rfl
  rw[<-zbc] at this;exact this
 ·have:=h3 7 _ rfl
  rw[<-zbc] at this;exact this
 ·have:=h3 8 _ rfl
  rw[<-zbc] at this;exact this
 ·have:=h3 9 _ rfl
  rw[<-zbc] at this;exact this
 ·have:=h3 10 _ rfl
  rw[<-zbc] at this;exact this
 ·have:=h3 11 _ rfl
  rw[<-zbc] at this;exact this
 ·have:=h3 12 _ rfl
  rw[<-zbc] at this;exact this
 ·have:=h3 13 _ rfl
  rw[<-zbc] at this;exact this
theorem Reads.lenPage{w:World}{B n:Nat}{A:Option Addr}{l:List zax}(h:Reads w B 14 A n (recs zf7 l)):n=l.length:=h.lenR (f:=zf7) (sz:=14) (fun _=>rfl) (by omega)
theorem zu8{α:Type}(l:List α)(k:Nat)(d:α)(h:k<l.length):l.drop k=l.getD k d::l.drop (k+1):=by rw[List.drop_eq_getElem_cons h,List.getD_eq_getElem?_getD,List.getElem?_eq_getElem h];rfl
theorem zal{α:Type}{l:List α}{k:Nat}(d:α)(h:k<l.length):l.getD k d∈l:=by rw[List.getD_eq_getElem?_getD,List.getElem?_eq_getElem h];exact List.getElem_mem h
end Go.Hm
namespace Go.Proofs.Y
open Go.RowKit Go.Hm
def zs5(r:Int × Bool)(w:World)(e:Ending)(w':World):Prop:=e= .returned (.tuple #[.int .i64 r.1,.bool r.2])/\New w w'
set_option maxRecDepth 100000 in
theorem zs6{w:World}{c:za1}{A:Option Addr}{n cap:Nat}{l:List zax}{rows:Int}(h:Reads w w.heap.size 14 A n (recs zf7 l))(hl:∀p∈l,zco p.2.2)(hn:n<=4611686018427387903)(hr:0<=rows/\rows<=65536):
 Calls Tryz.prog 92 #[qif c,.slice A n cap,.int .i64 rows] w (zs5 (zer c.2.1 c.2.2 l rows 0) w):=by
 obtain rfl:=h.lenPage;obtain⟨nm,t,nu⟩:=c;have HR:=Hz h;have HL:=Hz hl;have HC:=Hz (show zer t nu l rows 0=zer t nu (l.drop 0) rows 0 from rfl);clear h hl;show Calls Tryz.prog 92 #[.agg #[.string (zac nm),.int .i64 t,.bool nu],.slice A l.length cap,.int .i64 rows] w (zs5 (zer t nu l rows 0) w);generalize hX:zer t nu l rows 0=X at*;clear hX;have B0:=Blk.new w 70 #[.string (zac nm),.int .i64 t,.bool nu];have b0:New w (w.alloc (.cells #[.string (zac nm),.int .i64 t,.bool nu] 70)):=(Below.refl _ _).alloc (Nat.le_refl _) _;go_enter Tryz.func92,Tryz.ntmps92
 go_wp2_with fail
 go_loopw [2,8,13] (fun r s i wr=>∃(k:Nat) (rr ss:Int),k<=l.length/\i= .int .i64 (k:Int)/\r= .int .i64 rr/\s= .int .i64 ss/\Hid (X=zer t nu (l.drop k) rr ss)/\(0<=rr/\rr+k<=rows)/\(0<=ss/\ss<=k*268435456)
  /\Blk wr w.heap.size 70 #[.string (zac nm),.int .i64 t,.bool nu]/\New w wr) (fun _ _ i _=>l.length-(intOf i).toNat)
 case atStart=>exact⟨0,rows,0,Nat.zero_le _,rfl,rfl,rfl,HC,by omega,by omega,B0,b0⟩
 case round=>
  obtain⟨k,rr,ss,hk,rfl,rfl,rfl,H,hrr,hss,B,b⟩:=hrel;clear HC B0 b0;by_cases hlt:k<l.length
  ·obtain⟨ad,rfl,hb,d0,d1,d2,d3,d4,d5,d6,d7,d8,d9,d10,d11,d12,d13⟩:=(Reads.later HR.out b).page14 hlt
   have hd:=zu8 l k za9 hlt;have RP:=fun(W:World)=>zs4 (w:=W) (c:=(nm,t,nu)) (p:=l.getD k za9) (most:=rr) (HL.out _ (zal za9 hlt))
   have hst:zer t nu (l.drop k) rr ss=if zex t nu (l.getD k za9) rr then zer t nu (l.drop (k+1)) (rr-(l.getD k za9).2.1) (ss+(l.getD k za9).1) else(0,false):=by rw[hd];rfl
   rw[<-H.out] at hst;have hok:=fun(e:zex t nu (l.getD k za9) rr=true)=>(pageB_most.1 e).1
   clear hd H hb;dsimp only at RP;generalize zex t nu (l.getD k za9) rr=R at*;generalize l.getD k za9=p at*;obtain⟨sz,rw,nn,bb,⟨p1,p2,p3,p4,p5⟩,⟨q1,q2,q3,q4,q5⟩⟩:=p;dsimp only at hst hok d0 d1 d2 d3 d4 d5 d6 d7 d8 d9 d10 d11 d12 d13;have RP:Hid (∀W,Calls Tryz.prog 117 #[.agg #[.string (zac nm),.int .i64 t,.bool nu],.agg #[.int .i64 sz,.int .i64 rw,.int .i64 nn,.bool bb,.bool p1,.int .i64 p2,.string (zac p3),.int .i64 p4,.int .i64 p5,.bool q1,.int .i64 q2,.string (zac q3),.int .i64 q4,.int .i64 q5],.int .i64 rr] W (zak (.bool R) W)):=Hz RP;have ha:New wr (wr.alloc (.cells #[.int .i64 sz,.int .i64 rw,.int .i64 nn,.bool bb,.bool p1,.int .i64 p2,.string (zac p3),.int .i64 p4,.int .i64 p5,.bool q1,.int .i64 q2,.string (zac q3),.int .i64 q4,.int .i64 q5] 65)):=(Below.refl _ _).alloc (Nat.le_refl _) _;have BP:=Blk.new wr 65 #[.int .i64 sz,.int .i64 rw,.int .i64 nn,.bool bb,.bool p1,.int .i64 p2,.string (zac p3),.int .i64 p4,.int .i64 p5,.bool q1,.int .i64 q2,.string (zac q3),.int .i64 q4,.int .i64 q5];have B1:=B.below ha B.lt;have b1:=New.trans b ha;obtain⟨y0,y1,y2⟩:=zad B1;obtain⟨e0,e1,e2,e3,e4,e5,e6,e7,e8,e9,e10,e11,e12,e13⟩:=zce BP;have HST:=Hz hst;clear hst B ha;go_wp2_with fail
   refine(RP.out _).mono ?_;rintro e w2 ⟨rfl,b2⟩;have B2:=B1.below b2 B1.lt;have BP2:=BP.below b2 BP.lt;have b02:=New.trans b1 b2;clear RP B1 BP b2 b1 y0 y1 y2 d0 d1 d2 d3 d4 d5 d6 d7 d8 d9 d10 d11 d12 d13 e0 e1 e2 e3 e4 e5 e6 e7 e8 e9 e10 e11 e12 e13;obtain⟨e0,e1,e2,e3,e4,e5,e6,e7,e8,e9,e10,e11,e12,e13⟩:=zce BP2;cases R with
   |false=>
    go_wp2_with fail
    go_ret2
    have hX:=HST.out;rw[if_neg (by simp)] at hX;rw[hX];exact⟨rfl,b02⟩
   |true=>
    have hX:=HST.out;rw[if_pos rfl] at hX;have HX:=Hz hX;have hok:=hok rfl;clear hX HST;go_wp2_with fail
    go_roundw
    case rel=>exact⟨k+1,rr-rw,ss+sz,by omega,by go_num,rfl,rfl,HX,by omega,by omega,B2,b02⟩
    case measure=>simp[intOf];omega
  ·obtain rfl:k=l.length:=by omega
   have hX:=H.out;rw[List.drop_length] at hX;have HX:=Hz hX;clear hX H;go_wp2_with fail
   go_ret2
   rw[HX.out];exact⟨rfl,b⟩
open Go.RowKit Go.Hm
theorem zrq(a b:List Nat)(ha:∀x∈a,x<256)(hb:∀x∈b,x<256)(hla:a.length<=9223372036854775806)(hlb:b.length<=9223372036854775806)(w:World):
 Calls Tryz.prog 234 #[.string (zac a),.string (zac b)] w (DrewPost (.int .i64 (shr a b)) w):=by
 have z1:=za4 a;have z2:=za4 b;go_enter Tryz.func234,Tryz.ntmps234
 go_wp2
 go_loopw [5] (fun n wr=>∃k m:Nat,n= .int .i64 (k:Int)/\k<=a.length/\k<=b.length/\a.take k=b.take k/\wr=w.drewN m) (fun n _=>a.length-(intOf n).toNat)
 case atStart=>exact⟨0,0,rfl,by omega,by omega,rfl,rfl⟩
 case round=>
  obtain⟨k,m,rfl,h1,h2,h3,rfl⟩:=hrel;have S0:=qdw a b k h1 h2 h3;have H3:=Hz h3;clear h3;by_cases ka:k=a.length
  ·have S:=Hz (S0 (.inl ka))
   have d1:decide (k<a.length)=false:=by simp;omega
   clear ka S0;go_wp2
   go_quiet (fail)
   go_wp2
   go_ret
   exact⟨by rw[S.out];rfl,_,zno _ _ _⟩
  ·by_cases kb:k=b.length
   ·have S:=Hz (S0 (.inr (.inl kb)))
    have d1:decide (k<a.length)=true:=by simp;omega
    have d2:decide (k<b.length)=false:=by simp;omega
    clear ka kb S0;go_wp2
    go_quiet (fail)
    go_wp2
    go_ret
    exact⟨by rw[S.out];rfl,_,zno _ _ _⟩
   ·have i1:=z4m qdq a ha k (by omega)
    have i2:=z4m qdq b hb k (by omega);have d1:decide (k<a.length)=true:=by simp;omega
    have d2:decide (k<b.length)=true:=by simp;omega
    have t1:=zae a k 0 (by omega);have t2:=zae b k 0 (by omega);by_cases e:a.getD k 0=b.getD k 0
    ·have H4:=Hz (show a.take (k+1)=b.take (k+1) by rw[t1,t2,H3.out,e])
     rw[e] at i1;clear t1 t2 e S0;generalize b.getD k 0=y at*;go_wp2
     go_quiet (fail)
     go_wp2
     go_roundw
     case rel=>exact⟨k+1,_,by go_num,by omega,by omega,H4.out,rfl⟩
     case measure=>simp[intOf];omega
    ·have S:=Hz (S0 (.inr (.inr e)))
     have d3:(((a.getD k 0:Nat):Int)==((b.getD k 0:Nat):Int))=false:=by rw[beq_eq_false_iff_ne];omega
     clear t1 t2 e S0;generalize a.getD k 0=x at*;generalize b.getD k 0=y at*;go_wp2
     go_quiet (fail)
     go_wp2
     go_ret
     exact⟨by rw[S.out];rfl,_,zno _ _ _⟩
theorem z7v{w:World}{A:Option Addr}{n c:Nat}{L:List (List Nat)}(h:Reads w w.heap.size 1 A n (zmn L))(hL:∀s∈L,s.length<=140737488351232)(hn:n<=9223372036854775806):
 Calls Tryz.prog 233 #[.slice A n c] w (zdk (.bool (z5z L)) w):=by
 obtain rfl:=h.lenT;by_cases h0:65536<L.length
 ·have F:=Hz (qbc h0)
  go_enter Tryz.func233,Tryz.ntmps233
  go_wp2
  go_ret
  exact⟨by rw[F.out];rfl,rfl⟩
 ·have d0:decide (65536<(L.length:Int))=false:=by simp;omega
  go_enter Tryz.func233,Tryz.ntmps233
  go_wp2
  go_loop [3,11] (fun a i=>∃k q:Nat,k<=L.length/\i= .int .i64 (k:Int)/\a= .int .i64 (q:Int)/\q<=16777216/\Hid (q=fsum (L.take k)/\ ∀s∈L.take k,s.length<=65536)) (fun _ i=>L.length-(intOf i).toNat)
  case atStart=>exact⟨0,0,by omega,rfl,rfl,by omega,Hz ⟨rfl,by simp⟩⟩
  case round=>
   obtain⟨k,q,hk,rfl,rfl,hq,H⟩:=hrel;by_cases hlt:k<L.length
   ·obtain⟨ad,rfl,hb,hcell⟩:=h.str hlt
    have hs:=znq hL hlt;have T:=zae L k [] hlt;have F1:=Hz (qbd hlt);have F2:=Hz (qbe (l:=L) (k:=k+1));rw[T] at F2;have HT:=Hz T;clear T;generalize L.getD k []=s at*;have z:=za4 s;generalize hls:s.length=ls at*;have HL:=Hz hls;clear hls;by_cases h1:65536<ls
    ·have F:=Hz (F1.out h1)
     clear F1 F2;go_wp2
     go_ret
     exact⟨by rw[F.out];rfl,rfl⟩
    ·have d1:decide (65536<(ls:Int))=false:=by simp;omega
     by_cases h2:16777216<q+ls
     ·have F:=Hz (F2.out (by rw[zuh,<-H.out.1,HL.out];exact h2))
      clear F1 F2;go_wp2
      go_ret
      exact⟨by rw[F.out];rfl,rfl⟩
     ·have d2:decide (16777216<(q:Int)+(ls:Int))=false:=by simp;omega
      go_wp2
      go_round
      case rel=>exact⟨k+1,q+ls,by omega,by go_num,by go_num,by omega,Hz ⟨by rw[HT.out,zuh,<-H.out.1,HL.out],fun x hx=>by
       rw[HT.out,List.mem_append,List.mem_singleton] at hx;rcases hx with hx|rfl
       ·exact H.out.2 x hx
       ·rw[HL.out];omega⟩⟩
      case measure=>simp[intOf];omega
   ·obtain rfl:k=L.length:=by omega
    have F:=Hz (qbf (l:=L) (by omega) (by have:=H.out.2;rwa[List.take_length] at this) (by have:=H.out.1;rw[List.take_length] at this;omega));go_wp2
    go_ret
    exact⟨by rw[F.out];rfl,rfl⟩
theorem z7w{w:World}{A:Option Addr}{n c:Nat}{L:List (List Nat)}(h:Reads w w.heap.size 1 A n (zmn L))(h8:∀s∈L,∀x∈s,x<256)(hf:z5z L=true):
 Calls Tryz.prog 216 #[.slice A n c] w (OptB (some (zmo [] L)) w):=by
 obtain rfl:=h.lenT;obtain⟨hn,hl,hsum⟩:=(zfj L).1 hf;have F:=Hz (z7v (c:=c) h (fun s hs=>by have:=hl s hs;omega) (by omega));rw[hf] at F;have HSUM:=Hz hsum;have HF:=Hz hf;clear hf hsum;go_enter Tryz.func216,Tryz.ntmps216
 go_wp2_with (go_at_call 233;refine F.out.mono ?_;rintro e w1 ⟨rfl,rfl⟩)
 go_loopw [4,5,14] (fun v a i wr=>∃(k:Nat) (A:Option Addr) (m c:Nat),i= .int .i64 (k:Int)/\k<=L.length/\a= .string (zac (zp5 [] (L.take k)))/\v= .slice A m c/\Own wr w.heap.size 5 (.slice A m c) (za2 .u8 (zmo [] (L.take k)))/\Below w.heap.size w wr) (fun _ _ i _=>L.length-(intOf i).toNat)
 case atStart=>exact⟨0,_,_,_,rfl,by omega,rfl,rfl,Own.nil_,Below.refl _ _⟩
 case round=>
  obtain⟨k,A5,m5,c5,rfl,hk,rfl,rfl,o5,b5⟩:=hrel;have z5:=b5.size;by_cases hlt:k<L.length
  ·obtain⟨ad,rfl,hb,hcell⟩:=(h.below b5).str hlt
   have q5:=o5.len;rw[zaa] at q5;have q6:=zzt [] (L.take k) (fun s hs=>hl s (List.mem_of_mem_take hs));have q7:=zug L k;have q8:=HSUM.out;rw[<-q5,List.length_take] at q6;have qm:m5<=20*65536+16777216:=by omega
   have T:=Hz (zae L k [] hlt);have a8:=zui (Q:=fun s=>∀x∈s,x<256) (a:=[]) (L.take k) (by simp) (fun s hs=>h8 s (List.mem_of_mem_take hs));have al:=zui (Q:=fun s=>s.length<=65536) (a:=[]) (L.take k) (by simp) (fun s hs=>hl s (List.mem_of_mem_take hs));have s8:=znq (Q:=fun s=>∀x∈s,x<256) h8 hlt;have sl:=znq (Q:=fun s=>s.length<=65536) hl hlt;have SN:=Hz (z50 [] (L.getD k []) (L.take k));have LS:=Hz (z19 [] (L.getD k []) (L.take k));clear q5 q6 q7 q8;generalize L.getD k []=s at*;generalize zp5 [] (L.take k)=a at*;have k1:=zjs a s;have k2:=zgk a s;have z1:=za4 s;have SH:=Hz (zrq a s a8 s8 (by omega) (by omega) wr);have FP:=Hz (show fpiece a s=vp (shr a s)++vp (s.length-shr a s)++s.drop (shr a s) from rfl);have i3:=z98 qdq s (shr a s) k2;have d8:∀x∈s.drop (shr a s),x<256:=fun x hx=>s8 x (List.mem_of_mem_drop hx)
   have dl:(s.drop (shr a s)).length<=65536:=by rw[List.length_drop];omega
   have v1:=zap (n:=shr a s) (by omega);have v2:=zap (n:=s.length-shr a s) (by omega);have hq:(s.length:Int)-(shr a s:Int)=((s.length-shr a s:Nat):Int):=by omega
   generalize shr a s=j at*;generalize s.length-j=p at*;generalize s.drop j=r at*;have V1:=Hz v1;have V2:=Hz v2;have DL:=Hz dl;clear v1 v2 dl;go_wp2_with (first
    |(go_at_call 234;refine SH.out.mono ?_;intro e w6 hh;obtain⟨rfl,b6⟩:=hh.new;clear hh
      have b06:=zgv b5 b6 (Nat.le_refl _);have o6:=o5.later b6;have P6:=Hz (zcz none 0 0 [] j w6 Reads.none_ (by omega) (by omega)))
    |(go_at_call 93;(with_reducible refine P6.out.mono ?_);rintro e w7 ⟨A7,n7,c7,rfl,k7,b7⟩
      rw[List.nil_append] at k7;have b07:=zgv b06 b7 (Nat.le_refl _);have o7:=o6.later b7;have q7:n7<=10:=by have:=k7.len;rw[zaa] at this;have:=V1.out;omega
      have r7:=k7.reads)
    |(refine zau elB rfl (.tmp 21) (.tmp 24) rfl (W:=w) (B:=w.heap.size) o7 r7 rfl rfl b07 (Nat.le_refl _) (by have:=b07.size;omega) (by omega) (by simp only[maxLen];omega) ?_
      intro A8 c8 w8 _ _ o8 _ b08 _;have P8:=Hz (zcz none 0 0 [] p w8 Reads.none_ (by omega) (by omega)))
    |(go_at_call 93;(with_reducible refine P8.out.mono ?_);rintro e w9 ⟨A9,n9,c9,rfl,k9,b9⟩
      rw[List.nil_append] at k9;have b09:=zgv b08 b9 (Nat.le_refl _);have o9:=o8.later b9;have q9:n9<=10:=by have:=k9.len;rw[zaa] at this;have:=V2.out;omega
      have r9:=k9.reads)
    |(refine zau elB rfl (.tmp 26) (.tmp 32) rfl (W:=w) (B:=w.heap.size) o9 r9 rfl rfl b09 (Nat.le_refl _) (by have:=b09.size;omega) (by omega) (by simp only[maxLen];omega) ?_
      intro A10 c10 w10 _ _ o10 _ b010 _)
    |(refine ze0 elB qdq rfl (.tmp 34) (.tmp 37) rfl (W:=w) (B:=w.heap.size) o10 d8 rfl rfl b010 (Nat.le_refl _) (by have:=b010.size;omega) (by have:=DL.out;omega) ?_
      intro A11 c11 w11 _ _ o11 _ b011))
   go_roundw
   case rel=>exact⟨k+1,_,_,_,by go_num,by omega,by rw[T.out,LS.out],rfl,by rw[T.out,SN.out,FP.out,<-List.append_assoc,<-List.append_assoc];exact o11,b011⟩
   case measure=>simp[intOf];omega
  ·obtain rfl:k=L.length:=by omega
   rw[List.take_length] at o5;go_wp2
   go_ret2
   exact⟨_,_,_,rfl,o5,b5⟩
theorem qcf{w:World}{A:Option Addr}{n c:Nat}{L:List (List Nat)}(h:Reads w w.heap.size 1 A n (zmn L))(h8:∀s∈L,∀x∈s,x<256)(hL:∀s∈L,s.length<=140737488351232)(hn:n<=9223372036854775806):
 Calls Tryz.prog 216 #[.slice A n c] w (OptB (zxj L) w):=by
 unfold zxj;by_cases hf:z5z L=true
 ·rw[if_pos hf]
  exact z7w h h8 hf
 ·rw[if_neg hf]
  have F:=Hz (z7v (c:=c) h hL hn);rw[Bool.eq_false_iff.2 hf] at F;clear hf;go_enter Tryz.func216,Tryz.ntmps216
  go_wp2_with (go_at_call 233;refine F.out.mono ?_;rintro e w1 ⟨rfl,rfl⟩)
  go_ret2
  exact⟨rfl,Below.refl _ _⟩
end Go.Proofs.Y
