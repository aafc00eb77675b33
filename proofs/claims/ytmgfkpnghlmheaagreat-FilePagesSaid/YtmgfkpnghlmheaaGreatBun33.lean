/- Merged. -/
import Derived.Test.YtmgfkpnghlmheaaGreatBun24
set_option maxHeartbeats 12000000
namespace Go.Proofs.Y
open Go.RowKit Go.Hm
set_option maxRecDepth 100000 in
theorem zr2(a b:zab)(W:World):(binOp .eql 61 (zca a) (zca b)).run Tryz.prog W= .ok (.bool (eqC a b)) W:=by
 obtain⟨a1,a2,a3,a4,a5⟩:=a;obtain⟨b1,b2,b3,b4,b5⟩:=b;show(binOp .eql 61 (.agg #[.bool a1,.int .i64 a2,.string (zac a3),.int .i64 a4,.int .i64 a5]) (.agg #[.bool b1,.int .i64 b2,.string (zac b3),.int .i64 b4,.int .i64 b5])).run Tryz.prog W=_;go_simp
 unfold eqC
 repeat' split
 all_goals simp_all
set_option maxRecDepth 100000 in
theorem zyv{w:World}{t:Int}{s:zc7}(hf:zco s):Calls Tryz.prog 107 #[.int .i64 t,zbz s] w (zak (.bool (zbu t s)) w):=by
 obtain⟨M,hM⟩:∃M,M=zbu t s:=⟨_,rfl⟩;rw[<-hM];unfold zbu at hM;obtain⟨n,b,p,q⟩:=s;obtain⟨⟨hf1,hf2⟩,hf3,hf4⟩:=hf;dsimp only at hM hf1 hf2 hf3 hf4;have E1:∀W,(binOp .eql 61 (zca p) (zca zaz)).run Tryz.prog W= .ok (.bool (decide (p=zaz))) W:=fun W=>by rw[zr2,zz0 hf2 (by simp[zaz])]
 have E2:∀W,(binOp .eql 61 (zca q) (zca zaz)).run Tryz.prog W= .ok (.bool (decide (q=zaz))) W:=fun W=>by rw[zr2,zz0 hf4 (by simp[zaz])]
 have HN:=fun(h1:zaf p t false=true) (h2:zaf q t false=true) (W:World)=>ztr (w:=W) (t:=t) (a:=p) (b:=q) (zft h1) (zft h2)
 have R1:=fun(W:World)=>zpp (w:=W) (b:=p.1) (n:=p.2.1) (s:=p.2.2.1) (x:=p.2.2.2.1) (y:=p.2.2.2.2) (cn:=[]) (t:=t) (nu:=false) hf1
 have R2:=fun(W:World)=>zpp (w:=W) (b:=q.1) (n:=q.2.1) (s:=q.2.2.1) (x:=q.2.2.2.1) (y:=q.2.2.2.2) (cn:=[]) (t:=t) (nu:=false) hf3
 generalize decide (p=zaz)=e1 at*;generalize decide (q=zaz)=e2 at*;generalize zh2 t p q=o at*;obtain⟨p1,p2,p3,p4,p5⟩:=p;obtain⟨q1,q2,q3,q4,q5⟩:=q;dsimp only at R1 R2 hM;generalize zaf (p1,p2,p3,p4,p5) t false=m1 at*;generalize zaf (q1,q2,q3,q4,q5) t false=m2 at*;have E1:∀W,(binOp .eql 61 (.agg #[.bool p1,.int .i64 p2,.string (zac p3),.int .i64 p4,.int .i64 p5]) (.agg #[.bool false,.int .i64 0,.string ⟨#[]⟩,.int .i64 0,.int .i64 0])).run Tryz.prog W= .ok (.bool e1) W:=E1;have E2:∀W,(binOp .eql 61 (.agg #[.bool q1,.int .i64 q2,.string (zac q3),.int .i64 q4,.int .i64 q5]) (.agg #[.bool false,.int .i64 0,.string ⟨#[]⟩,.int .i64 0,.int .i64 0])).run Tryz.prog W= .ok (.bool e2) W:=E2;have R1:Hid (∀W,Calls Tryz.prog 67 #[.agg #[.bool p1,.int .i64 p2,.string (zac p3),.int .i64 p4,.int .i64 p5],.agg #[.string ⟨#[]⟩,.int .i64 t,.bool false]] W (zak (.bool m1) W)):=Hz R1;have R2:Hid (∀W,Calls Tryz.prog 67 #[.agg #[.bool q1,.int .i64 q2,.string (zac q3),.int .i64 q4,.int .i64 q5],.agg #[.string ⟨#[]⟩,.int .i64 t,.bool false]] W (zak (.bool m2) W)):=Hz R2;unfold zca zan at HN;dsimp only at HN;have HN:=Hz HN;show Calls Tryz.prog 107 #[.int .i64 t,.agg #[.int .i64 n,.bool b,.bool p1,.int .i64 p2,.string (zac p3),.int .i64 p4,.int .i64 p5,.bool q1,.int .i64 q2,.string (zac q3),.int .i64 q4,.int .i64 q5]] w (zak (.bool M) w);have B0:=Blk.new w 63 #[.int .i64 n,.bool b,.bool p1,.int .i64 p2,.string (zac p3),.int .i64 p4,.int .i64 p5,.bool q1,.int .i64 q2,.string (zac q3),.int .i64 q4,.int .i64 q5];have hb:New w (w.alloc (.cells #[.int .i64 n,.bool b,.bool p1,.int .i64 p2,.string (zac p3),.int .i64 p4,.int .i64 p5,.bool q1,.int .i64 q2,.string (zac q3),.int .i64 q4,.int .i64 q5] 63)):=(Below.refl _ _).alloc (Nat.le_refl _) _;have HB0:=Hz B0;have Hb:=Hz hb;obtain⟨x0,x1,x2,x3,x4,x5,x6,x7,x8,x9,x10,x11⟩:=za6 B0;clear B0 hb hf1 hf2 hf3 hf4;by_cases hr:t<0\/3<t\/n<0\/65536<n
 ·rw[if_pos hr] at hM
  have HM:=Hz hM;clear hM E1 E2;by_cases h1:t<0;all_goals try by_cases h2:3<t
  all_goals try by_cases h3:n<0
  all_goals try(have h4:65536<n:=by omega)
  all_goals
   clear hr;go_enter Tryz.func107,Tryz.ntmps107
   go_wp2
   go_ret
   exact⟨by rw[HM.out];rfl,Hb.out⟩
 rw[if_neg hr] at hM;have h1: ¬t<0:=by omega
 have h2: ¬3<t:=by omega
 have h3: ¬n<0:=by omega
 have h4: ¬65536<n:=by omega
 clear hr;cases b with
 |false=>
  rw[if_neg (by simp)] at hM;have HM:=Hz hM;clear hM;cases e1;all_goals
   go_enter Tryz.func107,Tryz.ntmps107
   go_wp2
   go_ret
   exact⟨by rw[HM.out];rfl,Hb.out⟩
 |true=>
  rw[if_pos rfl] at hM;have HM:=Hz hM;clear hM E1 E2;go_enter Tryz.func107,Tryz.ntmps107
  go_wp2_with fail
  refine(R1.out _).mono ?_;rintro e w1 ⟨rfl,b1⟩;have B0:=HB0.out.below b1 HB0.out.lt;have hl:=New.trans Hb.out b1;clear x0 x1 x2 x3 x4 x5 x6 x7 x8 x9 x10 x11 HB0 Hb b1;obtain⟨x0,x1,x2,x3,x4,x5,x6,x7,x8,x9,x10,x11⟩:=za6 B0;go_wp2_with fail
  refine(R2.out _).mono ?_;rintro e w2 ⟨rfl,b2⟩;replace B0:=B0.below b2 B0.lt;replace hl:=New.trans hl b2;clear x0 x1 x2 x3 x4 x5 x6 x7 x8 x9 x10 x11 b2;obtain⟨x0,x1,x2,x3,x4,x5,x6,x7,x8,x9,x10,x11⟩:=za6 B0;cases m1 with
  |false=>
   go_wp2_with fail
   go_ret
   exact⟨by rw[HM.out];rfl,hl⟩
  |true=>
   cases m2 with
   |false=>
    go_wp2_with fail
    go_ret
    exact⟨by rw[HM.out];rfl,hl⟩
   |true=>
    have C:=Hz (HN.out (by trivial) (by trivial));go_wp2_with fail
    refine(C.out _).mono ?_;rintro e w3 ⟨rfl,b3⟩;go_wp2
    go_ret
    exact⟨by rw[HM.out];rfl,New.trans hl b3⟩
open Go Go.RowKit Go.Hm
set_option maxRecDepth 100000 in
theorem zqf{w:World}{c:za1}{p:zax}(hp:zco p.2.2):
 Calls Tryz.prog 96 #[qif c,zot p] w (zak (.bool (zex c.2.1 c.2.2 p 65536)) w):=by
 obtain⟨nm,t,nu⟩:=c;have SR:=fun(W:World)=>zyv (w:=W) (t:=t) hp
 clear hp;obtain⟨M,hM⟩:∃M,M=zex t nu p 65536:=⟨_,rfl⟩;dsimp only;rw[<-hM];unfold zex at hM;generalize zbu t p.2.2=R at*;obtain⟨sz,rw,nn,bb,⟨p1,p2,p3,p4,p5⟩,⟨q1,q2,q3,q4,q5⟩⟩:=p;dsimp only at hM SR;have SR:Hid (∀W,Calls Tryz.prog 107 #[.int .i64 t,.agg #[.int .i64 nn,.bool bb,.bool p1,.int .i64 p2,.string (zac p3),.int .i64 p4,.int .i64 p5,.bool q1,.int .i64 q2,.string (zac q3),.int .i64 q4,.int .i64 q5]] W (zak (.bool R) W)):=Hz SR;show Calls Tryz.prog 96 #[.agg #[.string (zac nm),.int .i64 t,.bool nu],.agg #[.int .i64 sz,.int .i64 rw,.int .i64 nn,.bool bb,.bool p1,.int .i64 p2,.string (zac p3),.int .i64 p4,.int .i64 p5,.bool q1,.int .i64 q2,.string (zac q3),.int .i64 q4,.int .i64 q5]] w (zak (.bool M) w);have B0:=(Blk.new w 70 #[.string (zac nm),.int .i64 t,.bool nu]).alloc (.cells #[.int .i64 sz,.int .i64 rw,.int .i64 nn,.bool bb,.bool p1,.int .i64 p2,.string (zac p3),.int .i64 p4,.int .i64 p5,.bool q1,.int .i64 q2,.string (zac q3),.int .i64 q4,.int .i64 q5] 65);have B1:=Blk.new (w.alloc (.cells #[.string (zac nm),.int .i64 t,.bool nu] 70)) 65 #[.int .i64 sz,.int .i64 rw,.int .i64 nn,.bool bb,.bool p1,.int .i64 p2,.string (zac p3),.int .i64 p4,.int .i64 p5,.bool q1,.int .i64 q2,.string (zac q3),.int .i64 q4,.int .i64 q5];have b0:=zqo w (.cells #[.string (zac nm),.int .i64 t,.bool nu] 70) (.cells #[.int .i64 sz,.int .i64 rw,.int .i64 nn,.bool bb,.bool p1,.int .i64 p2,.string (zac p3),.int .i64 p4,.int .i64 p5,.bool q1,.int .i64 q2,.string (zac q3),.int .i64 q4,.int .i64 q5] 65);simp only[World.size_alloc] at B1;obtain⟨x0,x1,x2,x3,x4,x5,x6,x7,x8,x9,x10,x11,x12,x13⟩:=zce B1;obtain⟨y0,y1,y2⟩:=zad B0;have HM:=Hz hM;clear hM;go_enter Tryz.func96,Tryz.ntmps96
 go_wp2_with fail
 refine(SR.out _).mono ?_;rintro e w1 ⟨rfl,b1⟩;have B0:=B0.below b1 B0.lt;have B1:=B1.below b1 B1.lt;have b01:=New.trans b0 b1;clear x0 x1 x2 x3 x4 x5 x6 x7 x8 x9 x10 x11 x12 x13 y0 y1 y2 b0 b1 SR;obtain⟨x0,x1,x2,x3,x4,x5,x6,x7,x8,x9,x10,x11,x12,x13⟩:=zce B1;obtain⟨y0,y1,y2⟩:=zad B0;have hM:=HM.out;cases R with
 |false=>
  have e:M=false:=by rw[hM];split<;> simp
  subst e;clear hM HM;go_wp2
  go_ret
  exact⟨rfl,b01⟩
 |true=>
  by_cases h1:1<=rw;all_goals try by_cases h2:rw<=65536
  all_goals try by_cases h3:1<=sz
  all_goals try by_cases h4:sz<=268435456
  all_goals
   first
    |(have e:M=false:=by rw[hM,if_pos (by omega)]
      subst e;clear hM HM;go_wp2
      go_ret
      exact⟨rfl,b01⟩)
    |(rw[if_neg (by omega)] at hM
      clear HM;have HM:=Hz hM;clear hM;generalize k1:decide (nn<=rw)=d1 at*;generalize k2:decide (nn<rw)=d2 at*;generalize k3:decide (nn=0)=d3 at*;have k4:(nn==0)=d3:=by rw[<-k3];rfl
      cases d1<;> cases d2<;> cases d3<;> cases bb<;> cases nu;all_goals go_wp2
      all_goals
       first
        |(go_ret
          exact⟨by rw[HM.out];rfl,b01⟩)
        |(exfalso;simp only[decide_eq_true_eq,decide_eq_false_iff_not,beq_iff_eq,beq_eq_false_iff_ne,ne_eq] at k1 k2 k3 k4;omega)
        |(exfalso;simp_all;done))
end Go.Proofs.Y
namespace Go.Hm
open Go Go.RowKit
theorem Reads.page14s{w:World}{B n i:Nat}{ad:Addr}{l:List zax}(h:Reads w B 14 (some ad) n (recs zf7 l))(hi:i<n):
 w.cell? (ad.add (i*14))=some (.int .i64 (l.getD i za9).1)/\w.cell? ⟨(ad.add (i*14)).block,(ad.add (i*14)).off+1,none⟩=some (.int .i64 (l.getD i za9).2.1)/\w.cell? ⟨(ad.add (i*14)).block,(ad.add (i*14)).off+2,none⟩=some (.int .i64 (l.getD i za9).2.2.1)/\w.cell? ⟨(ad.add (i*14)).block,(ad.add (i*14)).off+3,none⟩=some (.bool (l.getD i za9).2.2.2.1)/\w.cell? ⟨(ad.add (i*14)).block,(ad.add (i*14)).off+4,none⟩=some (.bool (l.getD i za9).2.2.2.2.1.1)/\w.cell? ⟨(ad.add (i*14)).block,(ad.add (i*14)).off+5,none⟩=some (.int .i64 (l.getD i za9).2.2.2.2.1.2.1)/\w.cell? ⟨(ad.add (i*14)).block,(ad.add (i*14)).off+6,none⟩=some (.string (zac (l.getD i za9).2.2.2.2.1.2.2.1))/\w.cell? ⟨(ad.add (i*14)).block,(ad.add (i*14)).off+7,none⟩=some (.int .i64 (l.getD i za9).2.2.2.2.1.2.2.2.1)/\w.cell? ⟨(ad.add (i*14)).block,(ad.add (i*14)).off+8,none⟩=some (.int .i64 (l.getD i za9).2.2.2.2.1.2.2.2.2)/\w.cell? ⟨(ad.add (i*14)).block,(ad.add (i*14)).off+9,none⟩=some (.bool (l.getD i za9).2.2.2.2.2.1)/\w.cell? ⟨(ad.add (i*14)).block,(ad.add (i*14)).off+10,none⟩=some (.int .i64 (l.getD i za9).2.2.2.2.2.2.1)/\w.cell? ⟨(ad.add (i*14)).block,(ad.add (i*14)).off+11,none⟩=some (.string (zac (l.getD i za9).2.2.2.2.2.2.2.1))/\w.cell? ⟨(ad.add (i*14)).block,(ad.add (i*14)).off+12,none⟩=some (.int .i64 (l.getD i za9).2.2.2.2.2.2.2.2.1)/\w.cell? ⟨(ad.add (i*14)).block,(ad.add (i*14)).off+13,none⟩=some (.int .i64 (l.getD i za9).2.2.2.2.2.2.2.2.2):=by
 obtain⟨ad',e,_,f⟩:=h.page14 hi;injection e with e;subst e;exact f
def zb9(t:Int)(nu:Bool):List zax->Int->Int->Int × Int
 | [],rows,size=>(rows,size)
 |p::l,rows,size=>if zex t nu p 65536=true/\rows<=65536/\size<=1073741824 then zb9 t nu l (rows+p.2.1) (size+p.1) else(-1,-1)
theorem zpy{t:Int}{nu:Bool}:∀(l:List zax) (rows size:Int),(∀p∈l,zex t nu p 65536=true)->rows+zjd l<=65536->size+zbv l<=1073741824->zb9 t nu l rows size=(rows+zjd l,size+zbv l)
 | [],rows,size,_,_,_=>by simp[zb9,zjd,zbv]
 |p::l,rows,size,h,h1,h2=>by
  have hp:=h p (by simp);have hb:=(pageB_most.1 hp).1;have hl:=zeo (l:=l) fun q hq=>h q (by simp[hq])
  rw[zey] at h1⊢;rw[zf8] at h2⊢;unfold zb9;rw[if_pos ⟨hp,by omega,by omega⟩,zpy l _ _ (fun q hq=>h q (by simp[hq])) (by omega) (by omega)];congr 1<;> omega
theorem zr3{t:Int}{nu:Bool}:∀(l:List zax) (rows size:Int),zb9 t nu l rows size=(-1,-1)\/((∀p∈l,zex t nu p 65536=true)/\zb9 t nu l rows size=(rows+zjd l,size+zbv l))
 | [],rows,size=> .inr (by simp[zb9,zjd,zbv])
 |p::l,rows,size=>by
  unfold zb9;split
  ·rename_i hp
   rcases zr3 (t:=t) (nu:=nu) l (rows+p.2.1) (size+p.1) with e|⟨e1,e2⟩
   ·exact .inl e
   ·refine .inr ⟨fun q hq=>?_,?_⟩
    ·rcases List.mem_cons.1 hq with rfl|hq
     ·exact hp.1
     ·exact e1 q hq
    ·rw[e2,zey,zf8]
     congr 1<;> omega
  ·exact .inl rfl
theorem zk5{t:Int}{nu:Bool}:∀(l:List zax) (rows size:Int),0<=rows->rows<=131072->0<=size->size<=1342177280-> -1<=(zb9 t nu l rows size).1/\(zb9 t nu l rows size).1<=131072/\ -1<=(zb9 t nu l rows size).2/\(zb9 t nu l rows size).2<=1342177280
 | [],rows,size,_,_,_,_=>by simp only[zb9];omega
 |p::l,rows,size,h1,h2,h3,h4=>by
  unfold zb9;split
  ·rename_i hp
   have h5:=(pageB_most.1 hp.1).1;exact zk5 l _ _ (by omega) (by omega) (by omega) (by omega)
  ·dsimp only;omega
end Go.Hm
namespace Go.Proofs.Y
open Go.RowKit Go.Hm
def zpz(r:Int × Int)(w:World)(e:Ending)(w':World):Prop:=e= .returned (.tuple #[.int .i64 r.1,.int .i64 r.2])/\New w w'
set_option maxRecDepth 100000 in
theorem z32{w:World}{c:za1}{A:Option Addr}{n cap:Nat}{l:List zax}(h:Reads w w.heap.size 14 A n (recs zf7 l))(hl:∀p∈l,zco p.2.2)(hn:n<=4611686018427387903):
 Calls Tryz.prog 60 #[qif c,.slice A n cap] w (zpz (zb9 c.2.1 c.2.2 l 0 0) w):=by
 obtain rfl:=h.lenPage;obtain⟨nm,t,nu⟩:=c;have HR:=Hz h;have HL:=Hz hl;have HC:=Hz (show zb9 t nu l 0 0=zb9 t nu (l.drop 0) 0 0 from rfl);clear h hl;show Calls Tryz.prog 60 #[.agg #[.string (zac nm),.int .i64 t,.bool nu],.slice A l.length cap] w (zpz (zb9 t nu l 0 0) w);generalize hX:zb9 t nu l 0 0=X at*;clear hX;have B0:=Blk.new w 70 #[.string (zac nm),.int .i64 t,.bool nu];have b0:New w (w.alloc (.cells #[.string (zac nm),.int .i64 t,.bool nu] 70)):=(Below.refl _ _).alloc (Nat.le_refl _) _;go_enter Tryz.func60,Tryz.ntmps60
 go_wp2_with fail
 go_loopw [6,7,8] (fun r s i wr=>∃(k:Nat) (rr ss:Int),k<=l.length/\i= .int .i64 (k:Int)/\r= .int .i64 rr/\s= .int .i64 ss/\Hid (X=zb9 t nu (l.drop k) rr ss)/\(0<=rr/\rr<=131072)/\(0<=ss/\ss<=1342177280)
  /\Blk wr w.heap.size 70 #[.string (zac nm),.int .i64 t,.bool nu]/\New w wr) (fun _ _ i _=>l.length-(intOf i).toNat)
 case atStart=>exact⟨0,0,0,Nat.zero_le _,rfl,rfl,rfl,HC,by omega,by omega,B0,b0⟩
 case round=>
  obtain⟨k,rr,ss,hk,rfl,rfl,rfl,H,hrr,hss,B,b⟩:=hrel;clear HC B0 b0;by_cases hlt:k<l.length
  ·have hd:=zu8 l k za9 hlt
   have RP:=fun(W:World)=>zqf (w:=W) (c:=(nm,t,nu)) (p:=l.getD k za9) (HL.out _ (zal za9 hlt))
   have hst:zb9 t nu (l.drop k) rr ss=if zex t nu (l.getD k za9) 65536=true/\rr<=65536/\ss<=1073741824 then zb9 t nu (l.drop (k+1)) (rr+(l.getD k za9).2.1) (ss+(l.getD k za9).1) else(-1,-1):=by rw[hd];rfl
   rw[<-H.out] at hst;have hok:=fun(e:zex t nu (l.getD k za9) 65536=true)=>(pageB_most.1 e).1
   have FP:=fun(W:World) (hW:New w W)=>(Reads.later HR.out hW).page14 hlt
   obtain⟨ad,rfl,-⟩:=FP _ b;have FP:=fun(W:World) (hW:New w W)=>(Reads.later HR.out hW).page14s hlt
   clear hd H;dsimp only at RP;generalize zex t nu (l.getD k za9) 65536=R at*;generalize l.getD k za9=p at*;obtain⟨sz,rw,nn,bb,⟨p1,p2,p3,p4,p5⟩,⟨q1,q2,q3,q4,q5⟩⟩:=p;dsimp only at hst hok FP;have RP:Hid (∀W,Calls Tryz.prog 96 #[.agg #[.string (zac nm),.int .i64 t,.bool nu],.agg #[.int .i64 sz,.int .i64 rw,.int .i64 nn,.bool bb,.bool p1,.int .i64 p2,.string (zac p3),.int .i64 p4,.int .i64 p5,.bool q1,.int .i64 q2,.string (zac q3),.int .i64 q4,.int .i64 q5]] W (zak (.bool R) W)):=Hz RP;have HST:=Hz hst;have FP:=Hz FP;clear hst;go_wp2_with fail
   refine zam New [(true,0),(true,1),(true,2),(true,3),(true,4),(false,5),(true,6)]
    New.refl New.trans (by kernel_rfl) (by kernel_rfl) (by kernel_rfl) (by kernel_rfl) ?_
   have F:=Hz (fun(W:World) (hW:New wr W)=>B.below hW B.lt);have hU:=New.drew wr;repeat(first
    |(refine zaq rfl rfl (v:=?_) (fun W hQ=>?_) ?_;rotate_left;(obtain⟨d0,d1,d2,d3,d4,d5,d6,d7,d8,d9,d10,d11,d12,d13⟩:=FP.out W (New.trans b (New.trans hU hQ));obtain⟨y0,y1,y2⟩:=zad (F.out W (New.trans hU hQ));go_simp<;> with_reducible rfl);simp only[Act.put,List.setIfInBounds_toArray,List.set_cons_zero,List.set_cons_succ]))
   refine za8 rfl rfl (fun K0 hK0=>?_);go_simp
   (with_reducible refine(RP.out _).mono ?_)
   rintro e u ⟨rfl,bu⟩;refine hK0 _ _ bu ?_;replace hU:=New.trans hU bu;clear hK0 bu;repeat(first
    |(refine zaq rfl rfl (v:=?_) (fun W hQ=>?_) ?_;rotate_left;(go_simp<;> with_reducible rfl);simp only[Act.put,List.setIfInBounds_toArray,List.set_cons_zero,List.set_cons_succ]))
   refine zb2 ?_;have B3:=F.out _ hU;have b3:=New.trans b hU;obtain⟨d0,d1,d2,d3,d4,d5,d6,d7,d8,d9,d10,d11,d12,d13⟩:=FP.out _ b3;clear F hU B RP FP;by_cases hgo:R=true/\rr<=65536/\ss<=1073741824
   ·have hX:=HST.out
    rw[if_pos hgo] at hX;have HX:=Hz hX;obtain⟨rfl,hg1,hg2⟩:=hgo;have hok:=hok rfl;clear hX HST;go_wp2_with fail
    go_roundw
    case rel=>exact⟨k+1,rr+rw,ss+sz,by omega,by go_num,rfl,rfl,HX,by omega,by omega,B3,b3⟩
    case measure=>simp[intOf];omega
   ·have hX:=HST.out
    rw[if_neg hgo] at hX;have HX:=Hz hX;clear hX HST hok;have hex:R=false\/(R=true/\65536<rr)\/(R=true/\rr<=65536/\1073741824<ss):=by
     cases R with
     |false=>exact .inl rfl
     |true=>
      by_cases e:rr<=65536
      ·exact .inr (.inr ⟨rfl,e,by have: ¬ss<=1073741824:=fun h=>hgo ⟨rfl,e,h⟩;omega⟩)
      ·exact .inr (.inl ⟨rfl,by omega⟩)
    clear hgo;rcases hex with rfl|⟨rfl,h1⟩|⟨rfl,h1,h2⟩;all_goals
     go_wp2_with fail
     go_ret2
     rw[HX.out];exact⟨rfl,b3⟩
  ·obtain rfl:k=l.length:=by omega
   have hX:=H.out;rw[List.drop_length] at hX;have HX:=Hz hX;clear hX H;go_wp2_with fail
   go_ret2
   rw[HX.out];exact⟨rfl,b⟩
end Go.Proofs.Y
namespace Go.Hm
open Go Go.RowKit
theorem FootTo.no_rowsR{L:List za1}{G:List za5}{k:Nat}{rows size r:Int}(h:FootTo L G k rows size)(hk:k<G.length)(hb:(G.getD k zaj).1<1\/r-rows<(G.getD k zaj).1\/(G.getD k zaj).2.length≠L.length): ¬zbj ⟨L,r,G⟩:=fun hF=>by
 have hg:=hF.2.1 (G.getD k zaj) (zal zaj hk);have h1:=zbq (fun g:za5=>g.1) G k zaj hk;have h2:=zed (fun g:za5=>g.1) G (k+1) (fun g hg=>by have:=(hF.2.1 g hg).1;omega);have h3:=h.rows_;have h4:=hF.2.2.1;dsimp only at h4;rcases hb with hb|hb|hb
 ·have:=hg.1;omega
 ·omega
 ·exact hb hg.2.1
theorem zyw{t:Int}{nu:Bool}{l:List zax}{gr sz:Int}(hg:1<=gr/\gr<=65536)(hs:0<=sz):
 ((zb9 t nu l 0 0).1=gr->zdn t nu l gr/\(zb9 t nu l 0 0).2=zbv l)/\((zb9 t nu l 0 0).1≠gr-> ¬zdn t nu l gr\/1073741824<sz+zbv l):=by
 constructor
 ·intro e
  rcases zr3 (t:=t) (nu:=nu) l 0 0 with h|⟨h1,h2⟩
  ·rw[h] at e
   dsimp only at e;omega
  ·rw[h2] at e⊢
   dsimp only at e⊢;exact⟨⟨h1,by omega⟩,by omega⟩
 ·intro e
  by_cases hc:zdn t nu l gr
  ·refine .inr ?_
   rcases Int.lt_or_le 1073741824 (sz+zbv l) with h|h
   ·exact h
   ·exfalso
    have hr:=hc.2;rw[zpy l 0 0 hc.1 (by omega) (by omega)] at e;dsimp only at e;omega
  ·exact .inl hc
end Go.Hm
namespace Go.Proofs.Y
open Go.RowKit Go.Hm
set_option maxRecDepth 100000 in
theorem zyx{w:World}{Ac:Option Addr}{cc:Nat}{L:List za1}{r:Int}{Ag:Option Addr}{cg:Nat}{G:List GrD}(h:FootIn w Ac cc L Ag G)(hp:∀g∈G,∀x∈g.2.2.2,∀p∈x.2.2,zco p.2.2)(hr8: -9223372036854775808<=r/\r<=9223372036854775807):
 Calls Tryz.prog 23 #[zhx Ac cc L r Ag cg G] w (zak (.bool (zc9 (za3 L r G))) w):=by
 have CK:=Hz (fun(W:World) (hW:New w W)=>z80 (c:=cc) (Reads.later h.cols hW) h.fine h.few);have HG:=Hz h.groups;have HL:=Hz h.cols;have hfew:=h.few;have hfew2:=h.few2;have HCH:=Hz h.chunks;have HPG:=Hz h.pages;have HP:=Hz hp;have HY:=Hz (fun e:zbj (za3 L r G)=>zi6 e);have HN:=Hz (fun e: ¬zbj (za3 L r G)=>zks e);have hz:FootTo L (G.map grP) 0 0 0:=FootTo.zero _ _;have HZ:=Hz hz;have hbig:zbj (za3 L r G)->0<=r/\r<=65536:=fun e=>by have h1:=e.2.2.1;have h2:=e.2.2.2.1;have h3:=zez (fun g:za5=>g.1) (za3 L r G).groups (fun g hg=>by have:=(e.2.1 g hg).1;omega);rw[h1] at h3;exact⟨h3,h2⟩
 clear h hp hz;generalize zc9 (za3 L r G)=M at*;unfold za3 at HY HN hbig;have HMap:=Hz (fun(k:Nat) (hk:k<G.length)=>zbe grP G (k:=k) grZ zaj hk);have HLen:=Hz (show(G.map grP).length=G.length from List.length_map ..);generalize hGP:G.map grP=GP at*;have hck:=zdi L;clear hGP;show Calls Tryz.prog 23 #[.agg #[.slice Ac L.length cc,.int .i64 r,.slice Ag G.length cg]] w (zak (.bool M) w);have B0:=Blk.new w 38 #[.slice Ac L.length cc,.int .i64 r,.slice Ag G.length cg];have b0:New w (w.alloc (.cells #[.slice Ac L.length cc,.int .i64 r,.slice Ag G.length cg] 38)):=(Below.refl _ _).alloc (Nat.le_refl _) _;obtain⟨x0,x1,x2⟩:=zad B0;go_enter Tryz.func23,Tryz.ntmps23
 go_wp2_with fail
 refine(CK.out _ b0).mono ?_;rintro e w1 ⟨rfl,b1⟩;have B1:=B0.below b1 B0.lt;have b01:=New.trans b0 b1;clear CK B0 b0 b1 x0 x1 x2;obtain⟨x0,x1,x2⟩:=zad B1;by_cases hk0:zb5 L=0
 ·have hcok:=hck.1 hk0
  have HCO:=Hz hcok;rw[hk0];clear hck hk0 hcok;by_cases hr0:r<0
  ·have hM:=Hz (HN.out (fun e=>by have:=hbig e;omega))
   clear HY HN hbig;go_wp2
   go_ret
   exact⟨by rw[hM.out];rfl,b01⟩
  by_cases hr1:65536<r
  ·have hM:=Hz (HN.out (fun e=>by have:=hbig e;omega))
   clear HY HN hbig;go_wp2
   go_ret
   exact⟨by rw[hM.out];rfl,b01⟩
  clear hbig;go_wp2_with fail
  clear x0 x1 x2;go_loopw [4,5,6] (fun a s i wr=>∃(k:Nat) (rows size:Int),k<=G.length/\i= .int .i64 (k:Int)/\a= .int .i64 rows/\s= .int .i64 size/\Hid (FootTo L GP k rows size)/\(0<=rows/\rows<=65536)/\(0<=size/\size<=1073741824)
   /\Blk wr w.heap.size 38 #[.slice Ac L.length cc,.int .i64 r,.slice Ag G.length cg]/\New w wr) (fun _ _ i _=>G.length-(intOf i).toNat)
  case atStart=>exact⟨0,0,0,Nat.zero_le _,rfl,rfl,rfl,HZ,by omega,by omega,B1,b01⟩
  case round=>
   obtain⟨k,rows,size,hk,rfl,rfl,rfl,H,hrw,hsz,B,b⟩:=hrel;clear HZ B1 b01;by_cases hlt:k<G.length
   ·obtain⟨ad,rfl,hb,d0,d1⟩:=(Reads.later HG.out b).gr2 hlt
    have hgm:=zal grZ hlt;have hch:=HCH.out _ hgm;have hpg:=HPG.out _ hgm;have hpp:=HP.out _ hgm;have hmap:=HMap.out k hlt;have hltP:k<GP.length:=by rw[HLen.out];exact hlt
    generalize G.getD k grZ=g at*;obtain⟨gr,Ach,cch,D⟩:=g;dsimp only at d0 d1 hch hpg hpp;unfold grP at hmap;dsimp only at hmap;have hl2:(GP.getD k zaj).2.length=D.length:=by rw[hmap];exact List.length_map ..
    have hg1:(GP.getD k zaj).1=gr:=by rw[hmap]
    have HM2:=Hz (fun(c:Nat) (hc:c<D.length)=>show(GP.getD k zaj).2.getD c []=(D.getD c chZ).2.2 by rw[hmap];exact zbe (fun x:ChD=>x.2.2) D chZ [] hc);have NR:=Hz (fun hb=>HN.out (H.out.no_rowsR (r:=r) hltP hb));have EN:=Hz (fun h1 h2 h3=>H.out.enter h1 h2 h3);rw[hl2,hg1] at NR EN;have HL2:=Hz hl2;have HG1:=Hz hg1;have HCHk:=Hz hch.1;have hchl:=hch.2;have HPGk:=Hz hpg;have HPPk:=Hz hpp;have HLTP:=Hz hltP;clear hmap hl2 hg1 hch hpg hpp hgm hb H hltP;have ha:New wr (wr.alloc (.cells #[.int .i64 gr,.slice Ach D.length cch] 56)):=(Below.refl _ _).alloc (Nat.le_refl _) _;have BG:=Blk.new wr 56 #[.int .i64 gr,.slice Ach D.length cch];have B2:=B.below ha B.lt;have b2:=New.trans b ha;obtain⟨x0,x1,x2⟩:=zad B;obtain⟨y0,y1,y2⟩:=zad B2;obtain⟨z0,z1⟩:=za7 BG;clear B b ha;by_cases h1:gr<1
    ·have hM:=Hz (NR.out (.inl h1))
     clear NR EN;go_wp2
     go_ret
     exact⟨by rw[hM.out];rfl,b2⟩
    by_cases h2:r-rows<gr
    ·have hM:=Hz (NR.out (.inr (.inl h2)))
     clear NR EN;go_wp2
     go_ret
     exact⟨by rw[hM.out];rfl,b2⟩
    by_cases h3:D.length=L.length
    ·have t3:((D.length:Int) != (L.length:Int))=false:=by simp;omega
     have hE:=EN.out (by omega) (by omega) h3;have HE:=Hz hE;have hDL:D.length<=L.length:=by omega
     have H3:=Hz h3;clear NR EN hE h3;go_wp2_with fail
     clear y0 y1 y2 z0 z1 d0 d1 t3 x0 x1 x2;generalize wr.heap.size=gB at*;go_loopw [5,8] (fun s i wr=>∃(c:Nat) (sz:Int),c<=D.length/\i= .int .i64 (c:Int)/\s= .int .i64 sz/\Hid (ChunkTo L GP k c (rows+gr) sz)/\(0<=sz/\sz<=1073741824)
      /\Blk wr w.heap.size 38 #[.slice Ac L.length cc,.int .i64 r,.slice (some ad) G.length cg]/\Blk wr gB 56 #[.int .i64 gr,.slice Ach D.length cch]/\New w wr) (fun _ i _=>D.length-(intOf i).toNat)
     case atStart=>exact⟨0,size,Nat.zero_le _,rfl,rfl,HE,hsz,B2,BG,b2⟩
     case round=>
      obtain⟨c,sz,hc,rfl,rfl,H,hsz2,B,BGq,bq⟩:=hrel;clear HE B2 BG b2;by_cases hlc:c<D.length
      ·have hcL:c<L.length:=by omega
       obtain⟨ac,rfl,hbc,e0⟩:=(Reads.later HCHk.out bq).ch1 hlc;obtain⟨al,rfl,hbl,-⟩:=(Reads.later HL.out bq).colT hcL;have hxm:=zal chZ hlc;have hpx:=HPGk.out _ hxm;have hsx:=HPPk.out _ hxm;have hm2:=HM2.out c hlc;have NC:=Hz (fun hb=>HN.out (H.out.no_chunk (r:=r) HLTP.out (by rw[HL2.out];exact hlc) hb));have NX:=Hz (fun h1 h2=>H.out.next (by rw[HL2.out];exact hlc) h1 h2);rw[hm2,HG1.out] at NC NX;have FC:=Hz (fun(W:World) (hW:New w W)=>show(W.cell? (al.add (c*3))=some (.string (zac (L.getD c zdo).1))/\W.cell? ⟨(al.add (c*3)).block,(al.add (c*3)).off+1,none⟩=some (.int .i64 (L.getD c zdo).2.1)/\W.cell? ⟨(al.add (c*3)).block,(al.add (c*3)).off+2,none⟩=some (.bool (L.getD c zdo).2.2)) from by obtain⟨al',e,_,f⟩:=(Reads.later HL.out hW).colT hcL;injection e with e;subst e;exact f)
       have FE:=Hz (fun(W:World) (hW:New w W)=>show W.cell? (ac.add c)=some (.slice (D.getD c chZ).1 (D.getD c chZ).2.2.length (D.getD c chZ).2.1) from by obtain⟨al',e,_,f⟩:=(Reads.later HCHk.out hW).ch1 hlc;injection e with e;subst e;exact f)
       generalize D.getD c chZ=x at*;obtain⟨Ax,cx,pl⟩:=x;dsimp only at e0 hpx hsx NC NX FE;have CSZ:=fun(W:World) (hW:New w W)=>z32 (c:=L.getD c zdo) (cap:=cx) (Reads.later hpx.1 hW) hsx hpx.2
       have hct:=zyw (t:=(L.getD c zdo).2.1) (nu:=(L.getD c zdo).2.2) (l:=pl) (gr:=gr) (sz:=sz) (by omega) (by omega);have hbd:=zk5 (t:=(L.getD c zdo).2.1) (nu:=(L.getD c zdo).2.2) pl 0 0 (by omega) (by omega) (by omega) (by omega);generalize L.getD c zdo=col at*;obtain⟨nm,t,nu⟩:=col;dsimp only at hct hbd NC NX CSZ;unfold zpz at CSZ;generalize zb9 t nu pl 0 0=S at*;obtain⟨sn,sm⟩:=S;dsimp only at hct hbd CSZ;have CSZ:Hid (∀W,New w W->Calls Tryz.prog 60 #[.agg #[.string (zac nm),.int .i64 t,.bool nu],.slice Ax pl.length cx] W (fun e w'=>e= .returned (.tuple #[.int .i64 sn,.int .i64 sm])/\New W w')):=Hz CSZ;have HCT:=Hz hct;clear hct hpx hsx hm2 hxm hbc hbl H;obtain⟨y0,y1,y2⟩:=zad B;obtain⟨z0,z1⟩:=za7 BGq;dsimp only at FC;go_wp2_with fail
       refine zam New [(true,0),(true,1),(true,2),(true,3),(true,4),(true,5),(true,6),(true,7),(true,8),(true,9),(false,10),(true,11),(true,12),(true,13),(true,14),(true,15)]
        New.refl New.trans (by kernel_rfl) (by kernel_rfl) (by kernel_rfl) (by kernel_rfl) ?_
       have F:=Hz (fun(W:World) (hW:New wr W)=>And.intro (B.below hW B.lt) (BGq.below hW BGq.lt));have hU:=New.drew wr;clear y0 y1 y2 z0 z1 e0;repeat(first
        |(refine zaq rfl rfl (v:=?_) (fun W hQ=>?_) ?_;rotate_left;(obtain⟨f0,f1,f2⟩:=FC.out W (New.trans bq (New.trans hU hQ));have fe:=FE.out W (New.trans bq (New.trans hU hQ));obtain⟨F1,F2⟩:=F.out W (New.trans hU hQ);obtain⟨y0,y1,y2⟩:=zad F1;obtain⟨z0,z1⟩:=za7 F2;clear F1 F2;go_simp<;> with_reducible rfl);simp only[Act.put,List.setIfInBounds_toArray,List.set_cons_zero,List.set_cons_succ]))
       refine za8 rfl rfl (fun K0 hK0=>?_);go_simp
       (with_reducible refine(CSZ.out _ (New.trans bq hU)).mono ?_)
       rintro e u ⟨rfl,bu⟩;refine hK0 _ _ bu ?_;replace hU:=New.trans hU bu;clear hK0 bu;repeat(first
        |(refine zaq rfl rfl (v:=?_) (fun W hQ=>?_) ?_;rotate_left;(go_simp<;> with_reducible rfl);simp only[Act.put,List.setIfInBounds_toArray,List.set_cons_zero,List.set_cons_succ]))
       refine zb2 ?_;obtain⟨B3,BG3⟩:=F.out _ hU;have b3:=New.trans bq hU;clear F FC FE CSZ hU B BGq bq;obtain⟨z0,z1⟩:=za7 BG3;by_cases hn:sn=gr
       ·obtain⟨hco,hsn⟩:=HCT.out.1 hn
        have t1:(sn != gr)=false:=by simpa using hn
        clear HCT;by_cases hbig:1073741824<sz+sm
        ·have hM:=Hz (NC.out (.inr (by rw[<-hsn];exact hbig)))
         clear NC NX hco hsn hn;go_wp2
         go_ret
         exact⟨by rw[hM.out];rfl,b3⟩
        ·have hN:=Hz (NX.out hco (by rw[<-hsn];omega))
         have hsm:0<=sm:=by rw[hsn];exact(zil hco).1
         rw[<-hsn] at hN;clear NC NX hco hsn hn;go_wp2
         go_roundw
         case rel=>exact⟨c+1,sz+sm,by omega,by go_num,rfl,hN,by omega,B3,BG3,b3⟩
         case measure=>simp[intOf];omega
       ·have hM:=Hz (NC.out (HCT.out.2 hn))
        have t1:(sn != gr)=true:=by simpa using hn
        clear NC NX HCT hn;go_wp2
        go_ret
        exact⟨by rw[hM.out];rfl,b3⟩
      ·obtain rfl:c=D.length:=by omega
       have hLv:=Hz (H.out.leave (by rw[HL2.out]) HLTP.out);have hrr:=H.out.most;rw[HG1.out] at hrr;clear H;obtain⟨z0,z1⟩:=za7 BGq;go_wp2
       go_roundw
       case rel=>exact⟨k+1,rows+gr,sz,by omega,by go_num,rfl,rfl,hLv,by omega,hsz2,B,bq⟩
       case measure=>simp[intOf];omega
    ·have t3:((D.length:Int) != (L.length:Int))=true:=by simp;omega
     have hM:=Hz (NR.out (.inr (.inr h3)));clear NR EN h3;go_wp2
     go_ret
     exact⟨by rw[hM.out];rfl,b2⟩
   ·obtain rfl:k=G.length:=by omega
    have hY:=H.out;rw[<-HLen.out] at hY;have hY:=hY.yes (r:=r) HCO.out;obtain⟨x0,x1,x2⟩:=zad B;by_cases he:rows=r
    ·have hM:=Hz (HY.out (hY.2 he))
     have t1:(rows==r)=true:=by simpa using he
     clear hY HY HN H he;go_wp2
     go_ret
     exact⟨by rw[hM.out];rfl,b⟩
    ·have hM:=Hz (HN.out (fun hF=>he (hY.1 hF)))
     have t1:(rows==r)=false:=by simpa using he
     clear hY HY HN H he;go_wp2
     go_ret
     exact⟨by rw[hM.out];rfl,b⟩
 ·have hM:=Hz (HN.out (fun hF=>hk0 (hck.2 hF.1)))
  have t1:(zb5 L != 0)=true:=by simpa using hk0
  clear HY HN hck hk0;generalize zb5 L=ck at*;go_wp2
  go_ret
  exact⟨by rw[hM.out];rfl,b01⟩
end Go.Proofs.Y
