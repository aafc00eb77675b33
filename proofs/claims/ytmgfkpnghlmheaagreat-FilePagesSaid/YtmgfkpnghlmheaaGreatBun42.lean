/- Merged. -/
import Derived.Test.YtmgfkpnghlmheaaGreatBun24
import Derived.Test.YtmgfkpnghlmheaaGreatBun40
set_option maxHeartbeats 8000000
namespace Go.Proofs.Y
open Go.RowKit Go.Hm
set_option maxRecDepth 100000 in
theorem zyc{n n':Int}{b b':Bool}{p q p' q':zab}(W:World):
 (binOp .neq 63 (zbz (n,b,p,q)) (zbz (n',b',p',q'))).run Tryz.prog W= .ok (.bool (!eqS (n,b,p,q) (n',b',p',q'))) W:=by
 obtain⟨p1,p2,p3,p4,p5⟩:=p;obtain⟨q1,q2,q3,q4,q5⟩:=q;obtain⟨r1,r2,r3,r4,r5⟩:=p';obtain⟨s1,s2,s3,s4,s5⟩:=q';show(binOp .neq 63 (.agg #[.int .i64 n,.bool b,.bool p1,.int .i64 p2,.string (zac p3),.int .i64 p4,.int .i64 p5,.bool q1,.int .i64 q2,.string (zac q3),.int .i64 q4,.int .i64 q5]) (.agg #[.int .i64 n',.bool b',.bool r1,.int .i64 r2,.string (zac r3),.int .i64 r4,.int .i64 r5,.bool s1,.int .i64 s2,.string (zac s3),.int .i64 s4,.int .i64 s5])).run Tryz.prog W=_;go_simp
 unfold eqS eqC
 repeat' split
 all_goals simp_all
def SheOk(t:Int)(nu:Bool)(p:zax)(b:List Nat)(l:List zab):Prop:=IsPg t nu b (some l)/\(b.length:Int)=p.1/\(l.length:Int)=p.2.1/\IsStat t l p.2.2
def z0s(t:Int)(nu:Bool)(p:zax)(b:List Nat)(w:World)(en:Ending)(w':World):Prop:=
 New w w'/\((∃l A m c,SheOk t nu p b l/\en= .returned (.tuple #[.slice A m c,.bool true])/\w'.ownsRow w.heap.size 61 5 (.slice A m c) m (recs zan l))\/
  ((∀l,¬SheOk t nu p b l)/\en= .returned (.tuple #[.slice none 0 0,.bool false])))
theorem zlr{c:zab}{t:Int}{nu:Bool}(h:zaf c t nu=true):zaf c t true=true:=by
 cases nu with
 |false=>exact zu2 true h
 |true=>exact h
theorem z3g{t:Int}{l:List zab}{s:zc7}(h:IsStat t l s)(h8:∀c∈l,zai c):(∀z∈s.2.2.1.2.2.1,z<256)/\ ∀z∈s.2.2.2.2.2.1,z<256:=by
 cases hb:s.2.1 with
 |true=>exact⟨(h8 _ (h.least hb).1.1).1.2,(h8 _ (h.most hb).1.1).1.2⟩
 |false=>
  obtain⟨e1,e2⟩:=h.none hb;rw[e1,e2];exact⟨by simp[zaz],by simp[zaz]⟩
set_option maxRecDepth 100000 in
theorem zv1{w:World}{cn:List Nat}{t:Int}{nu:Bool}{p:zax}{A:Option Addr}{c:Nat}{b:List Nat}(hp:(∀z∈p.2.2.2.2.1.2.2.1,z<256)/\ ∀z∈p.2.2.2.2.2.2.2.1,z<256)
 (h:Reads w w.heap.size 1 A b.length (za2 .u8 b))(h8:∀x∈b,x<256)(hb:b.length<=140737488351232):
 Calls Tryz.prog 62 #[.agg #[.string (zac cn),.int .i64 t,.bool nu],zot p,.slice A b.length c] w (z0s t nu p b w):=by
 obtain⟨sz,rw,n,bb,⟨p1,p2,p3,p4,p5⟩,⟨q1,q2,q3,q4,q5⟩⟩:=p;dsimp only at hp;show Calls Tryz.prog 62 #[.agg #[.string (zac cn),.int .i64 t,.bool nu],.agg #[.int .i64 sz,.int .i64 rw,.int .i64 n,.bool bb,.bool p1,.int .i64 p2,.string (zac p3),.int .i64 p4,.int .i64 p5,.bool q1,.int .i64 q2,.string (zac q3),.int .i64 q4,.int .i64 q5],.slice A b.length c] w _;have n1:New w ((w.alloc (.cells #[.string (zac cn),.int .i64 t,.bool nu] 70)).alloc (.cells #[.int .i64 sz,.int .i64 rw,.int .i64 n,.bool bb,.bool p1,.int .i64 p2,.string (zac p3),.int .i64 p4,.int .i64 p5,.bool q1,.int .i64 q2,.string (zac q3),.int .i64 q4,.int .i64 q5] 65)):=((Below.refl _ _).alloc (Nat.le_refl _) _).alloc (by simp) _;have BC:Blk ((w.alloc (.cells #[.string (zac cn),.int .i64 t,.bool nu] 70)).alloc (.cells #[.int .i64 sz,.int .i64 rw,.int .i64 n,.bool bb,.bool p1,.int .i64 p2,.string (zac p3),.int .i64 p4,.int .i64 p5,.bool q1,.int .i64 q2,.string (zac q3),.int .i64 q4,.int .i64 q5] 65)) w.heap.size 70 #[.string (zac cn),.int .i64 t,.bool nu]:=(Blk.new _ _ _).alloc _;have BP:Blk ((w.alloc (.cells #[.string (zac cn),.int .i64 t,.bool nu] 70)).alloc (.cells #[.int .i64 sz,.int .i64 rw,.int .i64 n,.bool bb,.bool p1,.int .i64 p2,.string (zac p3),.int .i64 p4,.int .i64 p5,.bool q1,.int .i64 q2,.string (zac q3),.int .i64 q4,.int .i64 q5] 65)) (w.heap.size+1) 65 #[.int .i64 sz,.int .i64 rw,.int .i64 n,.bool bb,.bool p1,.int .i64 p2,.string (zac p3),.int .i64 p4,.int .i64 p5,.bool q1,.int .i64 q2,.string (zac q3),.int .i64 q4,.int .i64 q5]:=by have:=Blk.new (w.alloc (.cells #[.string (zac cn),.int .i64 t,.bool nu] 70)) 65 #[.int .i64 sz,.int .i64 rw,.int .i64 n,.bool bb,.bool p1,.int .i64 p2,.string (zac p3),.int .i64 p4,.int .i64 p5,.bool q1,.int .i64 q2,.string (zac q3),.int .i64 q4,.int .i64 q5];rwa[World.size_alloc] at this
 have D:=Hz (zv0 (cn:=cn) (t:=t) (nu:=nu) (c:=c) (Reads.later h n1) h8 hb);have N0:=Hz n1;have HP:=Hz hp;obtain⟨c0,c1,c2⟩:=zad BC;have HBC:=Hz BC;have HBP:=Hz BP;clear h h8 n1 BC BP hp;go_enter Tryz.func62,Tryz.ntmps62
 go_wp2_with fail
 refine D.out.mono ?_;rintro e W1 ⟨b1,hpost⟩;have BC1:=HBC.out.below b1 HBC.out.lt;have BP1:=HBP.out.below b1 HBP.out.lt;clear D c0 c1 c2;rcases hpost with⟨hk,rfl⟩|⟨hk,hpg,rfl⟩|⟨hk,l,A1,m1,c1,hpg,rfl,o1⟩
 ·have HNO:Hid (∀l,¬SheOk t nu (sz,rw,n,bb,(p1,p2,p3,p4,p5),(q1,q2,q3,q4,q5)) b l):=Hz (fun l hl=>by
   have:=(qfy (nu:=nu) (b:=b) hk).uniq hl.1;cases this)
  clear hk;go_wp2_with fail
  refine zam New [(true,0),(true,1),(true,2),(true,3),(true,4),(true,5),(true,6),(true,7),(true,8),(true,9),(true,10),(true,11),(true,12),(true,13),(true,14),(true,15),(true,16),(true,17),(true,18),(true,19),(true,21),(true,22),(false,20),(true,23),(true,24)]
   New.refl New.trans (by kernel_rfl) (by kernel_rfl) (by kernel_rfl) (by kernel_rfl) ?_
  have F:=Hz (fun(W:World) (hW:New W1.drew W)=>And.intro (BC1.below (New.trans (New.drew _) hW) BC1.lt) (BP1.below (New.trans (New.drew _) hW) BP1.lt));obtain⟨wa,hwa⟩:∃wa,wa=W1.drew:=⟨_,rfl⟩;have ba:New W1 wa:=by rw[hwa];exact New.drew _
  rw[<-hwa] at F⊢;clear hwa;repeat(first
   |(refine zaq rfl rfl (v:=?_) (fun W hQ=>?_) ?_;rotate_left;(obtain⟨F1,F2⟩:=F.out W hQ;obtain⟨y0,y1,y2⟩:=zad F1;obtain⟨x0,x1,x2,x3,x4,x5,x6,x7,x8,x9,x10,x11,x12,x13⟩:=zce F2;clear F1 F2;go_simp<;> with_reducible rfl);simp only[Act.put,List.setIfInBounds_toArray,List.set_cons_zero,List.set_cons_succ])
   |(refine zh8 rfl rfl ?_;simp only[Act.put,List.setIfInBounds_toArray,List.set_cons_zero,List.set_cons_succ]))
  refine zb2 ?_;clear F;go_wp2_with fail
  go_ret2
  exact⟨New.trans N0.out (New.trans b1 ba),.inr ⟨HNO.out,rfl⟩⟩
 ·have HNO:Hid (∀l,¬SheOk t nu (sz,rw,n,bb,(p1,p2,p3,p4,p5),(q1,q2,q3,q4,q5)) b l):=Hz (fun l hl=>by
   have:=hpg.uniq hl.1;cases this)
  clear hk hpg;go_wp2_with fail
  refine zam New [(true,0),(true,1),(true,2),(true,3),(true,4),(true,5),(true,6),(true,7),(true,8),(true,9),(true,10),(true,11),(true,12),(true,13),(true,14),(true,15),(true,16),(true,17),(true,18),(true,19),(true,21),(true,22),(false,20),(true,23),(true,24)]
   New.refl New.trans (by kernel_rfl) (by kernel_rfl) (by kernel_rfl) (by kernel_rfl) ?_
  have F:=Hz (fun(W:World) (hW:New W1.drew W)=>And.intro (BC1.below (New.trans (New.drew _) hW) BC1.lt) (BP1.below (New.trans (New.drew _) hW) BP1.lt));obtain⟨wa,hwa⟩:∃wa,wa=W1.drew:=⟨_,rfl⟩;have ba:New W1 wa:=by rw[hwa];exact New.drew _
  rw[<-hwa] at F⊢;clear hwa;repeat(first
   |(refine zaq rfl rfl (v:=?_) (fun W hQ=>?_) ?_;rotate_left;(obtain⟨F1,F2⟩:=F.out W hQ;obtain⟨y0,y1,y2⟩:=zad F1;obtain⟨x0,x1,x2,x3,x4,x5,x6,x7,x8,x9,x10,x11,x12,x13⟩:=zce F2;clear F1 F2;go_simp<;> with_reducible rfl);simp only[Act.put,List.setIfInBounds_toArray,List.set_cons_zero,List.set_cons_succ])
   |(refine zh8 rfl rfl ?_;simp only[Act.put,List.setIfInBounds_toArray,List.set_cons_zero,List.set_cons_succ]))
  refine zb2 ?_;clear F;go_wp2_with fail
  go_ret2
  exact⟨New.trans N0.out (New.trans b1 ba),.inr ⟨HNO.out,rfl⟩⟩
 ·obtain rfl:m1=l.length:=(Reads.of_own o1).lenCell
  have HPG:=Hz hpg;have hz1:w.heap.size<=((w.alloc (.cells #[.string (zac cn),.int .i64 t,.bool nu] 70)).alloc (.cells #[.int .i64 sz,.int .i64 rw,.int .i64 n,.bool bb,.bool p1,.int .i64 p2,.string (zac p3),.int .i64 p4,.int .i64 p5,.bool q1,.int .i64 q2,.string (zac q3),.int .i64 q4,.int .i64 q5] 65)).heap.size:=N0.out.size;by_cases e1:(b.length:Int)=sz
  ·by_cases e2:(l.length:Int)=rw
   ·obtain⟨⟨en,hf,hB⟩,hd⟩:=hpg.sound l rfl
    obtain⟨_,hl6,hr,_⟩:=zik hB;have ST:=Hz (fun(W:World) (hW:New W1 W)=>qd8 (t:=t) (c:=c1) (Reads.later (Reads.of_own o1) hW) (fun y hy=>(by have:=zft (hr y hy);exact this)) (by omega));have HD:=Hz hd;have HRR:=Hz (fun c hc=>zlr (hr c hc));have E1:=Hz e1;have E2:=Hz e2;have q8:((b.length:Int) != sz)=false:=by simpa using e1
    have q9:((l.length:Int) != rw)=false:=by simpa using e2
    clear hpg hf hB hd hr hk e1 e2;go_wp2_with fail
    refine zam New [(true,0),(true,1),(true,2),(true,3),(true,4),(true,5),(true,6),(true,7),(true,8),(true,9),(true,10),(true,11),(true,12),(true,13),(true,14),(true,15),(true,16),(true,17),(true,18),(true,19),(true,21),(true,22),(false,20),(true,23),(true,24)]
     New.refl New.trans (by kernel_rfl) (by kernel_rfl) (by kernel_rfl) (by kernel_rfl) ?_
    have F:=Hz (fun(W:World) (hW:New W1.drew W)=>And.intro (BC1.below (New.trans (New.drew _) hW) BC1.lt) (BP1.below (New.trans (New.drew _) hW) BP1.lt));obtain⟨wa,hwa⟩:∃wa,wa=W1.drew:=⟨_,rfl⟩;have ba:New W1 wa:=by rw[hwa];exact New.drew _
    rw[<-hwa] at F⊢;clear hwa;repeat(first
     |(refine zaq rfl rfl (v:=?_) (fun W hQ=>?_) ?_;rotate_left;(obtain⟨F1,F2⟩:=F.out W hQ;obtain⟨y0,y1,y2⟩:=zad F1;obtain⟨x0,x1,x2,x3,x4,x5,x6,x7,x8,x9,x10,x11,x12,x13⟩:=zce F2;clear F1 F2;go_simp<;> with_reducible rfl);simp only[Act.put,List.setIfInBounds_toArray,List.set_cons_zero,List.set_cons_succ])
     |(refine zh8 rfl rfl ?_;simp only[Act.put,List.setIfInBounds_toArray,List.set_cons_zero,List.set_cons_succ]))
    refine za8 rfl rfl (fun K0 hK0=>?_);go_simp
    (with_reducible refine(ST.out _ ba).mono ?_)
    rintro e u ⟨s,rfl,his,bu⟩;have HIS:=Hz his;have hsb:=z3g his HD.out;have HEQ:=Hz (qdz (a:=s) (b:=(n,bb,(p1,p2,p3,p4,p5),(q1,q2,q3,q4,q5))) hsb.1 hsb.2 HP.out.1 HP.out.2);have EQS:Hid (∀W,(binOp .neq 63 (zbz s) (.agg #[.int .i64 n,.bool bb,.bool p1,.int .i64 p2,.string (zac p3),.int .i64 p4,.int .i64 p5,.bool q1,.int .i64 q2,.string (zac q3),.int .i64 q4,.int .i64 q5])).run Tryz.prog W= .ok (.bool (!eqS s (n,bb,(p1,p2,p3,p4,p5),(q1,q2,q3,q4,q5)))) W):=Hz (fun W=>by obtain⟨m,cc,⟨r1,r2,r3,r4,r5⟩,⟨s1,s2,s3,s4,s5⟩⟩:=s;exact zyc (n:=m) (b:=cc) (p:=(r1,r2,r3,r4,r5)) (q:=(s1,s2,s3,s4,s5)) (n':=n) (b':=bb) (p':=(p1,p2,p3,p4,p5)) (q':=(q1,q2,q3,q4,q5)) W)
    have EGS:Hid (∀W,(eqGuard .neq 63 (Operand.tmp 36) (Operand.tmp 38) (zbz s) (.agg #[.int .i64 n,.bool bb,.bool p1,.int .i64 p2,.string (zac p3),.int .i64 p4,.int .i64 p5,.bool q1,.int .i64 q2,.string (zac q3),.int .i64 q4,.int .i64 q5])).run Tryz.prog W= .ok () W):=Hz (fun W=>by obtain⟨m,cc,⟨r1,r2,r3,r4,r5⟩,⟨s1,s2,s3,s4,s5⟩⟩:=s;clear hsb HEQ EQS HIS his;show(eqGuard .neq 63 (Operand.tmp 36) (Operand.tmp 38) (.agg #[.int .i64 m,.bool cc,.bool r1,.int .i64 r2,.string (zac r3),.int .i64 r4,.int .i64 r5,.bool s1,.int .i64 s2,.string (zac s3),.int .i64 s4,.int .i64 s5]) (.agg #[.int .i64 n,.bool bb,.bool p1,.int .i64 p2,.string (zac p3),.int .i64 p4,.int .i64 p5,.bool q1,.int .i64 q2,.string (zac q3),.int .i64 q4,.int .i64 q5])).run Tryz.prog W=_;go_simp)
    generalize hSA:zbz s=SA at*;have HSA:=Hz hSA;clear hSA;refine hK0 _ _ bu ?_;have bw:=New.trans ba bu;clear hK0 ST his hsb;generalize eqS s (n,bb,(p1,p2,p3,p4,p5),(q1,q2,q3,q4,q5))=Q at*;repeat(first
     |(refine zaq rfl rfl (v:=?_) (fun W hQ=>?_) ?_;rotate_left;(have EQ:=EQS.out W;have EG:=EGS.out W;go_simp<;> with_reducible rfl);simp only[Act.put,List.setIfInBounds_toArray,List.set_cons_zero,List.set_cons_succ])
     |(refine zh8 rfl rfl ?_;simp only[Act.put,List.setIfInBounds_toArray,List.set_cons_zero,List.set_cons_succ]))
    refine zb2 ?_;clear F EQS EGS;cases Q with
    |false=>
     have HNO:Hid (∀l,¬SheOk t nu (sz,rw,n,bb,(p1,p2,p3,p4,p5),(q1,q2,q3,q4,q5)) b l):=Hz (fun l2 hl=>by have:=HPG.out.uniq hl.1;injection this with this;subst this;have:=HEQ.out.2 (HIS.out.uniq HRR.out (fun c hc=>(HD.out c hc).1.2) hl.2.2.2);cases this)
     go_wp2_with fail
     go_ret2
     exact⟨New.trans N0.out (New.trans b1 bw),.inr ⟨HNO.out,rfl⟩⟩
    |true=>
     have hs:=HEQ.out.1 rfl;have HOK:Hid (SheOk t nu (sz,rw,n,bb,(p1,p2,p3,p4,p5),(q1,q2,q3,q4,q5)) b l):=Hz ⟨HPG.out,E1.out,E2.out,by have:=HIS.out;rw[hs] at this;exact this⟩;have o2:=zbg (zav o1 bw) hz1;clear hs;go_wp2_with fail
     go_ret2
     exact⟨New.trans N0.out (New.trans b1 bw),.inl ⟨l,A1,l.length,c1,HOK.out,rfl,o2⟩⟩
   ·have HNO:Hid (∀l,¬SheOk t nu (sz,rw,n,bb,(p1,p2,p3,p4,p5),(q1,q2,q3,q4,q5)) b l):=Hz (fun l2 hl=>by
     have:=hpg.uniq hl.1;injection this with this;subst this;exact e2 hl.2.2.1)
    have q8:((b.length:Int) != sz)=false:=by simpa using e1
    have q9:((l.length:Int) != rw)=true:=by simpa using e2
    clear hpg hk e1 e2;go_wp2_with fail
    refine zam New [(true,0),(true,1),(true,2),(true,3),(true,4),(true,5),(true,6),(true,7),(true,8),(true,9),(true,10),(true,11),(true,12),(true,13),(true,14),(true,15),(true,16),(true,17),(true,18),(true,19),(true,21),(true,22),(false,20),(true,23),(true,24)]
     New.refl New.trans (by kernel_rfl) (by kernel_rfl) (by kernel_rfl) (by kernel_rfl) ?_
    have F:=Hz (fun(W:World) (hW:New W1.drew W)=>And.intro (BC1.below (New.trans (New.drew _) hW) BC1.lt) (BP1.below (New.trans (New.drew _) hW) BP1.lt));obtain⟨wa,hwa⟩:∃wa,wa=W1.drew:=⟨_,rfl⟩;have ba:New W1 wa:=by rw[hwa];exact New.drew _
    rw[<-hwa] at F⊢;clear hwa;repeat(first
     |(refine zaq rfl rfl (v:=?_) (fun W hQ=>?_) ?_;rotate_left;(obtain⟨F1,F2⟩:=F.out W hQ;obtain⟨y0,y1,y2⟩:=zad F1;obtain⟨x0,x1,x2,x3,x4,x5,x6,x7,x8,x9,x10,x11,x12,x13⟩:=zce F2;clear F1 F2;go_simp<;> with_reducible rfl);simp only[Act.put,List.setIfInBounds_toArray,List.set_cons_zero,List.set_cons_succ])
     |(refine zh8 rfl rfl ?_;simp only[Act.put,List.setIfInBounds_toArray,List.set_cons_zero,List.set_cons_succ]))
    refine zb2 ?_;clear F;go_wp2_with fail
    go_ret2
    exact⟨New.trans N0.out (New.trans b1 ba),.inr ⟨HNO.out,rfl⟩⟩
  ·have HNO:Hid (∀l,¬SheOk t nu (sz,rw,n,bb,(p1,p2,p3,p4,p5),(q1,q2,q3,q4,q5)) b l):=Hz (fun l2 hl=>e1 hl.2.1)
   have q8:((b.length:Int) != sz)=true:=by simpa using e1
   clear hpg hk e1;go_wp2_with fail
   refine zam New [(true,0),(true,1),(true,2),(true,3),(true,4),(true,5),(true,6),(true,7),(true,8),(true,9),(true,10),(true,11),(true,12),(true,13),(true,14),(true,15),(true,16),(true,17),(true,18),(true,19),(true,21),(true,22),(false,20),(true,23),(true,24)]
    New.refl New.trans (by kernel_rfl) (by kernel_rfl) (by kernel_rfl) (by kernel_rfl) ?_
   have F:=Hz (fun(W:World) (hW:New W1.drew W)=>And.intro (BC1.below (New.trans (New.drew _) hW) BC1.lt) (BP1.below (New.trans (New.drew _) hW) BP1.lt));obtain⟨wa,hwa⟩:∃wa,wa=W1.drew:=⟨_,rfl⟩;have ba:New W1 wa:=by rw[hwa];exact New.drew _
   rw[<-hwa] at F⊢;clear hwa;repeat(first
    |(refine zaq rfl rfl (v:=?_) (fun W hQ=>?_) ?_;rotate_left;(obtain⟨F1,F2⟩:=F.out W hQ;obtain⟨y0,y1,y2⟩:=zad F1;obtain⟨x0,x1,x2,x3,x4,x5,x6,x7,x8,x9,x10,x11,x12,x13⟩:=zce F2;clear F1 F2;go_simp<;> with_reducible rfl);simp only[Act.put,List.setIfInBounds_toArray,List.set_cons_zero,List.set_cons_succ])
    |(refine zh8 rfl rfl ?_;simp only[Act.put,List.setIfInBounds_toArray,List.set_cons_zero,List.set_cons_succ]))
   refine zb2 ?_;clear F;go_wp2_with fail
   go_ret2
   exact⟨New.trans N0.out (New.trans b1 ba),.inr ⟨HNO.out,rfl⟩⟩
open Go.RowKit Go.Hm
theorem SheOk.uniq{t:Int}{nu:Bool}{p:zax}{b:List Nat}{l m:List zab}(h:SheOk t nu p b l)(k:SheOk t nu p b m):l=m:=by have:=h.1.uniq k.1;injection this
open Classical in
noncomputable def qc0(t:Int)(nu:Bool)(p:zax)(b:List Nat):Option (List zab):=if h:∃l,SheOk t nu p b l then some h.choose else none
theorem z8k{t:Int}{nu:Bool}{p:zax}{b:List Nat}{l:List zab}(h:SheOk t nu p b l):qc0 t nu p b=some l:=by unfold qc0;have e:∃l,SheOk t nu p b l:=⟨l,h⟩;rw[dif_pos e,e.choose_spec.uniq h]
theorem qgb{t:Int}{nu:Bool}{p:zax}{b:List Nat}{l:List zab}(h:qc0 t nu p b=some l):SheOk t nu p b l:=by
 unfold qc0 at h;split at h
 ·rename_i e
  injection h with h;rw[<-h];exact e.choose_spec
 ·cases h
theorem z8l{t:Int}{nu:Bool}{p:zax}{b:List Nat}(h:∀l,¬SheOk t nu p b l):qc0 t nu p b=none:=by unfold qc0;rw[dif_neg];rintro⟨l,hl⟩;exact h l hl
abbrev TSt:=Option (List (List zab) × List (List Nat))
noncomputable def pgT(c:za1)(j:Nat)(S:TSt)(p:zax):TSt:=
 match S with
 |none=>none
 |some (_,[])=>none
 |some (D,b::R)=>match qc0 c.2.1 c.2.2 p b with
  |none=>none
  |some x=>some (D.set j (D.getD j []++x),R)
noncomputable def chT(c:za1)(j:Nat)(S:TSt)(l:List zax):TSt:=l.foldl (pgT c j) S
noncomputable def zqe(cols:List za1):Nat->List (List zax)->TSt->TSt
 |_,[],S=>S
 |j,l::C,S=>zqe cols (j+1) C (chT (cols.getD j zdo) j S l)
noncomputable def grT(cols:List za1)(S:TSt)(g:za5):TSt:=zqe cols 0 g.2 S
noncomputable def zwo(F:FootS)(P:List (List Nat))(k:Nat):TSt:=(F.groups.take k).foldl (grT F.cols) (some (List.replicate F.cols.length [],P))
noncomputable def qgc(F:FootS)(P:List (List Nat)):Option (List (List zab)):=
 match zwo F P F.groups.length with
 |some (D,[])=>some D
 |_=>none
noncomputable def qc1(F:FootS)(P:List (List Nat)):Option (List (List zab)):=if zc9 F=true then qgc F P else none
theorem z0x(c:za1)(j:Nat)(p:zax):pgT c j none p=none:=rfl
theorem zk0(c:za1)(j:Nat):∀l,chT c j none l=none
 | []=>rfl
 |p::l=>by
  show chT c j (pgT c j none p) l=none;rw[z0x,zk0 c j l]
theorem zpk(cols:List za1):∀C j,zqe cols j C none=none
 | [],_=>rfl
 |l::C,j=>by
  show zqe cols (j+1) C (chT (cols.getD j zdo) j none l)=none;rw[zk0,zpk cols C]
theorem z0y(cols:List za1):∀G:List za5,G.foldl (grT cols) none=none
 | []=>rfl
 |g::G=>by
  show G.foldl (grT cols) (zqe cols 0 g.2 none)=none;rw[zpk,z0y cols G]
theorem qc7{c:za1}{j:Nat}{S:TSt}{l:List zax}{k:Nat}(hk:k<l.length):chT c j S (l.take (k+1))=pgT c j (chT c j S (l.take k)) (l.getD k za9):=by rw[zae _ k za9 hk];unfold chT;rw[List.foldl_append];rfl
theorem z8m(c:za1)(j:Nat)(S:TSt)(l:List zax)(k:Nat):chT c j S l=chT c j (chT c j S (l.take k)) (l.drop k):=by unfold chT;rw[<-List.foldl_append,List.take_append_drop]
theorem zjy(cols:List za1):∀(A B:List (List zax)) (j:Nat) (S:TSt),zqe cols j (A++B) S=zqe cols (j+A.length) B (zqe cols j A S)
 | [],B,j,S=>rfl
 |l::A,B,j,S=>by
  simp only[List.cons_append,zqe,zjy cols A B,List.length_cons];rw[show j+1+A.length=j+(A.length+1) by omega]
theorem zv4{cols:List za1}{C:List (List zax)}{S:TSt}{k:Nat}(hk:k<C.length):zqe cols 0 (C.take (k+1)) S=chT (cols.getD k zdo) k (zqe cols 0 (C.take k) S) (C.getD k []):=by rw[zae _ k [] hk,zjy,List.length_take,Nat.min_eq_left (Nat.le_of_lt hk),Nat.zero_add];rfl
theorem z3i(cols:List za1)(C:List (List zax))(S:TSt)(k:Nat):zqe cols 0 C S=zqe cols (C.take k).length (C.drop k) (zqe cols 0 (C.take k) S):=by conv=>lhs;rw[<-List.take_append_drop k C,zjy,Nat.zero_add]
theorem zv5{F:FootS}{P:List (List Nat)}{k:Nat}(hk:k<F.groups.length):zwo F P (k+1)=grT F.cols (zwo F P k) (F.groups.getD k zaj):=by unfold zwo;rw[zae _ k zaj hk,List.foldl_append];rfl
theorem z3j(F:FootS)(P:List (List Nat))(k:Nat):zwo F P F.groups.length=(F.groups.drop k).foldl (grT F.cols) (zwo F P k):=by unfold zwo;rw[<-List.foldl_append,List.take_length,List.take_append_drop]
theorem z8n{F:FootS}{P:List (List Nat)}{k:Nat}(h:zwo F P k=none):qgc F P=none:=by unfold qgc;rw[z3j F P k,h,z0y]
theorem zrv{F:FootS}{P:List (List Nat)}{k j:Nat}(hk:k<F.groups.length)(h:zqe F.cols 0 ((F.groups.getD k zaj).2.take j) (zwo F P k)=none):qgc F P=none:=by refine z8n (k:=k+1) ?_;rw[zv5 hk];unfold grT;rw[z3i _ _ _ j,h,zpk]
theorem z3k{F:FootS}{P:List (List Nat)}{k j q:Nat}(hk:k<F.groups.length)(hj:j<(F.groups.getD k zaj).2.length)(h:chT (F.cols.getD j zdo) j (zqe F.cols 0 ((F.groups.getD k zaj).2.take j) (zwo F P k)) ((zaw F.groups k j).take q)=none):qgc F P=none:=by refine zrv (j:=j+1) hk ?_;rw[zv4 hj];show chT _ _ _ (zaw F.groups k j)=none;rw[z8m _ _ _ _ q,h,zk0]
theorem z8o{c:za1}{j:Nat}:∀(l:List zax) {D D':List (List zab)} {P R:List (List Nat)},chT c j (some (D,P)) l=some (D',R)->D'.length=D.length/\P.length=R.length+l.length/\R=P.drop l.length
 | [],D,D',P,R,h=>by
   injection h with h;injection h with h1 h2;subst h1 h2;exact⟨rfl,rfl,rfl⟩
 |p::l,D,D',[],R,h=>by
  have e:chT c j (some (D,[])) (p::l)=chT c j none l:=rfl;rw[e,zk0] at h;cases h
 |p::l,D,D',b::P,R,h=>by
  have e:chT c j (some (D,b::P)) (p::l)=chT c j (pgT c j (some (D,b::P)) p) l:=rfl;rw[e] at h;unfold pgT at h;cases hs:qc0 c.2.1 c.2.2 p b with
  |none=>
   simp only[hs] at h;rw[zk0] at h;cases h
  |some x=>
   simp only[hs] at h;obtain⟨h1,h2,h3⟩:=z8o l h;rw[List.length_set] at h1;exact⟨h1,by simp only[List.length_cons];omega,by simpa using h3⟩
theorem z8p{c:za1}{j:Nat}{l:List zax}{D:List (List zab)}{P:List (List Nat)}(h:P.length<l.length):chT c j (some (D,P)) l=none:=by
 cases he:chT c j (some (D,P)) l with
 |none=>rfl
 |some x=>
  obtain⟨D',R⟩:=x;have:=(z8o l he).2.1;omega
theorem ztl{α:Type}{D:List α}{j:Nat}{d:α}(h:j<D.length):D.set j (D.getD j d)=D:=by rw[List.getD_eq_getElem?_getD,List.getElem?_eq_getElem h];exact List.set_getElem_self h
theorem qd9{c:za1}{j:Nat}{D:List (List zab)}{b:List Nat}{R:List (List Nat)}{p:zax}{x:List zab}(h:SheOk c.2.1 c.2.2 p b x):pgT c j (some (D,b::R)) p=some (D.set j (D.getD j []++x),R):=by unfold pgT;dsimp only;rw[z8k h]
theorem qhs{c:za1}{j:Nat}{D:List (List zab)}{b:List Nat}{R:List (List Nat)}{p:zax}(h:∀x,¬SheOk c.2.1 c.2.2 p b x):pgT c j (some (D,b::R)) p=none:=by unfold pgT;dsimp only;rw[z8l h]
theorem z8q{t:Int}{nu:Bool}{p:zax}{b:List Nat}{l:List zab}(h:SheOk t nu p b l):l.length<=65536:=by obtain⟨⟨e,_,hB⟩,_⟩:=h.1.sound l rfl;exact(zik hB).2.1
def OkT(n N:Nat)(S:TSt):Prop:=∀D R,S=some (D,R)->D.length=n/\ ∀x∈D,x.length+65536*R.length<=65536*N
theorem qgd{n N:Nat}{c:za1}{j:Nat}{p:zax}:∀{S:TSt},OkT n N S->OkT n N (pgT c j S p)
 |none,_=>fun D R h=>by rw[z0x] at h;cases h
 |some (D,[]),_=>fun D' R h=>by cases h
 |some (D,b::P),hS=>fun D' R h=>by
  obtain⟨h1,h2⟩:=hS D (b::P) rfl;cases hs:qc0 c.2.1 c.2.2 p b with
  |none=>
   unfold pgT at h;simp only[hs] at h;cases h
  |some x=>
   have hx:=z8q (qgb hs);unfold pgT at h;simp only[hs] at h;injection h with h;injection h with e1 e2;subst e1 e2;refine⟨by rw[List.length_set];exact h1,fun y hy=>?_⟩;simp only[List.length_cons] at h2;rcases List.mem_or_eq_of_mem_set hy with hy|rfl
   ·have:=h2 y hy
    omega
   ·rw[List.length_append]
    by_cases hj:j<D.length
    ·have:=h2 (D.getD j []) (by rw[List.getD_eq_getElem?_getD,List.getElem?_eq_getElem hj];exact List.getElem_mem hj)
     omega
    ·rw[List.set_eq_of_length_le (by omega)] at hy
     have:=h2 _ hy;rw[List.length_append] at this;omega
theorem zyh{n N:Nat}{c:za1}{j:Nat}:∀(l:List zax) {S:TSt},OkT n N S->OkT n N (chT c j S l)
 | [],_,h=>h
 |p::l,S,h=>zyh l (S:=pgT c j S p) (qgd h)
theorem ztm{n N:Nat}{cols:List za1}:∀(C:List (List zax)) (j:Nat) {S:TSt},OkT n N S->OkT n N (zqe cols j C S)
 | [],_,_,h=>h
 |l::C,j,_,h=>ztm C (j+1) (zyh l h)
theorem z8r{n N:Nat}{cols:List za1}:∀(G:List za5) {S:TSt},OkT n N S->OkT n N (G.foldl (grT cols) S)
 | [],_,h=>h
 |g::G,S,h=>z8r G (S:=grT cols S g) (ztm g.2 0 h)
theorem qc8(F:FootS)(P:List (List Nat))(k:Nat):OkT F.cols.length P.length (zwo F P k):=
 z8r _ (fun D R h=>by injection h with h;injection h with e1 e2;subst e1 e2;refine⟨by rw[List.length_replicate],fun x hx=>?_⟩;rw[List.eq_of_mem_replicate hx];simp)
theorem z0z{F:FootS}{P:List (List Nat)}{D:List (List zab)}{R:List (List Nat)}(h:zwo F P F.groups.length=some (D,R)):qgc F P=if R=[] then some D else none:=by
 unfold qgc;rw[h];cases R with
 |nil=>simp
 |cons x R=>simp
end Go.Proofs.Y
