/- Texts merged and made short: SheC, PagE. -/
import Derived.Test.YtmgfkpnghlmheaaGreatBun1
import Derived.Test.YtmgfkpnghlmheaaGreatBun12
import Derived.Test.YtmgfkpnghlmheaaGreatBun21
import Derived.Test.YtmgfkpnghlmheaaGreatBun23
import Derived.Test.YtmgfkpnghlmheaaGreatBun27
import Derived.Test.YtmgfkpnghlmheaaGreatBun29
import Derived.Test.YtmgfkpnghlmheaaGreatBun36
import Derived.Test.YtmgfkpnghlmheaaGreatBun39
set_option maxHeartbeats 8000000
namespace Go.Proofs.YtmgfkpnghlmheaaGreat
open Go.RowKit Go.Hm
set_option maxRecDepth 100000 in
theorem zx3{n n':Int}{b b':Bool}{p q p' q':zab}(W:World):
 (binOp .neq 63 (zb4 (n,b,p,q)) (zb4 (n',b',p',q'))).run Tryz.prog W= .ok (.bool (!eqS (n,b,p,q) (n',b',p',q'))) W:=by
 obtain⟨p1,p2,p3,p4,p5⟩:=p;obtain⟨q1,q2,q3,q4,q5⟩:=q;obtain⟨r1,r2,r3,r4,r5⟩:=p';obtain⟨s1,s2,s3,s4,s5⟩:=q';show(binOp .neq 63 (.agg #[.int .i64 n,.bool b,.bool p1,.int .i64 p2,.string (zae p3),.int .i64 p4,.int .i64 p5,.bool q1,.int .i64 q2,.string (zae q3),.int .i64 q4,.int .i64 q5]) (.agg #[.int .i64 n',.bool b',.bool r1,.int .i64 r2,.string (zae r3),.int .i64 r4,.int .i64 r5,.bool s1,.int .i64 s2,.string (zae s3),.int .i64 s4,.int .i64 s5])).run Tryz.prog W=_
 go_simp
 unfold eqS eqC
 repeat' split
 all_goals simp_all
def SheOk(t:Int)(nu:Bool)(p:zax)(b:List Nat)(l:List zab):Prop:=IsPg t nu b (some l)∧(b.length:Int)=p.1∧(l.length:Int)=p.2.1∧IsStat t l p.2.2
def z0c(t:Int)(nu:Bool)(p:zax)(b:List Nat)(w:World)(en:Ending)(w':World):Prop:=
 New w w'∧((∃l A m c,SheOk t nu p b l∧en= .returned (.tuple #[.slice A m c,.bool true])∧w'.ownsRow w.heap.size 61 5 (.slice A m c) m (recs zak l))∨
  ((∀l,¬SheOk t nu p b l)∧en= .returned (.tuple #[.slice none 0 0,.bool false])))
theorem zi9{c:zab}{t:Int}{nu:Bool}(h:zac c t nu=true):zac c t true=true:=by
 cases nu with
 |false=>exact zuy true h
 |true=>exact h
theorem z21{t:Int}{l:List zab}{s:zc9}(h:IsStat t l s)(h8:∀c∈l,zai c):(∀z∈s.2.2.1.2.2.1,z<256)∧∀z∈s.2.2.2.2.2.1,z<256:=by
 cases hb:s.2.1 with
 |true=>exact⟨(h8 _ (h.least hb).1.1).1.2,(h8 _ (h.most hb).1.1).1.2⟩
 |false=>
  obtain⟨e1,e2⟩:=h.none hb;rw[e1,e2];exact⟨by simp[zay],by simp[zay]⟩
set_option maxRecDepth 100000 in
theorem zvv{w:World}{cn:List Nat}{t:Int}{nu:Bool}{p:zax}{A:Option Addr}{c:Nat}{b:List Nat}(hp:(∀z∈p.2.2.2.2.1.2.2.1,z<256)∧∀z∈p.2.2.2.2.2.2.2.1,z<256)
 (h:Reads w w.heap.size 1 A b.length (za3 .u8 b))(h8:∀x∈b,x<256)(hb:b.length≤140737488351232):
 Calls Tryz.prog 62 #[.agg #[.string (zae cn),.int .i64 t,.bool nu],zp2 p,.slice A b.length c] w (z0c t nu p b w):=by
 obtain⟨sz,rw,n,bb,⟨p1,p2,p3,p4,p5⟩,⟨q1,q2,q3,q4,q5⟩⟩:=p;dsimp only at hp;show Calls Tryz.prog 62 #[.agg #[.string (zae cn),.int .i64 t,.bool nu],.agg #[.int .i64 sz,.int .i64 rw,.int .i64 n,.bool bb,.bool p1,.int .i64 p2,.string (zae p3),.int .i64 p4,.int .i64 p5,.bool q1,.int .i64 q2,.string (zae q3),.int .i64 q4,.int .i64 q5],.slice A b.length c] w _;have n1:New w ((w.alloc (.cells #[.string (zae cn),.int .i64 t,.bool nu] 70)).alloc (.cells #[.int .i64 sz,.int .i64 rw,.int .i64 n,.bool bb,.bool p1,.int .i64 p2,.string (zae p3),.int .i64 p4,.int .i64 p5,.bool q1,.int .i64 q2,.string (zae q3),.int .i64 q4,.int .i64 q5] 65)):=((Below.refl _ _).alloc (Nat.le_refl _) _).alloc (by simp) _;have BC:Blk ((w.alloc (.cells #[.string (zae cn),.int .i64 t,.bool nu] 70)).alloc (.cells #[.int .i64 sz,.int .i64 rw,.int .i64 n,.bool bb,.bool p1,.int .i64 p2,.string (zae p3),.int .i64 p4,.int .i64 p5,.bool q1,.int .i64 q2,.string (zae q3),.int .i64 q4,.int .i64 q5] 65)) w.heap.size 70 #[.string (zae cn),.int .i64 t,.bool nu]:=(Blk.new _ _ _).alloc _
 have BP:Blk ((w.alloc (.cells #[.string (zae cn),.int .i64 t,.bool nu] 70)).alloc (.cells #[.int .i64 sz,.int .i64 rw,.int .i64 n,.bool bb,.bool p1,.int .i64 p2,.string (zae p3),.int .i64 p4,.int .i64 p5,.bool q1,.int .i64 q2,.string (zae q3),.int .i64 q4,.int .i64 q5] 65)) (w.heap.size+1) 65 #[.int .i64 sz,.int .i64 rw,.int .i64 n,.bool bb,.bool p1,.int .i64 p2,.string (zae p3),.int .i64 p4,.int .i64 p5,.bool q1,.int .i64 q2,.string (zae q3),.int .i64 q4,.int .i64 q5]:=by
  have:=Blk.new (w.alloc (.cells #[.string (zae cn),.int .i64 t,.bool nu] 70)) 65 #[.int .i64 sz,.int .i64 rw,.int .i64 n,.bool bb,.bool p1,.int .i64 p2,.string (zae p3),.int .i64 p4,.int .i64 p5,.bool q1,.int .i64 q2,.string (zae q3),.int .i64 q4,.int .i64 q5];rwa[World.size_alloc] at this
 have D:=Hz (zvu (cn:=cn) (t:=t) (nu:=nu) (c:=c) (Reads.later h n1) h8 hb);have N0:=Hz n1;have HP:=Hz hp;obtain⟨c0,c1,c2⟩:=zaf BC;have HBC:=Hz BC;have HBP:=Hz BP;clear h h8 n1 BC BP hp
 go_enter Tryz.func62,Tryz.ntmps62
 go_wp2_with fail
 refine D.out.mono ?_;rintro e W1 ⟨b1,hpost⟩;have BC1:=HBC.out.below b1 HBC.out.lt;have BP1:=HBP.out.below b1 HBP.out.lt;clear D c0 c1 c2;rcases hpost with⟨hk,rfl⟩|⟨hk,hpg,rfl⟩|⟨hk,l,A1,m1,c1,hpg,rfl,o1⟩
 ·have HNO:Hid (∀l,¬SheOk t nu (sz,rw,n,bb,(p1,p2,p3,p4,p5),(q1,q2,q3,q4,q5)) b l):=Hz (fun l hl=>by
   have:=(qfw (nu:=nu) (b:=b) hk).uniq hl.1
   cases this)
  clear hk
  go_wp2_with fail
  refine zat New [(true,0),(true,1),(true,2),(true,3),(true,4),(true,5),(true,6),(true,7),(true,8),(true,9),(true,10),(true,11),(true,12),(true,13),(true,14),(true,15),(true,16),(true,17),(true,18),(true,19),(true,21),(true,22),(false,20),(true,23),(true,24)]
   New.refl New.trans (by kernel_rfl) (by kernel_rfl) (by kernel_rfl) (by kernel_rfl) ?_
  have F:=Hz (fun(W:World) (hW:New W1.drew W)=>And.intro (BC1.below (New.trans (New.drew _) hW) BC1.lt) (BP1.below (New.trans (New.drew _) hW) BP1.lt));obtain⟨wa,hwa⟩:∃wa,wa=W1.drew:=⟨_,rfl⟩
  have ba:New W1 wa:=by rw[hwa];exact New.drew _
  rw[←hwa] at F⊢;clear hwa
  repeat(first
   |(refine za2 rfl rfl (v:=?_) (fun W hQ=>?_) ?_;rotate_left;(obtain⟨F1,F2⟩:=F.out W hQ;obtain⟨y0,y1,y2⟩:=zaf F1;obtain⟨x0,x1,x2,x3,x4,x5,x6,x7,x8,x9,x10,x11,x12,x13⟩:=zcj F2;clear F1 F2;go_simp<;> with_reducible rfl);simp only[Act.put,List.setIfInBounds_toArray,List.set_cons_zero,List.set_cons_succ])
   |(refine zjo rfl rfl ?_;simp only[Act.put,List.setIfInBounds_toArray,List.set_cons_zero,List.set_cons_succ]))
  refine zc2 ?_;clear F
  go_wp2_with fail
  go_ret2
  exact⟨New.trans N0.out (New.trans b1 ba),.inr ⟨HNO.out,rfl⟩⟩
 ·have HNO:Hid (∀l,¬SheOk t nu (sz,rw,n,bb,(p1,p2,p3,p4,p5),(q1,q2,q3,q4,q5)) b l):=Hz (fun l hl=>by
   have:=hpg.uniq hl.1
   cases this)
  clear hk hpg
  go_wp2_with fail
  refine zat New [(true,0),(true,1),(true,2),(true,3),(true,4),(true,5),(true,6),(true,7),(true,8),(true,9),(true,10),(true,11),(true,12),(true,13),(true,14),(true,15),(true,16),(true,17),(true,18),(true,19),(true,21),(true,22),(false,20),(true,23),(true,24)]
   New.refl New.trans (by kernel_rfl) (by kernel_rfl) (by kernel_rfl) (by kernel_rfl) ?_
  have F:=Hz (fun(W:World) (hW:New W1.drew W)=>And.intro (BC1.below (New.trans (New.drew _) hW) BC1.lt) (BP1.below (New.trans (New.drew _) hW) BP1.lt));obtain⟨wa,hwa⟩:∃wa,wa=W1.drew:=⟨_,rfl⟩
  have ba:New W1 wa:=by rw[hwa];exact New.drew _
  rw[←hwa] at F⊢;clear hwa
  repeat(first
   |(refine za2 rfl rfl (v:=?_) (fun W hQ=>?_) ?_;rotate_left;(obtain⟨F1,F2⟩:=F.out W hQ;obtain⟨y0,y1,y2⟩:=zaf F1;obtain⟨x0,x1,x2,x3,x4,x5,x6,x7,x8,x9,x10,x11,x12,x13⟩:=zcj F2;clear F1 F2;go_simp<;> with_reducible rfl);simp only[Act.put,List.setIfInBounds_toArray,List.set_cons_zero,List.set_cons_succ])
   |(refine zjo rfl rfl ?_;simp only[Act.put,List.setIfInBounds_toArray,List.set_cons_zero,List.set_cons_succ]))
  refine zc2 ?_;clear F
  go_wp2_with fail
  go_ret2
  exact⟨New.trans N0.out (New.trans b1 ba),.inr ⟨HNO.out,rfl⟩⟩
 ·obtain rfl:m1=l.length:=(Reads.of_own o1).lenCell
  have HPG:=Hz hpg;have hz1:w.heap.size≤((w.alloc (.cells #[.string (zae cn),.int .i64 t,.bool nu] 70)).alloc (.cells #[.int .i64 sz,.int .i64 rw,.int .i64 n,.bool bb,.bool p1,.int .i64 p2,.string (zae p3),.int .i64 p4,.int .i64 p5,.bool q1,.int .i64 q2,.string (zae q3),.int .i64 q4,.int .i64 q5] 65)).heap.size:=N0.out.size;by_cases e1:(b.length:Int)=sz
  ·by_cases e2:(l.length:Int)=rw
   ·obtain⟨⟨en,hf,hB⟩,hd⟩:=hpg.sound l rfl
    obtain⟨_,hl6,hr,_⟩:=zin hB;have ST:=Hz (fun(W:World) (hW:New W1 W)=>qd3 (t:=t) (c:=c1) (Reads.later (Reads.of_own o1) hW) (fun y hy=>(by have:=zi5 (hr y hy);exact this)) (by omega));have HD:=Hz hd;have HRR:=Hz (fun c hc=>zi9 (hr c hc));have E1:=Hz e1;have E2:=Hz e2
    have q8:((b.length:Int) != sz)=false:=by simpa using e1
    have q9:((l.length:Int) != rw)=false:=by simpa using e2
    clear hpg hf hB hd hr hk e1 e2
    go_wp2_with fail
    refine zat New [(true,0),(true,1),(true,2),(true,3),(true,4),(true,5),(true,6),(true,7),(true,8),(true,9),(true,10),(true,11),(true,12),(true,13),(true,14),(true,15),(true,16),(true,17),(true,18),(true,19),(true,21),(true,22),(false,20),(true,23),(true,24)]
     New.refl New.trans (by kernel_rfl) (by kernel_rfl) (by kernel_rfl) (by kernel_rfl) ?_
    have F:=Hz (fun(W:World) (hW:New W1.drew W)=>And.intro (BC1.below (New.trans (New.drew _) hW) BC1.lt) (BP1.below (New.trans (New.drew _) hW) BP1.lt));obtain⟨wa,hwa⟩:∃wa,wa=W1.drew:=⟨_,rfl⟩
    have ba:New W1 wa:=by rw[hwa];exact New.drew _
    rw[←hwa] at F⊢;clear hwa
    repeat(first
     |(refine za2 rfl rfl (v:=?_) (fun W hQ=>?_) ?_;rotate_left;(obtain⟨F1,F2⟩:=F.out W hQ;obtain⟨y0,y1,y2⟩:=zaf F1;obtain⟨x0,x1,x2,x3,x4,x5,x6,x7,x8,x9,x10,x11,x12,x13⟩:=zcj F2;clear F1 F2;go_simp<;> with_reducible rfl);simp only[Act.put,List.setIfInBounds_toArray,List.set_cons_zero,List.set_cons_succ])
     |(refine zjo rfl rfl ?_;simp only[Act.put,List.setIfInBounds_toArray,List.set_cons_zero,List.set_cons_succ]))
    refine zba rfl rfl (fun K0 hK0=>?_)
    go_simp
    (with_reducible refine(ST.out _ ba).mono ?_)
    rintro e u ⟨s,rfl,his,bu⟩;have HIS:=Hz his;have hsb:=z21 his HD.out;have HEQ:=Hz (qdu (a:=s) (b:=(n,bb,(p1,p2,p3,p4,p5),(q1,q2,q3,q4,q5))) hsb.1 hsb.2 HP.out.1 HP.out.2)
    have EQS:Hid (∀W,(binOp .neq 63 (zb4 s) (.agg #[.int .i64 n,.bool bb,.bool p1,.int .i64 p2,.string (zae p3),.int .i64 p4,.int .i64 p5,.bool q1,.int .i64 q2,.string (zae q3),.int .i64 q4,.int .i64 q5])).run Tryz.prog W= .ok (.bool (!eqS s (n,bb,(p1,p2,p3,p4,p5),(q1,q2,q3,q4,q5)))) W):=Hz (fun W=>by
     obtain⟨m,cc,⟨r1,r2,r3,r4,r5⟩,⟨s1,s2,s3,s4,s5⟩⟩:=s
     exact zx3 (n:=m) (b:=cc) (p:=(r1,r2,r3,r4,r5)) (q:=(s1,s2,s3,s4,s5)) (n':=n) (b':=bb) (p':=(p1,p2,p3,p4,p5)) (q':=(q1,q2,q3,q4,q5)) W)
    have EGS:Hid (∀W,(eqGuard .neq 63 (Operand.tmp 36) (Operand.tmp 38) (zb4 s) (.agg #[.int .i64 n,.bool bb,.bool p1,.int .i64 p2,.string (zae p3),.int .i64 p4,.int .i64 p5,.bool q1,.int .i64 q2,.string (zae q3),.int .i64 q4,.int .i64 q5])).run Tryz.prog W= .ok () W):=Hz (fun W=>by
     obtain⟨m,cc,⟨r1,r2,r3,r4,r5⟩,⟨s1,s2,s3,s4,s5⟩⟩:=s;clear hsb HEQ EQS HIS his;show(eqGuard .neq 63 (Operand.tmp 36) (Operand.tmp 38) (.agg #[.int .i64 m,.bool cc,.bool r1,.int .i64 r2,.string (zae r3),.int .i64 r4,.int .i64 r5,.bool s1,.int .i64 s2,.string (zae s3),.int .i64 s4,.int .i64 s5]) (.agg #[.int .i64 n,.bool bb,.bool p1,.int .i64 p2,.string (zae p3),.int .i64 p4,.int .i64 p5,.bool q1,.int .i64 q2,.string (zae q3),.int .i64 q4,.int .i64 q5])).run Tryz.prog W=_
     go_simp)
    generalize hSA:zb4 s=SA at*;have HSA:=Hz hSA;clear hSA;refine hK0 _ _ bu ?_;have bw:=New.trans ba bu;clear hK0 ST his hsb;generalize eqS s (n,bb,(p1,p2,p3,p4,p5),(q1,q2,q3,q4,q5))=Q at*
    repeat(first
     |(refine za2 rfl rfl (v:=?_) (fun W hQ=>?_) ?_;rotate_left;(have EQ:=EQS.out W;have EG:=EGS.out W;go_simp<;> with_reducible rfl);simp only[Act.put,List.setIfInBounds_toArray,List.set_cons_zero,List.set_cons_succ])
     |(refine zjo rfl rfl ?_;simp only[Act.put,List.setIfInBounds_toArray,List.set_cons_zero,List.set_cons_succ]))
    refine zc2 ?_;clear F EQS EGS
    cases Q with
    |false=>
     have HNO:Hid (∀l,¬SheOk t nu (sz,rw,n,bb,(p1,p2,p3,p4,p5),(q1,q2,q3,q4,q5)) b l):=Hz (fun l2 hl=>by
      have:=HPG.out.uniq hl.1;injection this with this;subst this;have:=HEQ.out.2 (HIS.out.uniq HRR.out (fun c hc=>(HD.out c hc).1.2) hl.2.2.2)
      cases this)
     go_wp2_with fail
     go_ret2
     exact⟨New.trans N0.out (New.trans b1 bw),.inr ⟨HNO.out,rfl⟩⟩
    |true=>
     have hs:=HEQ.out.1 rfl;have HOK:Hid (SheOk t nu (sz,rw,n,bb,(p1,p2,p3,p4,p5),(q1,q2,q3,q4,q5)) b l):=Hz ⟨HPG.out,E1.out,E2.out,by have:=HIS.out;rw[hs] at this;exact this⟩;have o2:=zbd (zau o1 bw) hz1;clear hs
     go_wp2_with fail
     go_ret2
     exact⟨New.trans N0.out (New.trans b1 bw),.inl ⟨l,A1,l.length,c1,HOK.out,rfl,o2⟩⟩
   ·have HNO:Hid (∀l,¬SheOk t nu (sz,rw,n,bb,(p1,p2,p3,p4,p5),(q1,q2,q3,q4,q5)) b l):=Hz (fun l2 hl=>by
     have:=hpg.uniq hl.1;injection this with this;subst this
     exact e2 hl.2.2.1)
    have q8:((b.length:Int) != sz)=false:=by simpa using e1
    have q9:((l.length:Int) != rw)=true:=by simpa using e2
    clear hpg hk e1 e2
    go_wp2_with fail
    refine zat New [(true,0),(true,1),(true,2),(true,3),(true,4),(true,5),(true,6),(true,7),(true,8),(true,9),(true,10),(true,11),(true,12),(true,13),(true,14),(true,15),(true,16),(true,17),(true,18),(true,19),(true,21),(true,22),(false,20),(true,23),(true,24)]
     New.refl New.trans (by kernel_rfl) (by kernel_rfl) (by kernel_rfl) (by kernel_rfl) ?_
    have F:=Hz (fun(W:World) (hW:New W1.drew W)=>And.intro (BC1.below (New.trans (New.drew _) hW) BC1.lt) (BP1.below (New.trans (New.drew _) hW) BP1.lt));obtain⟨wa,hwa⟩:∃wa,wa=W1.drew:=⟨_,rfl⟩
    have ba:New W1 wa:=by rw[hwa];exact New.drew _
    rw[←hwa] at F⊢;clear hwa
    repeat(first
     |(refine za2 rfl rfl (v:=?_) (fun W hQ=>?_) ?_;rotate_left;(obtain⟨F1,F2⟩:=F.out W hQ;obtain⟨y0,y1,y2⟩:=zaf F1;obtain⟨x0,x1,x2,x3,x4,x5,x6,x7,x8,x9,x10,x11,x12,x13⟩:=zcj F2;clear F1 F2;go_simp<;> with_reducible rfl);simp only[Act.put,List.setIfInBounds_toArray,List.set_cons_zero,List.set_cons_succ])
     |(refine zjo rfl rfl ?_;simp only[Act.put,List.setIfInBounds_toArray,List.set_cons_zero,List.set_cons_succ]))
    refine zc2 ?_;clear F
    go_wp2_with fail
    go_ret2
    exact⟨New.trans N0.out (New.trans b1 ba),.inr ⟨HNO.out,rfl⟩⟩
  ·have HNO:Hid (∀l,¬SheOk t nu (sz,rw,n,bb,(p1,p2,p3,p4,p5),(q1,q2,q3,q4,q5)) b l):=Hz (fun l2 hl=>e1 hl.2.1)
   have q8:((b.length:Int) != sz)=true:=by simpa using e1
   clear hpg hk e1
   go_wp2_with fail
   refine zat New [(true,0),(true,1),(true,2),(true,3),(true,4),(true,5),(true,6),(true,7),(true,8),(true,9),(true,10),(true,11),(true,12),(true,13),(true,14),(true,15),(true,16),(true,17),(true,18),(true,19),(true,21),(true,22),(false,20),(true,23),(true,24)]
    New.refl New.trans (by kernel_rfl) (by kernel_rfl) (by kernel_rfl) (by kernel_rfl) ?_
   have F:=Hz (fun(W:World) (hW:New W1.drew W)=>And.intro (BC1.below (New.trans (New.drew _) hW) BC1.lt) (BP1.below (New.trans (New.drew _) hW) BP1.lt));obtain⟨wa,hwa⟩:∃wa,wa=W1.drew:=⟨_,rfl⟩
   have ba:New W1 wa:=by rw[hwa];exact New.drew _
   rw[←hwa] at F⊢;clear hwa
   repeat(first
    |(refine za2 rfl rfl (v:=?_) (fun W hQ=>?_) ?_;rotate_left;(obtain⟨F1,F2⟩:=F.out W hQ;obtain⟨y0,y1,y2⟩:=zaf F1;obtain⟨x0,x1,x2,x3,x4,x5,x6,x7,x8,x9,x10,x11,x12,x13⟩:=zcj F2;clear F1 F2;go_simp<;> with_reducible rfl);simp only[Act.put,List.setIfInBounds_toArray,List.set_cons_zero,List.set_cons_succ])
    |(refine zjo rfl rfl ?_;simp only[Act.put,List.setIfInBounds_toArray,List.set_cons_zero,List.set_cons_succ]))
   refine zc2 ?_;clear F
   go_wp2_with fail
   go_ret2
   exact⟨New.trans N0.out (New.trans b1 ba),.inr ⟨HNO.out,rfl⟩⟩
open Go.RowKit Go.Hm
theorem qis{t:Int}{nu:Bool}{e:Int}{l:List zab}(h:ckE t nu e l=0):(0≤t∧t≤3)∧l.length≤65536∧(∀c∈l,zac c t nu=true)∧fitsV t (encOf t e l)=true:=by
 unfold ckE at h;split at h
 ·omega
 ·rename_i h1
  split at h
  ·omega
  ·rename_i h2
   split at h
   ·rename_i h3
    rw[List.all_eq_true] at h3
    have ht:0≤t∧t≤3:=by
     by_cases q:0≤t∧t≤3
     ·exact q
     ·exact absurd (.inl q) h1
    refine⟨ht,by omega,h3,?_⟩;unfold encOf;split
    ·exact(zok (zxe ht (by omega) h3)).1
    ·rename_i he
     cases hf:fitsV t e with
     |true=>rfl
     |false=>exact absurd (.inr ⟨he,hf⟩) h1
   ·omega
theorem z3e{l:List zab}(h:∀y∈l,CellFine y):∀y∈zb1 l,CellFine y:=fun y hy=>h y (by unfold zb1 at hy;exact(List.mem_filter.1 hy).1)
set_option maxRecDepth 100000 in
theorem zyc{w:World}{cn:List Nat}{t:Int}{nu:Bool}{e:Int}{A:Option Addr}{n c:Nat}{L:List zab}(h:Reads w w.heap.size 5 A n (recs zak L))(hL:∀y∈L,CellFine y)(hn:n≤4611686018427387903):
 Calls Tryz.prog 100 #[.agg #[.string (zae cn),.int .i64 t,.bool nu],.int .i64 e,.slice A n c] w (zh0 (pgE t nu e L) w):=by
 obtain rfl:=h.lenCell;have n1:New w (w.alloc (.cells #[.string (zae cn),.int .i64 t,.bool nu] 70)):=(Below.refl _ _).alloc (Nat.le_refl _) _;have g1:Blk (w.alloc (.cells #[.string (zae cn),.int .i64 t,.bool nu] 70)) w.heap.size 70 #[.string (zae cn),.int .i64 t,.bool nu]:=Blk.new _ _ _;have HD:Hid (∀y∈L,zai y):=Hz (fun y hy=>zi3 (hL y hy));have CK:=Hz (z2y (cn:=cn) (t:=t) (nu:=nu) (e:=e) (c:=c) (Reads.later h n1) (fun y hy=>(hL y hy).1.1) hn);have HP:=Hz (qhn t nu e L);have HX:=Hz (fun k b=>ztc (t:=t) (nu:=nu) (e:=e) (l:=L) (b:=b) (k:=k) HD.out);have H0:=Hz (@qis t nu e L);have HR:=Hz (Reads.later h n1);have HF:=Hz hL;have HE:Hid (encOf t e L=if e= -1 then bestV t (zb1 L) else e):=Hz rfl;generalize hX:pgE t nu e L=X at*;generalize ckE t nu e L=M at*;generalize encOf t e L=E at*;have N1:=Hz n1;have G1:=Hz g1;obtain⟨c0,c1,c2⟩:=zaf g1;clear h hL g1 n1 hX
 go_enter Tryz.func100,Tryz.ntmps100
 go_wp2_with fail
 refine CK.out.mono ?_;rintro e W1 ⟨rfl,b1⟩;clear CK c0 c1 c2;by_cases hm:M=0
 ·subst hm
  obtain⟨ht,hl6,hr,hf⟩:=H0.out rfl;have hp:=HP.out;rw[if_pos rfl] at hp;replace HP:=Hz hp;clear hp H0;have hfe:=(zfw hf).1;obtain⟨q,rfl⟩:=Int.eq_ofNat_of_zero_le hfe.1;have hvl:=znc L;have SP:=Hz (zp9 (c:=c) (Reads.later HR.out b1) hl6);have VE:Hid (zxy t (q:Int) (zb1 L)=match zdl t (q:Int) (zb1 L) with|some d=>(0,d)|none=>(1,[])):=Hz (by unfold zxy;rw[if_pos hf];generalize zdl t (q:Int) (zb1 L)=Z;cases Z<;> rfl);have VL:Hid (∀d,zdl t (q:Int) (zb1 L)=some d→d.length≤100000000000):=Hz (fun d hd=>zz9 (zio HD.out) hd);have HVF:=Hz (z3e HF.out);have HS:=Hz (zrm hl6);have HVL:=Hz (zaj (n:=L.length) (by omega))
  have hq4:q≤4:=by omega
  clear hr hf hfe ht
  go_wp2_with fail
  refine SP.out.mono ?_;rintro e W2 ⟨A1,m1,k1,A2,m2,k2,rfl,o1,o2,b2⟩;clear SP;have R2:=Hz (Reads.of_own o2);have b12:=New.trans b1 b2;obtain⟨c0,c1,c2⟩:=zaf (G1.out.below b12 G1.out.lt)
  have hm2:m2≤65536:=by have:=R2.out.lenCell;omega
  by_cases he:e= -1
  ·subst he
   have hE:=HE.out;rw[if_pos rfl] at hE;have B:=Hz (z7r (t:=t) (c:=k2) R2.out HVF.out hm2);rw[←hE] at B;clear hE
   go_wp2_with fail
   refine B.out.mono ?_;rintro e W3 ⟨rfl,b3⟩;clear B;have V:=Hz (zj2 (t:=t) (e:=(q:Int)) (c:=k2) (Reads.later R2.out b3) HVF.out hm2);have b13:=New.trans b12 b3;clear c0 c1 c2;obtain⟨c0,c1,c2⟩:=zaf (G1.out.below b13 G1.out.lt)
   obtain rfl:m1=(zb3 L).length:=by simpa[za3] using o1.len
   have R1:=Hz (BytIn.later (show BytIn W2 (A1,k1,zb3 L) from o1.reads) b3);generalize zdl t (q:Int) (zb1 L)=Y at*;generalize zxy t (q:Int) (zb1 L)=Z at*
   go_wp2_with fail
   refine V.out.mono ?_;rintro e W4 ⟨A3,m3,k3,rfl,o3,b4⟩;clear V;have b14:=New.trans b13 b4;clear c0 c1 c2;obtain⟨c0,c1,c2⟩:=zaf (G1.out.below b14 G1.out.lt)
   cases Y with
   |none=>
    have hz:Z=(1,[]):=VE.out;have hx:X=(1,[]):=HP.out;subst hz hx
    go_wp2_with fail
    go_ret2
    exact⟨none,0,0,rfl,Own.nil_,New.trans N1.out b14⟩
   |some d=>
    have hz:Z=(0,d):=VE.out;have hx:X=(0,q::(vp L.length++((if nu=true then zb3 L else [])++d))):=HP.out;subst hz;have hdl:=VL.out d rfl
    obtain rfl:m3=d.length:=by simpa[za3] using o3.len
    have R3:=Hz (show BytIn W4 (A3,k3,d) from o3.reads);have R1b:=Hz (BytIn.later R1.out b4);obtain⟨c3,hc3⟩:∃c3:Value,c3= .int .u8 (q:Int):=⟨_,rfl⟩
    have iw:IntKind.u8.wrap (q:Int)=(q:Int):=by rw[IntKind.wrap_u8];omega
    have n5:New W4 (W4.alloc (.cells #[.int .u8 (q:Int)] 5)):=(Below.refl _ _).alloc (Nat.le_refl _) _;have R5:Hid (BytIn (W4.alloc (.cells #[.int .u8 (q:Int)] 5)) (some ⟨W4.heap.size,0,none⟩,1,[q])):=Hz (Reads.litV _ _ _ 1 _ rfl rfl);have P:=Hz (zcx none 0 0 [] L.length (W4.alloc (.cells #[.int .u8 (q:Int)] 5)) Reads.none_ (by omega) (by omega))
    have iz:IntKind.u64.wrap (L.length:Int)=(L.length:Int):=by rw[IntKind.wrap_u64];omega
    clear hc3 c3
    cases nu with
    |false=>
     go_wp2_with fail
     refine P.out.mono ?_;rintro e W5 ⟨A5,m5,k5,rfl,o5,b5⟩;clear P;rw[List.nil_append] at o5
     obtain rfl:m5=(vp L.length).length:=by simpa[za3] using o5.len
     have R6:=Hz (show BytIn W5 (A5,k5,vp L.length) from o5.reads);have n6:New W5 (W5.alloc (.cells #[.slice (some ⟨W4.heap.size,0,none⟩) 1 1,.slice A5 (vp L.length).length k5,.slice none 0 0,.slice A3 d.length k3] 31)):=(Below.refl _ _).alloc (Nat.le_refl _) _
     have hfd:zc8 [(some ⟨W4.heap.size,0,none⟩,1,[q]),(A5,k5,vp L.length),(none,0,[]),(A3,k3,d)]=q::(vp L.length++d):=by simp[zc8]
     have C:=Hz (zf1 (w:=W5.alloc (.cells #[.slice (some ⟨W4.heap.size,0,none⟩) 1 1,.slice A5 (vp L.length).length k5,.slice none 0 0,.slice A3 d.length k3] 31)) (c:=4) (D:=[(some ⟨W4.heap.size,0,none⟩,1,[q]),(A5,k5,vp L.length),(none,0,[]),(A3,k3,d)]) (Reads.litV _ _ _ 4 _ rfl rfl) (by
      intro x hx;rcases List.mem_cons.1 hx with rfl|hx
      ·exact BytIn.later R5.out (New.trans b5 n6)
      rcases List.mem_cons.1 hx with rfl|hx
      ·exact BytIn.later R6.out n6
      rcases List.mem_cons.1 hx with rfl|hx
      ·exact Reads.none_
      obtain rfl:=List.mem_singleton.1 hx
      exact BytIn.later R3.out (New.trans n5 (New.trans b5 n6))) (by omega) (by rw[hfd];have:=HVL.out;simp only[List.length_cons,List.length_append];omega))
     rw[hfd] at C;have HC:Hid (X=(0,q::(vp L.length++d))):=Hz (hx.trans (by simp));clear hx hfd;generalize vp L.length=vL at*
     go_wp2_with fail
     refine C.out.mono ?_;rintro e W6 ⟨A6,m6,k6,rfl,o6,b6⟩;clear C
     go_wp2_with fail
     go_ret2
     rw[HC.out];exact⟨A6,m6,k6,rfl,o6.base_le (by have:=N1.out.size;have:=b14.size;have:=n5.size;have:=b5.size;have:=n6.size;omega),New.trans N1.out (New.trans b14 (New.trans n5 (New.trans b5 (New.trans n6 b6))))⟩
    |true=>
     go_wp2_with fail
     refine P.out.mono ?_;rintro e W5 ⟨A5,m5,k5,rfl,o5,b5⟩;clear P;rw[List.nil_append] at o5
     obtain rfl:m5=(vp L.length).length:=by simpa[za3] using o5.len
     have R6:=Hz (show BytIn W5 (A5,k5,vp L.length) from o5.reads);have n6:New W5 (W5.alloc (.cells #[.slice (some ⟨W4.heap.size,0,none⟩) 1 1,.slice A5 (vp L.length).length k5,.slice A1 (zb3 L).length k1,.slice A3 d.length k3] 31)):=(Below.refl _ _).alloc (Nat.le_refl _) _
     have hfd:zc8 [(some ⟨W4.heap.size,0,none⟩,1,[q]),(A5,k5,vp L.length),(A1,k1,zb3 L),(A3,k3,d)]=q::(vp L.length++(zb3 L++d)):=by simp[zc8]
     have C:=Hz (zf1 (w:=W5.alloc (.cells #[.slice (some ⟨W4.heap.size,0,none⟩) 1 1,.slice A5 (vp L.length).length k5,.slice A1 (zb3 L).length k1,.slice A3 d.length k3] 31)) (c:=4) (D:=[(some ⟨W4.heap.size,0,none⟩,1,[q]),(A5,k5,vp L.length),(A1,k1,zb3 L),(A3,k3,d)]) (Reads.litV _ _ _ 4 _ rfl rfl) (by
      intro x hx;rcases List.mem_cons.1 hx with rfl|hx
      ·exact BytIn.later R5.out (New.trans b5 n6)
      rcases List.mem_cons.1 hx with rfl|hx
      ·exact BytIn.later R6.out n6
      rcases List.mem_cons.1 hx with rfl|hx
      ·exact BytIn.later R1b.out (New.trans n5 (New.trans b5 n6))
      obtain rfl:=List.mem_singleton.1 hx
      exact BytIn.later R3.out (New.trans n5 (New.trans b5 n6))) (by omega) (by rw[hfd];have:=HVL.out;have:=HS.out;simp only[List.length_cons,List.length_append];omega))
     rw[hfd] at C;have HC:Hid (X=(0,q::(vp L.length++(zb3 L++d)))):=Hz (hx.trans (by simp));clear hx hfd;generalize vp L.length=vL at*;generalize zb3 L=sL at*
     go_wp2_with fail
     refine C.out.mono ?_;rintro e W6 ⟨A6,m6,k6,rfl,o6,b6⟩;clear C
     go_wp2_with fail
     go_ret2
     rw[HC.out];exact⟨A6,m6,k6,rfl,o6.base_le (by have:=N1.out.size;have:=b14.size;have:=n5.size;have:=b5.size;have:=n6.size;omega),New.trans N1.out (New.trans b14 (New.trans n5 (New.trans b5 (New.trans n6 b6))))⟩
  ·have hE:=HE.out
   rw[if_neg he] at hE;subst hE;have i1:((q:Int)== -1)=false:=beq_eq_false_iff_ne.2 (by omega);have b3:New W2 W2:=New.refl _;clear he;have V:=Hz (zj2 (t:=t) (e:=(q:Int)) (c:=k2) (Reads.later R2.out b3) HVF.out hm2);have b13:=New.trans b12 b3;clear c0 c1 c2;obtain⟨c0,c1,c2⟩:=zaf (G1.out.below b13 G1.out.lt)
   obtain rfl:m1=(zb3 L).length:=by simpa[za3] using o1.len
   have R1:=Hz (BytIn.later (show BytIn W2 (A1,k1,zb3 L) from o1.reads) b3);generalize zdl t (q:Int) (zb1 L)=Y at*;generalize zxy t (q:Int) (zb1 L)=Z at*
   go_wp2_with fail
   refine V.out.mono ?_;rintro e W4 ⟨A3,m3,k3,rfl,o3,b4⟩;clear V;have b14:=New.trans b13 b4;clear c0 c1 c2;obtain⟨c0,c1,c2⟩:=zaf (G1.out.below b14 G1.out.lt)
   cases Y with
   |none=>
    have hz:Z=(1,[]):=VE.out;have hx:X=(1,[]):=HP.out;subst hz hx
    go_wp2_with fail
    go_ret2
    exact⟨none,0,0,rfl,Own.nil_,New.trans N1.out b14⟩
   |some d=>
    have hz:Z=(0,d):=VE.out;have hx:X=(0,q::(vp L.length++((if nu=true then zb3 L else [])++d))):=HP.out;subst hz;have hdl:=VL.out d rfl
    obtain rfl:m3=d.length:=by simpa[za3] using o3.len
    have R3:=Hz (show BytIn W4 (A3,k3,d) from o3.reads);have R1b:=Hz (BytIn.later R1.out b4);obtain⟨c3,hc3⟩:∃c3:Value,c3= .int .u8 (q:Int):=⟨_,rfl⟩
    have iw:IntKind.u8.wrap (q:Int)=(q:Int):=by rw[IntKind.wrap_u8];omega
    have n5:New W4 (W4.alloc (.cells #[.int .u8 (q:Int)] 5)):=(Below.refl _ _).alloc (Nat.le_refl _) _;have R5:Hid (BytIn (W4.alloc (.cells #[.int .u8 (q:Int)] 5)) (some ⟨W4.heap.size,0,none⟩,1,[q])):=Hz (Reads.litV _ _ _ 1 _ rfl rfl);have P:=Hz (zcx none 0 0 [] L.length (W4.alloc (.cells #[.int .u8 (q:Int)] 5)) Reads.none_ (by omega) (by omega))
    have iz:IntKind.u64.wrap (L.length:Int)=(L.length:Int):=by rw[IntKind.wrap_u64];omega
    clear hc3 c3
    cases nu with
    |false=>
     go_wp2_with fail
     refine P.out.mono ?_;rintro e W5 ⟨A5,m5,k5,rfl,o5,b5⟩;clear P;rw[List.nil_append] at o5
     obtain rfl:m5=(vp L.length).length:=by simpa[za3] using o5.len
     have R6:=Hz (show BytIn W5 (A5,k5,vp L.length) from o5.reads);have n6:New W5 (W5.alloc (.cells #[.slice (some ⟨W4.heap.size,0,none⟩) 1 1,.slice A5 (vp L.length).length k5,.slice none 0 0,.slice A3 d.length k3] 31)):=(Below.refl _ _).alloc (Nat.le_refl _) _
     have hfd:zc8 [(some ⟨W4.heap.size,0,none⟩,1,[q]),(A5,k5,vp L.length),(none,0,[]),(A3,k3,d)]=q::(vp L.length++d):=by simp[zc8]
     have C:=Hz (zf1 (w:=W5.alloc (.cells #[.slice (some ⟨W4.heap.size,0,none⟩) 1 1,.slice A5 (vp L.length).length k5,.slice none 0 0,.slice A3 d.length k3] 31)) (c:=4) (D:=[(some ⟨W4.heap.size,0,none⟩,1,[q]),(A5,k5,vp L.length),(none,0,[]),(A3,k3,d)]) (Reads.litV _ _ _ 4 _ rfl rfl) (by
      intro x hx;rcases List.mem_cons.1 hx with rfl|hx
      ·exact BytIn.later R5.out (New.trans b5 n6)
      rcases List.mem_cons.1 hx with rfl|hx
      ·exact BytIn.later R6.out n6
      rcases List.mem_cons.1 hx with rfl|hx
      ·exact Reads.none_
      obtain rfl:=List.mem_singleton.1 hx
      exact BytIn.later R3.out (New.trans n5 (New.trans b5 n6))) (by omega) (by rw[hfd];have:=HVL.out;simp only[List.length_cons,List.length_append];omega))
     rw[hfd] at C;have HC:Hid (X=(0,q::(vp L.length++d))):=Hz (hx.trans (by simp));clear hx hfd;generalize vp L.length=vL at*
     go_wp2_with fail
     refine C.out.mono ?_;rintro e W6 ⟨A6,m6,k6,rfl,o6,b6⟩;clear C
     go_wp2_with fail
     go_ret2
     rw[HC.out];exact⟨A6,m6,k6,rfl,o6.base_le (by have:=N1.out.size;have:=b14.size;have:=n5.size;have:=b5.size;have:=n6.size;omega),New.trans N1.out (New.trans b14 (New.trans n5 (New.trans b5 (New.trans n6 b6))))⟩
    |true=>
     go_wp2_with fail
     refine P.out.mono ?_;rintro e W5 ⟨A5,m5,k5,rfl,o5,b5⟩;clear P;rw[List.nil_append] at o5
     obtain rfl:m5=(vp L.length).length:=by simpa[za3] using o5.len
     have R6:=Hz (show BytIn W5 (A5,k5,vp L.length) from o5.reads);have n6:New W5 (W5.alloc (.cells #[.slice (some ⟨W4.heap.size,0,none⟩) 1 1,.slice A5 (vp L.length).length k5,.slice A1 (zb3 L).length k1,.slice A3 d.length k3] 31)):=(Below.refl _ _).alloc (Nat.le_refl _) _
     have hfd:zc8 [(some ⟨W4.heap.size,0,none⟩,1,[q]),(A5,k5,vp L.length),(A1,k1,zb3 L),(A3,k3,d)]=q::(vp L.length++(zb3 L++d)):=by simp[zc8]
     have C:=Hz (zf1 (w:=W5.alloc (.cells #[.slice (some ⟨W4.heap.size,0,none⟩) 1 1,.slice A5 (vp L.length).length k5,.slice A1 (zb3 L).length k1,.slice A3 d.length k3] 31)) (c:=4) (D:=[(some ⟨W4.heap.size,0,none⟩,1,[q]),(A5,k5,vp L.length),(A1,k1,zb3 L),(A3,k3,d)]) (Reads.litV _ _ _ 4 _ rfl rfl) (by
      intro x hx;rcases List.mem_cons.1 hx with rfl|hx
      ·exact BytIn.later R5.out (New.trans b5 n6)
      rcases List.mem_cons.1 hx with rfl|hx
      ·exact BytIn.later R6.out n6
      rcases List.mem_cons.1 hx with rfl|hx
      ·exact BytIn.later R1b.out (New.trans n5 (New.trans b5 n6))
      obtain rfl:=List.mem_singleton.1 hx
      exact BytIn.later R3.out (New.trans n5 (New.trans b5 n6))) (by omega) (by rw[hfd];have:=HVL.out;have:=HS.out;simp only[List.length_cons,List.length_append];omega))
     rw[hfd] at C;have HC:Hid (X=(0,q::(vp L.length++(zb3 L++d)))):=Hz (hx.trans (by simp));clear hx hfd;generalize vp L.length=vL at*;generalize zb3 L=sL at*
     go_wp2_with fail
     refine C.out.mono ?_;rintro e W6 ⟨A6,m6,k6,rfl,o6,b6⟩;clear C
     go_wp2_with fail
     go_ret2
     rw[HC.out];exact⟨A6,m6,k6,rfl,o6.base_le (by have:=N1.out.size;have:=b14.size;have:=n5.size;have:=b5.size;have:=n6.size;omega),New.trans N1.out (New.trans b14 (New.trans n5 (New.trans b5 (New.trans n6 b6))))⟩
 ·have hp:=HP.out
  rw[if_neg hm] at hp;subst hp
  have i1:(M==0)=false:=by simpa using hm
  clear hm
  go_wp2_with fail
  go_ret2
  exact⟨none,0,0,rfl,Own.nil_,New.trans N1.out b1⟩
end Go.Proofs.YtmgfkpnghlmheaaGreat
