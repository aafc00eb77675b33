/- Merged. -/
import Derived.Test.YtmgfkpnghlmheaaGreatBun38
set_option maxHeartbeats 8000000
namespace Go.Proofs.Y
open Go.RowKit Go.Hm
theorem zu3:Tryz.prog.underlying 31=some (.slice (Tryz.prog.elem 31)):=by kernel_rfl
theorem zu4(w:World):(sizeOf (Tryz.prog.elem 31)).run Tryz.prog w= .ok 1 w:=by kernel_rfl
theorem z6o{l:List Nat}(hl:∀x∈l,x<256):((zad l).toList== [72,89,80,79])=decide (l=headL_film):=by rw[<-zhh hl (m:=headL_film) (by decide)];rw[show(zad headL_film).toList=[72,89,80,79] by simp[zad,headL_film]]
theorem z6p{l:List Nat}(hl:∀x∈l,x<256):((zad l).toList== [79,80,89,72])=decide (l=tailL):=by rw[<-zhh hl (m:=tailL) (by decide)];rw[show(zad tailL).toList=[79,80,89,72] by simp[zad,tailL]]
def zlz(b:List Nat)(w:World)(e:Ending)(w':World):Prop:=
 New w w'/\match zoy b with
 |none=>e= .returned (.tuple #[.slice none 0 0,.bool false])
 |some s=>∃A c,e= .returned (.tuple #[.slice A s.length c,.bool true])/\Reads w' w.heap.size 1 A s.length (za3 .u8 s)/\s.length<=c/\c<=9223372036854775807
set_option maxRecDepth 100000 in
theorem zu5{w:World}{A:Option Addr}{c:Nat}{b:List Nat}(h:Reads w w.heap.size 1 A b.length (za3 .u8 b))(h8:∀x∈b,x<256)(hb:b.length<=140737488351232)(hc:b.length<=c)(hc2:c<=9223372036854775807):
 Calls Tryz.prog 39 #[.slice A b.length c] w (zlz b w):=by
 have HR:=Hz h;by_cases h1:b.length<12
 ·have ho:zoy b=none:=by unfold zoy;rw[if_pos (.inl h1)]
  have i1:(b.length:Int)<12:=by omega
  go_enter Tryz.func39,Tryz.ntmps39
  go_wp2_with fail
  go_ret2
  unfold zlz;rw[ho];exact⟨New.refl _,rfl⟩
 ·have i1:(12:Int)<=(b.length:Int):=by omega
  have S1:(Instr.sliceAt 31 (.slice A b.length c) none (some (.int .i64 4)) none).run Tryz.prog w= .ok (.slice A 4 c) w:=qbu zu3 zu4 A b.length c 4 (by omega) w;have C1:=zeu (c:=c) (show Reads w w.heap.size 1 A 4 (za3 .u8 (b.take 4)) by have:=h.take (k:=4) (by omega);rwa[show 4*1=4 from rfl,zfp] at this)
  have q1:=z6o (l:=b.take 4) (fun x hx=>h8 x (List.mem_of_mem_take hx));have hz1:=zbh (b.take 4);by_cases hH:b.take 4=headL_film
  ·rw[decide_eq_true hH] at q1
   have S2:(Instr.sliceAt 31 (.slice A b.length c) (some (.int .i64 ((b.length:Int)-4))) none none).run Tryz.prog w= .ok (.slice (if c=b.length-4 then A else A.map (·.add ((b.length-4)*1))) (b.length-(b.length-4)) (c-(b.length-4))) w:=by have:=zsz zu3 zu4 A b.length c (b.length-4) (by omega) w;rwa[show((b.length-4:Nat):Int)=(b.length:Int)-4 by omega] at this
   have C2:=zeu (c:=c-(b.length-4)) (show Reads w w.heap.size 1 (if c=b.length-4 then A else A.map (·.add ((b.length-4)*1))) (b.length-(b.length-4)) (za3 .u8 (b.drop (b.length-4))) by have:=h.cut (k:=b.length-4) (cap:=c) (by omega) hc;simpa only[Nat.mul_one,zey] using this)
   have q2:=z6p (l:=b.drop (b.length-4)) (fun x hx=>h8 x (List.mem_of_mem_drop hx));generalize hA2:(if c=b.length-4 then A else A.map (·.add ((b.length-4)*1)))=A2 at*;have HA2:=Hz hA2;generalize hD2:b.drop (b.length-4)=D2 at*;have HD2:=Hz hD2;generalize hN4:b.length-4=N4 at*;have HN4:=Hz hN4;have HH:=Hz hH;clear hA2 hD2 hN4 hH;by_cases hT:D2=tailL
   ·rw[decide_eq_true hT] at q2
    subst hT;have S3:(Instr.sliceAt 31 (.slice A b.length c) (some (.int .i64 ((b.length:Int)-4-4))) (some (.int .i64 ((b.length:Int)-4))) none).run Tryz.prog w= .ok (.slice (if c=b.length-8 then A else A.map (·.add ((b.length-8)*1))) 4 (c-(b.length-8))) w:=by have:=zg8 zu3 zu4 A b.length c (b.length-8) (b.length-4) (by omega) (by omega) w;rwa[show((b.length-8:Nat):Int)=(b.length:Int)-4-4 by omega,show((b.length-4:Nat):Int)=(b.length:Int)-4 by omega,show b.length-4-(b.length-8)=4 by omega] at this
    have hd4:((b.drop (b.length-8)).take 4).length=4:=by rw[List.length_take,List.length_drop];omega
    have R3:Reads w w.heap.size 1 (if c=b.length-8 then A else A.map (·.add ((b.length-8)*1))) 4 (za3 .u8 ((b.drop (b.length-8)).take 4)):=by have:=(h.cut (k:=b.length-8) (cap:=c) (by omega) hc).take (k:=4) (by omega);simpa only[Nat.mul_one,zey,zfp] using this
    have h48:∀x∈(b.drop (b.length-8)).take 4,x<256:=fun x hx=>h8 x (List.mem_of_mem_drop (List.mem_of_mem_take hx))
    have R3':Reads w w.heap.size 1 (if c=b.length-8 then A else A.map (·.add ((b.length-8)*1))) ((b.drop (b.length-8)).take 4).length (za3 .u8 ((b.drop (b.length-8)).take 4)):=by rw[hd4];exact R3
    have C:=Hz (zfa (c:=c-(b.length-8)) R3' (by omega) h48);rw[hd4] at C;have hnl:=zqn _ h48;rw[hd4] at hnl;have hN:num ((b.drop (b.length-8)).take 4)=ownN b:=rfl;rw[hN] at hnl;have hnl2:ownN b<4294967296:=hnl;generalize hA3:(if c=b.length-8 then A else A.map (·.add ((b.length-8)*1)))=A3 at*;generalize hD4:(b.drop (b.length-8)).take 4=D4 at*;have HD4:=Hz hD4;have HN:=Hz hN;have HL4:=Hz hd4;have S4:Hid (∀W,ownN b<=b.length-12->(Instr.sliceAt 31 (.slice A b.length c) (some (.int .i64 ((b.length:Int)-4-4-(ownN b:Int)))) (some (.int .i64 ((b.length:Int)-4-4))) none).run Tryz.prog W= .ok (.slice (if c=b.length-8-ownN b then A else A.map (·.add ((b.length-8-ownN b)*1))) (ownN b) (c-(b.length-8-ownN b))) W):=Hz (fun W hW=>by have:=zg8 zu3 zu4 A b.length c (b.length-8-ownN b) (b.length-8) (by omega) (by omega) W;rwa[show((b.length-8-ownN b:Nat):Int)=(b.length:Int)-4-4-(ownN b:Int) by omega,show((b.length-8:Nat):Int)=(b.length:Int)-4-4 by omega,show b.length-8-(b.length-8-ownN b)=ownN b by omega] at this)
    have R4:Hid (ownN b<=b.length-12->Reads w w.heap.size 1 (if c=b.length-8-ownN b then A else A.map (·.add ((b.length-8-ownN b)*1))) (ownN b) (za3 .u8 ((b.drop (b.length-8-ownN b)).take (ownN b)))):=Hz (fun hW=>by have:=(h.cut (k:=b.length-8-ownN b) (cap:=c) (by omega) hc).take (k:=ownN b) (by omega);simpa only[Nat.mul_one,zey,zfp] using this)
    have hown:zoy b=if b.length-12<ownN b then none else some ((b.drop (b.length-8-ownN b)).take (ownN b)):=by unfold zoy;rw[if_neg (by rintro(q|q|q);exact h1 q;exact q HH.out;exact q (by rw[HN4.out,HD2.out]))]
    have HOW:=Hz hown;clear hA3 hD4 hN hd4 hown R3 R3' h48 h8 h;generalize ownN b=N at*;have iw:IntKind.i64.wrap (N:Int)=(N:Int):=by rw[IntKind.wrap_i64];omega
    go_enter Tryz.func39,Tryz.ntmps39
    go_wp2_with fail
    refine C.out.mono ?_;rintro e w1 ⟨g,rfl,hg,C1,b1⟩;have U:=z9w C1 (by rw[HL4.out];exact Nat.le_refl _);rw[List.take_of_length_le (by rw[HL4.out];exact Nat.le_refl _),HN.out] at U;replace U:=Hz U;clear C C1;go_wp2_with fail
    refine U.out.mono ?_;rintro e w2 ⟨rfl,C2',g2⟩;have b2:=Far.below b1 g2 hg (Nat.le_refl _);clear U C2' g2 b1;by_cases hbig:b.length-12<N
    ·have ho:zoy b=none:=by rw[HOW.out,if_pos hbig]
     have i5:(b.length:Int)-4-4-4<(N:Int):=by omega
     clear hbig;go_wp2_with fail
     go_ret2
     unfold zlz;rw[ho];exact⟨b2,rfl⟩
    ·have ho:zoy b=some ((b.drop (b.length-8-N)).take N):=by rw[HOW.out,if_neg hbig]
     have i5:(N:Int)<=(b.length:Int)-4-4-4:=by omega
     have S5:=S4.out w2 (by omega);have R5:=Hz ((R4.out (by omega)).below b2);have hcN:N<=c-(b.length-8-N):=by omega
     have hlN:((b.drop (b.length-8-N)).take N).length=N:=by rw[List.length_take,List.length_drop];omega
     have HO:=Hz ho;have HLN:=Hz hlN;clear hbig ho hlN;generalize(if c=b.length-8-N then A else A.map (·.add ((b.length-8-N)*1)))=A5 at*;generalize hk5:c-(b.length-8-N)=k5 at*;have HK5:=Hz hk5;clear hk5;go_wp2_with fail
     go_ret2
     unfold zlz;rw[HO.out];refine⟨b2,A5,k5,?_,?_,?_,?_⟩
     ·rw[HLN.out];rfl
     ·rw[HLN.out];exact R5.out
     ·rw[HLN.out];exact hcN
     ·rw[<-HK5.out];omega
   ·rw[decide_eq_false hT] at q2
    have ho:zoy b=none:=by unfold zoy;rw[if_pos (.inr (.inr (by rw[HN4.out,HD2.out];exact hT)))]
    clear hT;go_enter Tryz.func39,Tryz.ntmps39
    go_wp2_with fail
    go_ret2
    unfold zlz;rw[ho];exact⟨New.refl _,rfl⟩
  ·rw[decide_eq_false hH] at q1
   have ho:zoy b=none:=by unfold zoy;rw[if_pos (.inr (.inl hH))]
   clear hH;go_enter Tryz.func39,Tryz.ntmps39
   go_wp2_with fail
   go_ret2
   unfold zlz;rw[ho];exact⟨New.refl _,rfl⟩
open Go.RowKit Go.Hm
set_option maxRecDepth 100000 in
theorem zx6{n n':Int}{b b':Bool}{p q p' q':zab}(W:World):
 (binOp .neq 63 (zb4 (n,b,p,q)) (zb4 (n',b',p',q'))).run Tryz.prog W= .ok (.bool (!eqS (n,b,p,q) (n',b',p',q'))) W:=by
 obtain⟨p1,p2,p3,p4,p5⟩:=p;obtain⟨q1,q2,q3,q4,q5⟩:=q;obtain⟨r1,r2,r3,r4,r5⟩:=p';obtain⟨s1,s2,s3,s4,s5⟩:=q';show(binOp .neq 63 (.agg #[.int .i64 n,.bool b,.bool p1,.int .i64 p2,.string (zad p3),.int .i64 p4,.int .i64 p5,.bool q1,.int .i64 q2,.string (zad q3),.int .i64 q4,.int .i64 q5]) (.agg #[.int .i64 n',.bool b',.bool r1,.int .i64 r2,.string (zad r3),.int .i64 r4,.int .i64 r5,.bool s1,.int .i64 s2,.string (zad s3),.int .i64 s4,.int .i64 s5])).run Tryz.prog W=_;go_simp
 unfold eqS eqC
 repeat' split
 all_goals simp_all
def SheOk(t:Int)(nu:Bool)(p:zay)(b:List Nat)(l:List zab):Prop:=IsPg t nu b (some l)/\(b.length:Int)=p.1/\(l.length:Int)=p.2.1/\IsStat t l p.2.2
def z0b(t:Int)(nu:Bool)(p:zay)(b:List Nat)(w:World)(en:Ending)(w':World):Prop:=
 New w w'/\((∃l A m c,SheOk t nu p b l/\en= .returned (.tuple #[.slice A m c,.bool true])/\w'.ownsRow w.heap.size 61 5 (.slice A m c) m (recs zam l))\/
  ((∀l,¬SheOk t nu p b l)/\en= .returned (.tuple #[.slice none 0 0,.bool false])))
theorem zjc{c:zab}{t:Int}{nu:Bool}(h:zac c t nu=true):zac c t true=true:=by
 cases nu with
 |false=>exact zu2 true h
 |true=>exact h
theorem z23{t:Int}{l:List zab}{s:zc9}(h:IsStat t l s)(h8:∀c∈l,zai c):(∀z∈s.2.2.1.2.2.1,z<256)/\ ∀z∈s.2.2.2.2.2.1,z<256:=by
 cases hb:s.2.1 with
 |true=>exact⟨(h8 _ (h.least hb).1.1).1.2,(h8 _ (h.most hb).1.1).1.2⟩
 |false=>
  obtain⟨e1,e2⟩:=h.none hb;rw[e1,e2];exact⟨by simp[zaz],by simp[zaz]⟩
set_option maxRecDepth 100000 in
theorem zv0{w:World}{cn:List Nat}{t:Int}{nu:Bool}{p:zay}{A:Option Addr}{c:Nat}{b:List Nat}(hp:(∀z∈p.2.2.2.2.1.2.2.1,z<256)/\ ∀z∈p.2.2.2.2.2.2.2.1,z<256)
 (h:Reads w w.heap.size 1 A b.length (za3 .u8 b))(h8:∀x∈b,x<256)(hb:b.length<=140737488351232):
 Calls Tryz.prog 62 #[.agg #[.string (zad cn),.int .i64 t,.bool nu],zqg p,.slice A b.length c] w (z0b t nu p b w):=by
 obtain⟨sz,rw,n,bb,⟨p1,p2,p3,p4,p5⟩,⟨q1,q2,q3,q4,q5⟩⟩:=p;dsimp only at hp;show Calls Tryz.prog 62 #[.agg #[.string (zad cn),.int .i64 t,.bool nu],.agg #[.int .i64 sz,.int .i64 rw,.int .i64 n,.bool bb,.bool p1,.int .i64 p2,.string (zad p3),.int .i64 p4,.int .i64 p5,.bool q1,.int .i64 q2,.string (zad q3),.int .i64 q4,.int .i64 q5],.slice A b.length c] w _;have n1:New w ((w.alloc (.cells #[.string (zad cn),.int .i64 t,.bool nu] 70)).alloc (.cells #[.int .i64 sz,.int .i64 rw,.int .i64 n,.bool bb,.bool p1,.int .i64 p2,.string (zad p3),.int .i64 p4,.int .i64 p5,.bool q1,.int .i64 q2,.string (zad q3),.int .i64 q4,.int .i64 q5] 65)):=((Below.refl _ _).alloc (Nat.le_refl _) _).alloc (by simp) _;have BC:Blk ((w.alloc (.cells #[.string (zad cn),.int .i64 t,.bool nu] 70)).alloc (.cells #[.int .i64 sz,.int .i64 rw,.int .i64 n,.bool bb,.bool p1,.int .i64 p2,.string (zad p3),.int .i64 p4,.int .i64 p5,.bool q1,.int .i64 q2,.string (zad q3),.int .i64 q4,.int .i64 q5] 65)) w.heap.size 70 #[.string (zad cn),.int .i64 t,.bool nu]:=(Blk.new _ _ _).alloc _;have BP:Blk ((w.alloc (.cells #[.string (zad cn),.int .i64 t,.bool nu] 70)).alloc (.cells #[.int .i64 sz,.int .i64 rw,.int .i64 n,.bool bb,.bool p1,.int .i64 p2,.string (zad p3),.int .i64 p4,.int .i64 p5,.bool q1,.int .i64 q2,.string (zad q3),.int .i64 q4,.int .i64 q5] 65)) (w.heap.size+1) 65 #[.int .i64 sz,.int .i64 rw,.int .i64 n,.bool bb,.bool p1,.int .i64 p2,.string (zad p3),.int .i64 p4,.int .i64 p5,.bool q1,.int .i64 q2,.string (zad q3),.int .i64 q4,.int .i64 q5]:=by have:=Blk.new (w.alloc (.cells #[.string (zad cn),.int .i64 t,.bool nu] 70)) 65 #[.int .i64 sz,.int .i64 rw,.int .i64 n,.bool bb,.bool p1,.int .i64 p2,.string (zad p3),.int .i64 p4,.int .i64 p5,.bool q1,.int .i64 q2,.string (zad q3),.int .i64 q4,.int .i64 q5];rwa[World.size_alloc] at this
 have D:=Hz (zvz (cn:=cn) (t:=t) (nu:=nu) (c:=c) (Reads.later h n1) h8 hb);have N0:=Hz n1;have HP:=Hz hp;obtain⟨c0,c1,c2⟩:=zaf BC;have HBC:=Hz BC;have HBP:=Hz BP;clear h h8 n1 BC BP hp;go_enter Tryz.func62,Tryz.ntmps62
 go_wp2_with fail
 refine D.out.mono ?_;rintro e W1 ⟨b1,hpost⟩;have BC1:=HBC.out.below b1 HBC.out.lt;have BP1:=HBP.out.below b1 HBP.out.lt;clear D c0 c1 c2;rcases hpost with⟨hk,rfl⟩|⟨hk,hpg,rfl⟩|⟨hk,l,A1,m1,c1,hpg,rfl,o1⟩
 ·have HNO:Hid (∀l,¬SheOk t nu (sz,rw,n,bb,(p1,p2,p3,p4,p5),(q1,q2,q3,q4,q5)) b l):=Hz (fun l hl=>by
   have:=(qfz (nu:=nu) (b:=b) hk).uniq hl.1;cases this)
  clear hk;go_wp2_with fail
  refine zat New [(true,0),(true,1),(true,2),(true,3),(true,4),(true,5),(true,6),(true,7),(true,8),(true,9),(true,10),(true,11),(true,12),(true,13),(true,14),(true,15),(true,16),(true,17),(true,18),(true,19),(true,21),(true,22),(false,20),(true,23),(true,24)]
   New.refl New.trans (by kernel_rfl) (by kernel_rfl) (by kernel_rfl) (by kernel_rfl) ?_
  have F:=Hz (fun(W:World) (hW:New W1.drew W)=>And.intro (BC1.below (New.trans (New.drew _) hW) BC1.lt) (BP1.below (New.trans (New.drew _) hW) BP1.lt));obtain⟨wa,hwa⟩:∃wa,wa=W1.drew:=⟨_,rfl⟩;have ba:New W1 wa:=by rw[hwa];exact New.drew _
  rw[<-hwa] at F⊢;clear hwa;repeat(first
   |(refine za1 rfl rfl (v:=?_) (fun W hQ=>?_) ?_;rotate_left;(obtain⟨F1,F2⟩:=F.out W hQ;obtain⟨y0,y1,y2⟩:=zaf F1;obtain⟨x0,x1,x2,x3,x4,x5,x6,x7,x8,x9,x10,x11,x12,x13⟩:=zci F2;clear F1 F2;go_simp<;> with_reducible rfl);simp only[Act.put,List.setIfInBounds_toArray,List.set_cons_zero,List.set_cons_succ])
   |(refine zjw rfl rfl ?_;simp only[Act.put,List.setIfInBounds_toArray,List.set_cons_zero,List.set_cons_succ]))
  refine zc3 ?_;clear F;go_wp2_with fail
  go_ret2
  exact⟨New.trans N0.out (New.trans b1 ba),.inr ⟨HNO.out,rfl⟩⟩
 ·have HNO:Hid (∀l,¬SheOk t nu (sz,rw,n,bb,(p1,p2,p3,p4,p5),(q1,q2,q3,q4,q5)) b l):=Hz (fun l hl=>by
   have:=hpg.uniq hl.1;cases this)
  clear hk hpg;go_wp2_with fail
  refine zat New [(true,0),(true,1),(true,2),(true,3),(true,4),(true,5),(true,6),(true,7),(true,8),(true,9),(true,10),(true,11),(true,12),(true,13),(true,14),(true,15),(true,16),(true,17),(true,18),(true,19),(true,21),(true,22),(false,20),(true,23),(true,24)]
   New.refl New.trans (by kernel_rfl) (by kernel_rfl) (by kernel_rfl) (by kernel_rfl) ?_
  have F:=Hz (fun(W:World) (hW:New W1.drew W)=>And.intro (BC1.below (New.trans (New.drew _) hW) BC1.lt) (BP1.below (New.trans (New.drew _) hW) BP1.lt));obtain⟨wa,hwa⟩:∃wa,wa=W1.drew:=⟨_,rfl⟩;have ba:New W1 wa:=by rw[hwa];exact New.drew _
  rw[<-hwa] at F⊢;clear hwa;repeat(first
   |(refine za1 rfl rfl (v:=?_) (fun W hQ=>?_) ?_;rotate_left;(obtain⟨F1,F2⟩:=F.out W hQ;obtain⟨y0,y1,y2⟩:=zaf F1;obtain⟨x0,x1,x2,x3,x4,x5,x6,x7,x8,x9,x10,x11,x12,x13⟩:=zci F2;clear F1 F2;go_simp<;> with_reducible rfl);simp only[Act.put,List.setIfInBounds_toArray,List.set_cons_zero,List.set_cons_succ])
   |(refine zjw rfl rfl ?_;simp only[Act.put,List.setIfInBounds_toArray,List.set_cons_zero,List.set_cons_succ]))
  refine zc3 ?_;clear F;go_wp2_with fail
  go_ret2
  exact⟨New.trans N0.out (New.trans b1 ba),.inr ⟨HNO.out,rfl⟩⟩
 ·obtain rfl:m1=l.length:=(Reads.of_own o1).lenCell
  have HPG:=Hz hpg;have hz1:w.heap.size<=((w.alloc (.cells #[.string (zad cn),.int .i64 t,.bool nu] 70)).alloc (.cells #[.int .i64 sz,.int .i64 rw,.int .i64 n,.bool bb,.bool p1,.int .i64 p2,.string (zad p3),.int .i64 p4,.int .i64 p5,.bool q1,.int .i64 q2,.string (zad q3),.int .i64 q4,.int .i64 q5] 65)).heap.size:=N0.out.size;by_cases e1:(b.length:Int)=sz
  ·by_cases e2:(l.length:Int)=rw
   ·obtain⟨⟨en,hf,hB⟩,hd⟩:=hpg.sound l rfl
    obtain⟨_,hl6,hr,_⟩:=zg7 hB;have ST:=Hz (fun(W:World) (hW:New W1 W)=>qd7 (t:=t) (c:=c1) (Reads.later (Reads.of_own o1) hW) (fun y hy=>(by have:=zi7 (hr y hy);exact this)) (by omega));have HD:=Hz hd;have HRR:=Hz (fun c hc=>zjc (hr c hc));have E1:=Hz e1;have E2:=Hz e2;have q8:((b.length:Int) != sz)=false:=by simpa using e1
    have q9:((l.length:Int) != rw)=false:=by simpa using e2
    clear hpg hf hB hd hr hk e1 e2;go_wp2_with fail
    refine zat New [(true,0),(true,1),(true,2),(true,3),(true,4),(true,5),(true,6),(true,7),(true,8),(true,9),(true,10),(true,11),(true,12),(true,13),(true,14),(true,15),(true,16),(true,17),(true,18),(true,19),(true,21),(true,22),(false,20),(true,23),(true,24)]
     New.refl New.trans (by kernel_rfl) (by kernel_rfl) (by kernel_rfl) (by kernel_rfl) ?_
    have F:=Hz (fun(W:World) (hW:New W1.drew W)=>And.intro (BC1.below (New.trans (New.drew _) hW) BC1.lt) (BP1.below (New.trans (New.drew _) hW) BP1.lt));obtain⟨wa,hwa⟩:∃wa,wa=W1.drew:=⟨_,rfl⟩;have ba:New W1 wa:=by rw[hwa];exact New.drew _
    rw[<-hwa] at F⊢;clear hwa;repeat(first
     |(refine za1 rfl rfl (v:=?_) (fun W hQ=>?_) ?_;rotate_left;(obtain⟨F1,F2⟩:=F.out W hQ;obtain⟨y0,y1,y2⟩:=zaf F1;obtain⟨x0,x1,x2,x3,x4,x5,x6,x7,x8,x9,x10,x11,x12,x13⟩:=zci F2;clear F1 F2;go_simp<;> with_reducible rfl);simp only[Act.put,List.setIfInBounds_toArray,List.set_cons_zero,List.set_cons_succ])
     |(refine zjw rfl rfl ?_;simp only[Act.put,List.setIfInBounds_toArray,List.set_cons_zero,List.set_cons_succ]))
    refine zbb rfl rfl (fun K0 hK0=>?_);go_simp
    (with_reducible refine(ST.out _ ba).mono ?_)
    rintro e u ⟨s,rfl,his,bu⟩;have HIS:=Hz his;have hsb:=z23 his HD.out;have HEQ:=Hz (qdy (a:=s) (b:=(n,bb,(p1,p2,p3,p4,p5),(q1,q2,q3,q4,q5))) hsb.1 hsb.2 HP.out.1 HP.out.2);have EQS:Hid (∀W,(binOp .neq 63 (zb4 s) (.agg #[.int .i64 n,.bool bb,.bool p1,.int .i64 p2,.string (zad p3),.int .i64 p4,.int .i64 p5,.bool q1,.int .i64 q2,.string (zad q3),.int .i64 q4,.int .i64 q5])).run Tryz.prog W= .ok (.bool (!eqS s (n,bb,(p1,p2,p3,p4,p5),(q1,q2,q3,q4,q5)))) W):=Hz (fun W=>by obtain⟨m,cc,⟨r1,r2,r3,r4,r5⟩,⟨s1,s2,s3,s4,s5⟩⟩:=s;exact zx6 (n:=m) (b:=cc) (p:=(r1,r2,r3,r4,r5)) (q:=(s1,s2,s3,s4,s5)) (n':=n) (b':=bb) (p':=(p1,p2,p3,p4,p5)) (q':=(q1,q2,q3,q4,q5)) W)
    have EGS:Hid (∀W,(eqGuard .neq 63 (Operand.tmp 36) (Operand.tmp 38) (zb4 s) (.agg #[.int .i64 n,.bool bb,.bool p1,.int .i64 p2,.string (zad p3),.int .i64 p4,.int .i64 p5,.bool q1,.int .i64 q2,.string (zad q3),.int .i64 q4,.int .i64 q5])).run Tryz.prog W= .ok () W):=Hz (fun W=>by obtain⟨m,cc,⟨r1,r2,r3,r4,r5⟩,⟨s1,s2,s3,s4,s5⟩⟩:=s;clear hsb HEQ EQS HIS his;show(eqGuard .neq 63 (Operand.tmp 36) (Operand.tmp 38) (.agg #[.int .i64 m,.bool cc,.bool r1,.int .i64 r2,.string (zad r3),.int .i64 r4,.int .i64 r5,.bool s1,.int .i64 s2,.string (zad s3),.int .i64 s4,.int .i64 s5]) (.agg #[.int .i64 n,.bool bb,.bool p1,.int .i64 p2,.string (zad p3),.int .i64 p4,.int .i64 p5,.bool q1,.int .i64 q2,.string (zad q3),.int .i64 q4,.int .i64 q5])).run Tryz.prog W=_;go_simp)
    generalize hSA:zb4 s=SA at*;have HSA:=Hz hSA;clear hSA;refine hK0 _ _ bu ?_;have bw:=New.trans ba bu;clear hK0 ST his hsb;generalize eqS s (n,bb,(p1,p2,p3,p4,p5),(q1,q2,q3,q4,q5))=Q at*;repeat(first
     |(refine za1 rfl rfl (v:=?_) (fun W hQ=>?_) ?_;rotate_left;(have EQ:=EQS.out W;have EG:=EGS.out W;go_simp<;> with_reducible rfl);simp only[Act.put,List.setIfInBounds_toArray,List.set_cons_zero,List.set_cons_succ])
     |(refine zjw rfl rfl ?_;simp only[Act.put,List.setIfInBounds_toArray,List.set_cons_zero,List.set_cons_succ]))
    refine zc3 ?_;clear F EQS EGS;cases Q with
    |false=>
     have HNO:Hid (∀l,¬SheOk t nu (sz,rw,n,bb,(p1,p2,p3,p4,p5),(q1,q2,q3,q4,q5)) b l):=Hz (fun l2 hl=>by have:=HPG.out.uniq hl.1;injection this with this;subst this;have:=HEQ.out.2 (HIS.out.uniq HRR.out (fun c hc=>(HD.out c hc).1.2) hl.2.2.2);cases this)
     go_wp2_with fail
     go_ret2
     exact⟨New.trans N0.out (New.trans b1 bw),.inr ⟨HNO.out,rfl⟩⟩
    |true=>
     have hs:=HEQ.out.1 rfl;have HOK:Hid (SheOk t nu (sz,rw,n,bb,(p1,p2,p3,p4,p5),(q1,q2,q3,q4,q5)) b l):=Hz ⟨HPG.out,E1.out,E2.out,by have:=HIS.out;rw[hs] at this;exact this⟩;have o2:=zbd (zau o1 bw) hz1;clear hs;go_wp2_with fail
     go_ret2
     exact⟨New.trans N0.out (New.trans b1 bw),.inl ⟨l,A1,l.length,c1,HOK.out,rfl,o2⟩⟩
   ·have HNO:Hid (∀l,¬SheOk t nu (sz,rw,n,bb,(p1,p2,p3,p4,p5),(q1,q2,q3,q4,q5)) b l):=Hz (fun l2 hl=>by
     have:=hpg.uniq hl.1;injection this with this;subst this;exact e2 hl.2.2.1)
    have q8:((b.length:Int) != sz)=false:=by simpa using e1
    have q9:((l.length:Int) != rw)=true:=by simpa using e2
    clear hpg hk e1 e2;go_wp2_with fail
    refine zat New [(true,0),(true,1),(true,2),(true,3),(true,4),(true,5),(true,6),(true,7),(true,8),(true,9),(true,10),(true,11),(true,12),(true,13),(true,14),(true,15),(true,16),(true,17),(true,18),(true,19),(true,21),(true,22),(false,20),(true,23),(true,24)]
     New.refl New.trans (by kernel_rfl) (by kernel_rfl) (by kernel_rfl) (by kernel_rfl) ?_
    have F:=Hz (fun(W:World) (hW:New W1.drew W)=>And.intro (BC1.below (New.trans (New.drew _) hW) BC1.lt) (BP1.below (New.trans (New.drew _) hW) BP1.lt));obtain⟨wa,hwa⟩:∃wa,wa=W1.drew:=⟨_,rfl⟩;have ba:New W1 wa:=by rw[hwa];exact New.drew _
    rw[<-hwa] at F⊢;clear hwa;repeat(first
     |(refine za1 rfl rfl (v:=?_) (fun W hQ=>?_) ?_;rotate_left;(obtain⟨F1,F2⟩:=F.out W hQ;obtain⟨y0,y1,y2⟩:=zaf F1;obtain⟨x0,x1,x2,x3,x4,x5,x6,x7,x8,x9,x10,x11,x12,x13⟩:=zci F2;clear F1 F2;go_simp<;> with_reducible rfl);simp only[Act.put,List.setIfInBounds_toArray,List.set_cons_zero,List.set_cons_succ])
     |(refine zjw rfl rfl ?_;simp only[Act.put,List.setIfInBounds_toArray,List.set_cons_zero,List.set_cons_succ]))
    refine zc3 ?_;clear F;go_wp2_with fail
    go_ret2
    exact⟨New.trans N0.out (New.trans b1 ba),.inr ⟨HNO.out,rfl⟩⟩
  ·have HNO:Hid (∀l,¬SheOk t nu (sz,rw,n,bb,(p1,p2,p3,p4,p5),(q1,q2,q3,q4,q5)) b l):=Hz (fun l2 hl=>e1 hl.2.1)
   have q8:((b.length:Int) != sz)=true:=by simpa using e1
   clear hpg hk e1;go_wp2_with fail
   refine zat New [(true,0),(true,1),(true,2),(true,3),(true,4),(true,5),(true,6),(true,7),(true,8),(true,9),(true,10),(true,11),(true,12),(true,13),(true,14),(true,15),(true,16),(true,17),(true,18),(true,19),(true,21),(true,22),(false,20),(true,23),(true,24)]
    New.refl New.trans (by kernel_rfl) (by kernel_rfl) (by kernel_rfl) (by kernel_rfl) ?_
   have F:=Hz (fun(W:World) (hW:New W1.drew W)=>And.intro (BC1.below (New.trans (New.drew _) hW) BC1.lt) (BP1.below (New.trans (New.drew _) hW) BP1.lt));obtain⟨wa,hwa⟩:∃wa,wa=W1.drew:=⟨_,rfl⟩;have ba:New W1 wa:=by rw[hwa];exact New.drew _
   rw[<-hwa] at F⊢;clear hwa;repeat(first
    |(refine za1 rfl rfl (v:=?_) (fun W hQ=>?_) ?_;rotate_left;(obtain⟨F1,F2⟩:=F.out W hQ;obtain⟨y0,y1,y2⟩:=zaf F1;obtain⟨x0,x1,x2,x3,x4,x5,x6,x7,x8,x9,x10,x11,x12,x13⟩:=zci F2;clear F1 F2;go_simp<;> with_reducible rfl);simp only[Act.put,List.setIfInBounds_toArray,List.set_cons_zero,List.set_cons_succ])
    |(refine zjw rfl rfl ?_;simp only[Act.put,List.setIfInBounds_toArray,List.set_cons_zero,List.set_cons_succ]))
   refine zc3 ?_;clear F;go_wp2_with fail
   go_ret2
   exact⟨New.trans N0.out (New.trans b1 ba),.inr ⟨HNO.out,rfl⟩⟩
open Go.RowKit Go.Hm
theorem qis{t:Int}{nu:Bool}{e:Int}{l:List zab}(h:ckE t nu e l=0):(0<=t/\t<=3)/\l.length<=65536/\(∀c∈l,zac c t nu=true)/\fitsV t (encOf t e l)=true:=by
 unfold ckE at h;split at h
 ·omega
 ·rename_i h1
  split at h
  ·omega
  ·rename_i h2
   split at h
   ·rename_i h3
    rw[List.all_eq_true] at h3;have ht:0<=t/\t<=3:=by
     by_cases q:0<=t/\t<=3
     ·exact q
     ·exact absurd (.inl q) h1
    refine⟨ht,by omega,h3,?_⟩;unfold encOf;split
    ·exact(zov (zxi ht (by omega) h3)).1
    ·rename_i he
     cases hf:fitsV t e with
     |true=>rfl
     |false=>exact absurd (.inr ⟨he,hf⟩) h1
   ·omega
theorem z3f{l:List zab}(h:∀y∈l,CellFine y):∀y∈zbz l,CellFine y:=fun y hy=>h y (by unfold zbz at hy;exact(List.mem_filter.1 hy).1)
set_option maxRecDepth 100000 in
theorem zyf{w:World}{cn:List Nat}{t:Int}{nu:Bool}{e:Int}{A:Option Addr}{n c:Nat}{L:List zab}(h:Reads w w.heap.size 5 A n (recs zam L))(hL:∀y∈L,CellFine y)(hn:n<=4611686018427387903):
 Calls Tryz.prog 100 #[.agg #[.string (zad cn),.int .i64 t,.bool nu],.int .i64 e,.slice A n c] w (zgn (pgE t nu e L) w):=by
 obtain rfl:=h.lenCell;have n1:New w (w.alloc (.cells #[.string (zad cn),.int .i64 t,.bool nu] 70)):=(Below.refl _ _).alloc (Nat.le_refl _) _;have g1:Blk (w.alloc (.cells #[.string (zad cn),.int .i64 t,.bool nu] 70)) w.heap.size 70 #[.string (zad cn),.int .i64 t,.bool nu]:=Blk.new _ _ _;have HD:Hid (∀y∈L,zai y):=Hz (fun y hy=>zkw (hL y hy));have CK:=Hz (z20 (cn:=cn) (t:=t) (nu:=nu) (e:=e) (c:=c) (Reads.later h n1) (fun y hy=>(hL y hy).1.1) hn);have HP:=Hz (qhp t nu e L);have HX:=Hz (fun k b=>zth (t:=t) (nu:=nu) (e:=e) (l:=L) (b:=b) (k:=k) HD.out);have H0:=Hz (@qis t nu e L);have HR:=Hz (Reads.later h n1);have HF:=Hz hL;have HE:Hid (encOf t e L=if e= -1 then bestV t (zbz L) else e):=Hz rfl;generalize hX:pgE t nu e L=X at*;generalize ckE t nu e L=M at*;generalize encOf t e L=E at*;have N1:=Hz n1;have G1:=Hz g1;obtain⟨c0,c1,c2⟩:=zaf g1;clear h hL g1 n1 hX;go_enter Tryz.func100,Tryz.ntmps100
 go_wp2_with fail
 refine CK.out.mono ?_;rintro e W1 ⟨rfl,b1⟩;clear CK c0 c1 c2;by_cases hm:M=0
 ·subst hm
  obtain⟨ht,hl6,hr,hf⟩:=H0.out rfl;have hp:=HP.out;rw[if_pos rfl] at hp;replace HP:=Hz hp;clear hp H0;have hfe:=(zf0 hf).1;obtain⟨q,rfl⟩:=Int.eq_ofNat_of_zero_le hfe.1;have hvl:=znj L;have SP:=Hz (zqm (c:=c) (Reads.later HR.out b1) hl6);have VE:Hid (zx1 t (q:Int) (zbz L)=match zdh t (q:Int) (zbz L) with|some d=>(0,d)|none=>(1,[])):=Hz (by unfold zx1;rw[if_pos hf];generalize zdh t (q:Int) (zbz L)=Z;cases Z<;> rfl);have VL:Hid (∀d,zdh t (q:Int) (zbz L)=some d->d.length<=100000000000):=Hz (fun d hd=>zz8 (ziq HD.out) hd);have HVF:=Hz (z3f HF.out);have HS:=Hz (zrx hl6);have HVL:=Hz (zaj (n:=L.length) (by omega));have hq4:q<=4:=by omega
  clear hr hf hfe ht;go_wp2_with fail
  refine SP.out.mono ?_;rintro e W2 ⟨A1,m1,k1,A2,m2,k2,rfl,o1,o2,b2⟩;clear SP;have R2:=Hz (Reads.of_own o2);have b12:=New.trans b1 b2;obtain⟨c0,c1,c2⟩:=zaf (G1.out.below b12 G1.out.lt);have hm2:m2<=65536:=by have:=R2.out.lenCell;omega
  by_cases he:e= -1
  ·subst he
   have hE:=HE.out;rw[if_pos rfl] at hE;have B:=Hz (z7v (t:=t) (c:=k2) R2.out HVF.out hm2);rw[<-hE] at B;clear hE;go_wp2_with fail
   refine B.out.mono ?_;rintro e W3 ⟨rfl,b3⟩;clear B;have V:=Hz (zj9 (t:=t) (e:=(q:Int)) (c:=k2) (Reads.later R2.out b3) HVF.out hm2);have b13:=New.trans b12 b3;clear c0 c1 c2;obtain⟨c0,c1,c2⟩:=zaf (G1.out.below b13 G1.out.lt);obtain rfl:m1=(zb3 L).length:=by simpa[za3] using o1.len
   have R1:=Hz (BytIn.later (show BytIn W2 (A1,k1,zb3 L) from o1.reads) b3);generalize zdh t (q:Int) (zbz L)=Y at*;generalize zx1 t (q:Int) (zbz L)=Z at*;go_wp2_with fail
   refine V.out.mono ?_;rintro e W4 ⟨A3,m3,k3,rfl,o3,b4⟩;clear V;have b14:=New.trans b13 b4;clear c0 c1 c2;obtain⟨c0,c1,c2⟩:=zaf (G1.out.below b14 G1.out.lt);cases Y with
   |none=>
    have hz:Z=(1,[]):=VE.out;have hx:X=(1,[]):=HP.out;subst hz hx;go_wp2_with fail
    go_ret2
    exact⟨none,0,0,rfl,Own.nil_,New.trans N1.out b14⟩
   |some d=>
    have hz:Z=(0,d):=VE.out;have hx:X=(0,q::(vp L.length++((if nu=true then zb3 L else [])++d))):=HP.out;subst hz;have hdl:=VL.out d rfl;obtain rfl:m3=d.length:=by simpa[za3] using o3.len
    have R3:=Hz (show BytIn W4 (A3,k3,d) from o3.reads);have R1b:=Hz (BytIn.later R1.out b4);obtain⟨c3,hc3⟩:∃c3:Value,c3= .int .u8 (q:Int):=⟨_,rfl⟩;have iw:IntKind.u8.wrap (q:Int)=(q:Int):=by rw[IntKind.wrap_u8];omega
    have n5:New W4 (W4.alloc (.cells #[.int .u8 (q:Int)] 5)):=(Below.refl _ _).alloc (Nat.le_refl _) _;have R5:Hid (BytIn (W4.alloc (.cells #[.int .u8 (q:Int)] 5)) (some ⟨W4.heap.size,0,none⟩,1,[q])):=Hz (Reads.litV _ _ _ 1 _ rfl rfl);have P:=Hz (zcx none 0 0 [] L.length (W4.alloc (.cells #[.int .u8 (q:Int)] 5)) Reads.none_ (by omega) (by omega));have iz:IntKind.u64.wrap (L.length:Int)=(L.length:Int):=by rw[IntKind.wrap_u64];omega
    clear hc3 c3;cases nu with
    |false=>
     go_wp2_with fail
     refine P.out.mono ?_;rintro e W5 ⟨A5,m5,k5,rfl,o5,b5⟩;clear P;rw[List.nil_append] at o5;obtain rfl:m5=(vp L.length).length:=by simpa[za3] using o5.len
     have R6:=Hz (show BytIn W5 (A5,k5,vp L.length) from o5.reads);have n6:New W5 (W5.alloc (.cells #[.slice (some ⟨W4.heap.size,0,none⟩) 1 1,.slice A5 (vp L.length).length k5,.slice none 0 0,.slice A3 d.length k3] 31)):=(Below.refl _ _).alloc (Nat.le_refl _) _;have hfd:zda [(some ⟨W4.heap.size,0,none⟩,1,[q]),(A5,k5,vp L.length),(none,0,[]),(A3,k3,d)]=q::(vp L.length++d):=by simp[zda]
     have C:=Hz (zf4 (w:=W5.alloc (.cells #[.slice (some ⟨W4.heap.size,0,none⟩) 1 1,.slice A5 (vp L.length).length k5,.slice none 0 0,.slice A3 d.length k3] 31)) (c:=4) (D:=[(some ⟨W4.heap.size,0,none⟩,1,[q]),(A5,k5,vp L.length),(none,0,[]),(A3,k3,d)]) (Reads.litV _ _ _ 4 _ rfl rfl) (by
      intro x hx;rcases List.mem_cons.1 hx with rfl|hx
      ·exact BytIn.later R5.out (New.trans b5 n6)
      rcases List.mem_cons.1 hx with rfl|hx
      ·exact BytIn.later R6.out n6
      rcases List.mem_cons.1 hx with rfl|hx
      ·exact Reads.none_
      obtain rfl:=List.mem_singleton.1 hx;exact BytIn.later R3.out (New.trans n5 (New.trans b5 n6))) (by omega) (by rw[hfd];have:=HVL.out;simp only[List.length_cons,List.length_append];omega))
     rw[hfd] at C;have HC:Hid (X=(0,q::(vp L.length++d))):=Hz (hx.trans (by simp));clear hx hfd;generalize vp L.length=vL at*;go_wp2_with fail
     refine C.out.mono ?_;rintro e W6 ⟨A6,m6,k6,rfl,o6,b6⟩;clear C;go_wp2_with fail
     go_ret2
     rw[HC.out];exact⟨A6,m6,k6,rfl,o6.base_le (by have:=N1.out.size;have:=b14.size;have:=n5.size;have:=b5.size;have:=n6.size;omega),New.trans N1.out (New.trans b14 (New.trans n5 (New.trans b5 (New.trans n6 b6))))⟩
    |true=>
     go_wp2_with fail
     refine P.out.mono ?_;rintro e W5 ⟨A5,m5,k5,rfl,o5,b5⟩;clear P;rw[List.nil_append] at o5;obtain rfl:m5=(vp L.length).length:=by simpa[za3] using o5.len
     have R6:=Hz (show BytIn W5 (A5,k5,vp L.length) from o5.reads);have n6:New W5 (W5.alloc (.cells #[.slice (some ⟨W4.heap.size,0,none⟩) 1 1,.slice A5 (vp L.length).length k5,.slice A1 (zb3 L).length k1,.slice A3 d.length k3] 31)):=(Below.refl _ _).alloc (Nat.le_refl _) _;have hfd:zda [(some ⟨W4.heap.size,0,none⟩,1,[q]),(A5,k5,vp L.length),(A1,k1,zb3 L),(A3,k3,d)]=q::(vp L.length++(zb3 L++d)):=by simp[zda]
     have C:=Hz (zf4 (w:=W5.alloc (.cells #[.slice (some ⟨W4.heap.size,0,none⟩) 1 1,.slice A5 (vp L.length).length k5,.slice A1 (zb3 L).length k1,.slice A3 d.length k3] 31)) (c:=4) (D:=[(some ⟨W4.heap.size,0,none⟩,1,[q]),(A5,k5,vp L.length),(A1,k1,zb3 L),(A3,k3,d)]) (Reads.litV _ _ _ 4 _ rfl rfl) (by
      intro x hx;rcases List.mem_cons.1 hx with rfl|hx
      ·exact BytIn.later R5.out (New.trans b5 n6)
      rcases List.mem_cons.1 hx with rfl|hx
      ·exact BytIn.later R6.out n6
      rcases List.mem_cons.1 hx with rfl|hx
      ·exact BytIn.later R1b.out (New.trans n5 (New.trans b5 n6))
      obtain rfl:=List.mem_singleton.1 hx;exact BytIn.later R3.out (New.trans n5 (New.trans b5 n6))) (by omega) (by rw[hfd];have:=HVL.out;have:=HS.out;simp only[List.length_cons,List.length_append];omega))
     rw[hfd] at C;have HC:Hid (X=(0,q::(vp L.length++(zb3 L++d)))):=Hz (hx.trans (by simp));clear hx hfd;generalize vp L.length=vL at*;generalize zb3 L=sL at*;go_wp2_with fail
     refine C.out.mono ?_;rintro e W6 ⟨A6,m6,k6,rfl,o6,b6⟩;clear C;go_wp2_with fail
     go_ret2
     rw[HC.out];exact⟨A6,m6,k6,rfl,o6.base_le (by have:=N1.out.size;have:=b14.size;have:=n5.size;have:=b5.size;have:=n6.size;omega),New.trans N1.out (New.trans b14 (New.trans n5 (New.trans b5 (New.trans n6 b6))))⟩
  ·have hE:=HE.out
   rw[if_neg he] at hE;subst hE;have i1:((q:Int)== -1)=false:=beq_eq_false_iff_ne.2 (by omega);have b3:New W2 W2:=New.refl _;clear he;have V:=Hz (zj9 (t:=t) (e:=(q:Int)) (c:=k2) (Reads.later R2.out b3) HVF.out hm2);have b13:=New.trans b12 b3;clear c0 c1 c2;obtain⟨c0,c1,c2⟩:=zaf (G1.out.below b13 G1.out.lt);obtain rfl:m1=(zb3 L).length:=by simpa[za3] using o1.len
   have R1:=Hz (BytIn.later (show BytIn W2 (A1,k1,zb3 L) from o1.reads) b3);generalize zdh t (q:Int) (zbz L)=Y at*;generalize zx1 t (q:Int) (zbz L)=Z at*;go_wp2_with fail
   refine V.out.mono ?_;rintro e W4 ⟨A3,m3,k3,rfl,o3,b4⟩;clear V;have b14:=New.trans b13 b4;clear c0 c1 c2;obtain⟨c0,c1,c2⟩:=zaf (G1.out.below b14 G1.out.lt);cases Y with
   |none=>
    have hz:Z=(1,[]):=VE.out;have hx:X=(1,[]):=HP.out;subst hz hx;go_wp2_with fail
    go_ret2
    exact⟨none,0,0,rfl,Own.nil_,New.trans N1.out b14⟩
   |some d=>
    have hz:Z=(0,d):=VE.out;have hx:X=(0,q::(vp L.length++((if nu=true then zb3 L else [])++d))):=HP.out;subst hz;have hdl:=VL.out d rfl;obtain rfl:m3=d.length:=by simpa[za3] using o3.len
    have R3:=Hz (show BytIn W4 (A3,k3,d) from o3.reads);have R1b:=Hz (BytIn.later R1.out b4);obtain⟨c3,hc3⟩:∃c3:Value,c3= .int .u8 (q:Int):=⟨_,rfl⟩;have iw:IntKind.u8.wrap (q:Int)=(q:Int):=by rw[IntKind.wrap_u8];omega
    have n5:New W4 (W4.alloc (.cells #[.int .u8 (q:Int)] 5)):=(Below.refl _ _).alloc (Nat.le_refl _) _;have R5:Hid (BytIn (W4.alloc (.cells #[.int .u8 (q:Int)] 5)) (some ⟨W4.heap.size,0,none⟩,1,[q])):=Hz (Reads.litV _ _ _ 1 _ rfl rfl);have P:=Hz (zcx none 0 0 [] L.length (W4.alloc (.cells #[.int .u8 (q:Int)] 5)) Reads.none_ (by omega) (by omega));have iz:IntKind.u64.wrap (L.length:Int)=(L.length:Int):=by rw[IntKind.wrap_u64];omega
    clear hc3 c3;cases nu with
    |false=>
     go_wp2_with fail
     refine P.out.mono ?_;rintro e W5 ⟨A5,m5,k5,rfl,o5,b5⟩;clear P;rw[List.nil_append] at o5;obtain rfl:m5=(vp L.length).length:=by simpa[za3] using o5.len
     have R6:=Hz (show BytIn W5 (A5,k5,vp L.length) from o5.reads);have n6:New W5 (W5.alloc (.cells #[.slice (some ⟨W4.heap.size,0,none⟩) 1 1,.slice A5 (vp L.length).length k5,.slice none 0 0,.slice A3 d.length k3] 31)):=(Below.refl _ _).alloc (Nat.le_refl _) _;have hfd:zda [(some ⟨W4.heap.size,0,none⟩,1,[q]),(A5,k5,vp L.length),(none,0,[]),(A3,k3,d)]=q::(vp L.length++d):=by simp[zda]
     have C:=Hz (zf4 (w:=W5.alloc (.cells #[.slice (some ⟨W4.heap.size,0,none⟩) 1 1,.slice A5 (vp L.length).length k5,.slice none 0 0,.slice A3 d.length k3] 31)) (c:=4) (D:=[(some ⟨W4.heap.size,0,none⟩,1,[q]),(A5,k5,vp L.length),(none,0,[]),(A3,k3,d)]) (Reads.litV _ _ _ 4 _ rfl rfl) (by
      intro x hx;rcases List.mem_cons.1 hx with rfl|hx
      ·exact BytIn.later R5.out (New.trans b5 n6)
      rcases List.mem_cons.1 hx with rfl|hx
      ·exact BytIn.later R6.out n6
      rcases List.mem_cons.1 hx with rfl|hx
      ·exact Reads.none_
      obtain rfl:=List.mem_singleton.1 hx;exact BytIn.later R3.out (New.trans n5 (New.trans b5 n6))) (by omega) (by rw[hfd];have:=HVL.out;simp only[List.length_cons,List.length_append];omega))
     rw[hfd] at C;have HC:Hid (X=(0,q::(vp L.length++d))):=Hz (hx.trans (by simp));clear hx hfd;generalize vp L.length=vL at*;go_wp2_with fail
     refine C.out.mono ?_;rintro e W6 ⟨A6,m6,k6,rfl,o6,b6⟩;clear C;go_wp2_with fail
     go_ret2
     rw[HC.out];exact⟨A6,m6,k6,rfl,o6.base_le (by have:=N1.out.size;have:=b14.size;have:=n5.size;have:=b5.size;have:=n6.size;omega),New.trans N1.out (New.trans b14 (New.trans n5 (New.trans b5 (New.trans n6 b6))))⟩
    |true=>
     go_wp2_with fail
     refine P.out.mono ?_;rintro e W5 ⟨A5,m5,k5,rfl,o5,b5⟩;clear P;rw[List.nil_append] at o5;obtain rfl:m5=(vp L.length).length:=by simpa[za3] using o5.len
     have R6:=Hz (show BytIn W5 (A5,k5,vp L.length) from o5.reads);have n6:New W5 (W5.alloc (.cells #[.slice (some ⟨W4.heap.size,0,none⟩) 1 1,.slice A5 (vp L.length).length k5,.slice A1 (zb3 L).length k1,.slice A3 d.length k3] 31)):=(Below.refl _ _).alloc (Nat.le_refl _) _;have hfd:zda [(some ⟨W4.heap.size,0,none⟩,1,[q]),(A5,k5,vp L.length),(A1,k1,zb3 L),(A3,k3,d)]=q::(vp L.length++(zb3 L++d)):=by simp[zda]
     have C:=Hz (zf4 (w:=W5.alloc (.cells #[.slice (some ⟨W4.heap.size,0,none⟩) 1 1,.slice A5 (vp L.length).length k5,.slice A1 (zb3 L).length k1,.slice A3 d.length k3] 31)) (c:=4) (D:=[(some ⟨W4.heap.size,0,none⟩,1,[q]),(A5,k5,vp L.length),(A1,k1,zb3 L),(A3,k3,d)]) (Reads.litV _ _ _ 4 _ rfl rfl) (by
      intro x hx;rcases List.mem_cons.1 hx with rfl|hx
      ·exact BytIn.later R5.out (New.trans b5 n6)
      rcases List.mem_cons.1 hx with rfl|hx
      ·exact BytIn.later R6.out n6
      rcases List.mem_cons.1 hx with rfl|hx
      ·exact BytIn.later R1b.out (New.trans n5 (New.trans b5 n6))
      obtain rfl:=List.mem_singleton.1 hx;exact BytIn.later R3.out (New.trans n5 (New.trans b5 n6))) (by omega) (by rw[hfd];have:=HVL.out;have:=HS.out;simp only[List.length_cons,List.length_append];omega))
     rw[hfd] at C;have HC:Hid (X=(0,q::(vp L.length++(zb3 L++d)))):=Hz (hx.trans (by simp));clear hx hfd;generalize vp L.length=vL at*;generalize zb3 L=sL at*;go_wp2_with fail
     refine C.out.mono ?_;rintro e W6 ⟨A6,m6,k6,rfl,o6,b6⟩;clear C;go_wp2_with fail
     go_ret2
     rw[HC.out];exact⟨A6,m6,k6,rfl,o6.base_le (by have:=N1.out.size;have:=b14.size;have:=n5.size;have:=b5.size;have:=n6.size;omega),New.trans N1.out (New.trans b14 (New.trans n5 (New.trans b5 (New.trans n6 b6))))⟩
 ·have hp:=HP.out
  rw[if_neg hm] at hp;subst hp;have i1:(M==0)=false:=by simpa using hm
  clear hm;go_wp2_with fail
  go_ret2
  exact⟨none,0,0,rfl,Own.nil_,New.trans N1.out b1⟩
open Go.RowKit Go.Hm
theorem qdh{p:List Nat}(hw:∀x∈p,x<=18446744073709551615)(hl:p.length<=65536):(encP p).length<=22+8*p.length:=by
 have a:=zjo p hw;have e1:=zaj (n:=2*p.length) (by omega);have e2:=zaj (n:=2*p.length+1) (by omega);have e3:(vp (p.getD 0 0)).length<=10:=by
  refine zaj ?_;rw[List.getD_eq_getElem?_getD];cases h:p[0]? with
  |none=>simp
  |some x=>
   have:=hw x (List.mem_of_getElem? h);simp;omega
 have m:=Nat.mul_le_mul_right p.length a;unfold encP;split
 ·rw[List.length_append];omega
 ·rw[List.length_append,List.length_cons,zbg];omega
theorem zh7:∀ps:List (List Nat),(∀p∈ps,0<p.length/\(encP p).length<=22+8*p.length)->(ps.flatMap encP).length<=30*ps.flatten.length
 | [],_=>by simp
 |p::ps,h=>by
  have:=zh7 ps fun q hq=>h q (by simp[hq])
  have:=h p (by simp);rw[List.flatMap_cons,List.flatten_cons,List.length_append,List.length_append];omega
theorem z0x{l:List Nat}(hw:∀x∈l,x<=18446744073709551615)(hl:l.length<=65536):(encL l).length<=30*l.length:=by
 have:=zh7 (pcs l) fun p hp=>⟨(z5b l p hp).1,qdh (zlq hw hp).1 (Nat.le_trans (zlq hw hp).2 hl)⟩
 rwa[zks] at this
theorem zts{l:List Int}{b:List Nat}(hl:∀x∈l,zew x)(h:zjq l=some b):b.length<=10+268*l.length:=by
 have h0:=zf8 h;unfold zjq at h;rw[if_neg (by omega)] at h;split at h
 ·injection h with h
  subst h;simp
 ·injection h with h
  subst h;have h1:=zaj (zjp (hl _ (zg0 (show 0<l.length by omega))));have h2:=zf7 (zgy l) (nblk (l.length-1)) (by rw[zea];exact Nat.le_refl _);have h3:nblk (l.length-1)<=l.length:=by unfold nblk;omega
  rw[List.length_append];omega
theorem z84{t:Int}{l:List zab}(h:∀c∈l,zac c t false=true):(plB t l).length<=21*l.length+fsum (zbi l):=by
 unfold plB;split
 ·rw[zbg];omega
 ·have key:∀l:List zab,(∀c∈l,zac c t false=true)->(l.flatMap (plE t)).length<=21*l.length+fsum (zbi l):=by
   intro l;induction l with
   |nil=>intro _;simp
   |cons c l ih=>
    intro h;have a:=ih fun d hd=>h d (by simp[hd])
    have b:=zln (h c (by simp));have e:fsum (zbi (c::l))=c.2.2.1.length+fsum (zbi l):=by unfold zbi;rw[List.map_cons,zfx]
    rw[List.flatMap_cons,List.length_append,List.length_cons,e];omega
  exact key l h
theorem z85:∀l:List zab,∀k,k<=l.length->fsum (zbi (ze7 (l.take k)).1)<=fsum (zbi (l.take k))
 |l,0,_=>by simp[ze7]
 |l,k+1,hk=>by
  have ih:=z85 l k (by omega);rw[zae l k zfs (by omega),zfu];have e:fsum (zbi (l.take k++[l.getD k zfs]))=fsum (zbi (l.take k))+(l.getD k zfs).2.2.1.length:=by unfold zbi;rw[List.map_append,zer];simp[fsum]
  rw[e];unfold zft;split
  ·dsimp only;omega
  ·have e2:fsum (zbi ((ze7 (l.take k)).1++[l.getD k zfs]))=fsum (zbi (ze7 (l.take k)).1)+(l.getD k zfs).2.2.1.length:=by
    unfold zbi;rw[List.map_append,zer];simp[fsum]
   dsimp only;rw[e2];omega
theorem z86{t:Int}{l:List zab}{b:List Nat}(h:zg2 t l=some b):b.length<=20+51*l.length+fsum (zbi l):=by
 unfold zg2 at h;split at h
 ·cases h
 ·rename_i V hV
  split at h
  ·rename_i hl
   injection h with h;have p1:=(zj1 l).len;have e1:=zii l;have hs:=z85 l l.length (Nat.le_refl _);rw[List.take_length] at hs;have v1:V.length<=21*(ze7 l).1.length+fsum (zbi (ze7 l).1):=by rw[<-(plO_iff.1 hV).2];exact z84 (plOk_iff.1 (plO_iff.1 hV).1).2
   have v2:V.length<=4300000000:=by rw[<-(plO_iff.1 hV).2];exact zsp (plO_iff.1 hV).1
   have el:=z0x (zij hl) (by omega);have a:=zaj (n:=(ze7 l).1.length) (by omega);have b:=zaj (n:=V.length) (by omega);rw[<-h];simp only[List.length_append];omega
  ·cases h
theorem qdi{t e:Int}{l:List zab}{b:List Nat}(hd:∀c∈l,zai c)(h:zdh t e l=some b):b.length<=30+536*l.length+fsum (zbi l):=by
 have hok:=zlw h;have hl:=(plOk_iff.1 hok).1.2.2;unfold zdh at h;split at h
 ·have:=z84 (plOk_iff.1 hok).2
  rw[<-(plO_iff.1 h).2];omega
 ·split at h
  ·have:=z86 h
   omega
  ·try rw[if_pos hok] at h
   split at h
   ·injection h with h
    have:=z0x (zio hd) (by unfold zee;rw[List.length_map];exact hl);rw[show(zee l).length=l.length by unfold zee;rw[List.length_map]] at this;rw[<-h];omega
   ·split at h
    ·split at h
     ·rename_i ht
      obtain⟨d1,d2⟩:=ztg hok ht;unfold encPts at h;split at h
      ·rename_i x y hx hy
       have a1:=zts d1 hx;have a2:=zts d2 hy;have a4:=zf9 d1 hx;rw[zgk] at a1 a2;have x1:(xsV l).length=l.length:=by unfold xsV;rw[List.length_map]
       have y1:(ysV l).length=l.length:=by unfold ysV;rw[List.length_map]
       have a3:=zaj (n:=x.length) (by omega);injection h with h;rw[<-h,List.length_append,List.length_append];omega
      ·cases h
     ·have:=zts (zz7 hd) h
      rw[show(ze4 l).length=l.length by unfold ze4;rw[List.length_map]] at this;omega
    ·unfold ztt at h
     split at h
     ·rename_i hf
      obtain⟨f1,f2,f3⟩:=(zej _).1 hf;have:=zsr [] (zbi l) f2;rw[show(zbi l).length=l.length by unfold zbi;rw[List.length_map]] at this;injection h with h;rw[<-h];omega
     ·cases h
theorem qdj{t e:Int}{l:List zab}(hok:zhs t l=true)(hs:fsum (zbi l)<=16777216):∃b,zdh t e l=some b:=by
 obtain⟨⟨h0,h1,h2⟩,h3⟩:=plOk_iff.1 hok;have hP:∃b,plO t l=some b:=⟨_,plO_iff.2 ⟨hok,rfl⟩⟩;unfold zdh;split
 ·exact hP
 ·split
  ·have hE:zhs t (ze7 l).1=true:=plOk_iff.2 ⟨⟨h0,h1,Nat.le_trans (zii l) h2⟩,fun c hc=>h3 c ((zgd l c).1 hc)⟩
   unfold zg2;rw[plO_iff.2 ⟨hE,rfl⟩];dsimp only;rw[if_pos h2];exact⟨_,rfl⟩
  ·try rw[if_pos hok]
   split
   ·exact⟨_,rfl⟩
   ·split
    ·split
     ·obtain⟨a,ha⟩:=zk8 (l:=zjk 0 (xsV l)) (by rw[zgk];unfold xsV;rw[List.length_map];exact h2)
      obtain⟨b,hb⟩:=zk8 (l:=zjk 0 (ysV l)) (by rw[zgk];unfold ysV;rw[List.length_map];exact h2);unfold encPts;rw[ha,hb];exact⟨_,rfl⟩
     ·exact zk8 (by unfold ze4;rw[List.length_map];exact h2)
    ·unfold ztt
     rw[if_pos ((zej _).2 ⟨by unfold zbi;rw[List.length_map];exact h2,fun s hs=>by obtain⟨c,hc,rfl⟩:=List.mem_map.1 hs;exact zg1 (h3 c hc),hs⟩)];exact⟨_,rfl⟩
theorem qdk(l:List zab):fsum (zbi (zbz l))<=fsum (zbi l):=by
 unfold zbz;induction l with
 |nil=>simp[zbi,fsum]
 |cons c l ih=>
  have e:fsum (zbi (c::l))=c.2.2.1.length+fsum (zbi l):=by unfold zbi;rw[List.map_cons,zfx]
  rw[List.filter_cons];split
  ·have e2:fsum (zbi (c::l.filter fun c=> !c.1))=c.2.2.1.length+fsum (zbi (l.filter fun c=> !c.1)):=by unfold zbi;rw[List.map_cons,zfx]
   rw[e,e2];omega
  ·rw[e]
   omega
theorem qgk{t:Int}{nu:Bool}{e:Int}{l:List zab}(ht:0<=t/\t<=3)(he:zot t e)(hl:l.length<=65536)(hr:∀c∈l,zac c t nu=true)(hd:∀c∈l,zai c)(hs:fsum (zbi l)<=16777216):
 (pgE t nu e l).1=0/\(pgE t nu e l).2.length<=60+538*l.length+fsum (zbi l):=by
 have hok:=zxi ht hl hr;have hvl:=znj l;have hvs:=qdk l;have hv:∃b,zdh t (encOf t e l) (zbz l)=some b:=by
  unfold encOf;split
  ·exact(zov hok).2
  ·rename_i hne
   rcases he with h|h
   ·exact absurd h hne
   ·exact qdj hok (by omega)
 obtain⟨d,hv⟩:=hv;have hdl:=qdi (ziq hd) hv;have hsp:(zb3 l).length<=l.length+1:=by unfold zb3;rw[zbg,zek];omega
 have hvp:=zaj (n:=l.length) (by omega);unfold pgE;rw[if_neg (by
  rintro(h|⟨h1,h2⟩)
  ·exact h ht
  ·rcases he with h|h
   ·exact h1 h
   ·rw[h] at h2;cases h2),if_neg (by omega),if_pos (List.all_eq_true.2 hr),hv]
 refine⟨rfl,?_⟩;simp only[List.length_cons,List.length_append];split
 ·omega
 ·simp only[List.length_nil]
  omega
end Go.Proofs.Y
