/- Texts merged and made short: FilA, ValE, ValB. -/
import Derived.Test.YtmgfkpnghlmheaaGreatBun1
import Derived.Test.YtmgfkpnghlmheaaGreatBun16
import Derived.Test.YtmgfkpnghlmheaaGreatBun3
import Derived.Test.YtmgfkpnghlmheaaGreatBun35
import Derived.Test.YtmgfkpnghlmheaaGreatBun36
import Derived.Test.YtmgfkpnghlmheaaGreatBun5
import Derived.Test.YtmgfkpnghlmheaaGreatBun7
set_option maxHeartbeats 4000000
namespace Go.Proofs.YtmgfkpnghlmheaaGreat
open Go.RowKit Go.Hm
theorem zuz:Tryz.prog.underlying 31=some (.slice (Tryz.prog.elem 31)):=by kernel_rfl
theorem zu0(w:World):(sizeOf (Tryz.prog.elem 31)).run Tryz.prog w= .ok 1 w:=by kernel_rfl
theorem z6k{l:List Nat}(hl:∀x∈l,x<256):((zae l).toList== [72,89,80,79])=decide (l=headL_film):=by
 rw[←zhg hl (m:=headL_film) (by decide)];rw[show(zae headL_film).toList=[72,89,80,79] by simp[zae,headL_film]]
theorem z6l{l:List Nat}(hl:∀x∈l,x<256):((zae l).toList== [79,80,89,72])=decide (l=tailL):=by
 rw[←zhg hl (m:=tailL) (by decide)];rw[show(zae tailL).toList=[79,80,89,72] by simp[zae,tailL]]
def zlq(b:List Nat)(w:World)(e:Ending)(w':World):Prop:=
 New w w'∧match zon b with
 |none=>e= .returned (.tuple #[.slice none 0 0,.bool false])
 |some s=>∃A c,e= .returned (.tuple #[.slice A s.length c,.bool true])∧Reads w' w.heap.size 1 A s.length (za3 .u8 s)∧s.length≤c∧c≤9223372036854775807
set_option maxRecDepth 100000 in
theorem zu1{w:World}{A:Option Addr}{c:Nat}{b:List Nat}(h:Reads w w.heap.size 1 A b.length (za3 .u8 b))(h8:∀x∈b,x<256)(hb:b.length≤140737488351232)(hc:b.length≤c)(hc2:c≤9223372036854775807):
 Calls Tryz.prog 39 #[.slice A b.length c] w (zlq b w):=by
 have HR:=Hz h;by_cases h1:b.length<12
 ·have ho:zon b=none:=by unfold zon;rw[if_pos (.inl h1)]
  have i1:(b.length:Int)<12:=by omega
  go_enter Tryz.func39,Tryz.ntmps39
  go_wp2_with fail
  go_ret2
  unfold zlq;rw[ho];exact⟨New.refl _,rfl⟩
 ·have i1:(12:Int)≤(b.length:Int):=by omega
  have S1:(Instr.sliceAt 31 (.slice A b.length c) none (some (.int .i64 4)) none).run Tryz.prog w= .ok (.slice A 4 c) w:=qbp zuz zu0 A b.length c 4 (by omega) w
  have C1:=zf5 (c:=c) (show Reads w w.heap.size 1 A 4 (za3 .u8 (b.take 4)) by
   have:=h.take (k:=4) (by omega)
   rwa[show 4*1=4 from rfl,zfl] at this)
  have q1:=z6k (l:=b.take 4) (fun x hx=>h8 x (List.mem_of_mem_take hx));have hz1:=zbf (b.take 4);by_cases hH:b.take 4=headL_film
  ·rw[decide_eq_true hH] at q1
   have S2:(Instr.sliceAt 31 (.slice A b.length c) (some (.int .i64 ((b.length:Int)-4))) none none).run Tryz.prog w= .ok (.slice (if c=b.length-4 then A else A.map (·.add ((b.length-4)*1))) (b.length-(b.length-4)) (c-(b.length-4))) w:=by
    have:=zsp zuz zu0 A b.length c (b.length-4) (by omega) w;rwa[show((b.length-4:Nat):Int)=(b.length:Int)-4 by omega] at this
   have C2:=zf5 (c:=c-(b.length-4)) (show Reads w w.heap.size 1 (if c=b.length-4 then A else A.map (·.add ((b.length-4)*1))) (b.length-(b.length-4)) (za3 .u8 (b.drop (b.length-4))) by
    have:=h.cut (k:=b.length-4) (cap:=c) (by omega) hc
    simpa only[Nat.mul_one,zez] using this)
   have q2:=z6l (l:=b.drop (b.length-4)) (fun x hx=>h8 x (List.mem_of_mem_drop hx));generalize hA2:(if c=b.length-4 then A else A.map (·.add ((b.length-4)*1)))=A2 at*;have HA2:=Hz hA2;generalize hD2:b.drop (b.length-4)=D2 at*;have HD2:=Hz hD2;generalize hN4:b.length-4=N4 at*;have HN4:=Hz hN4;have HH:=Hz hH;clear hA2 hD2 hN4 hH;by_cases hT:D2=tailL
   ·rw[decide_eq_true hT] at q2
    subst hT
    have S3:(Instr.sliceAt 31 (.slice A b.length c) (some (.int .i64 ((b.length:Int)-4-4))) (some (.int .i64 ((b.length:Int)-4))) none).run Tryz.prog w= .ok (.slice (if c=b.length-8 then A else A.map (·.add ((b.length-8)*1))) 4 (c-(b.length-8))) w:=by
     have:=zg4 zuz zu0 A b.length c (b.length-8) (b.length-4) (by omega) (by omega) w;rwa[show((b.length-8:Nat):Int)=(b.length:Int)-4-4 by omega,show((b.length-4:Nat):Int)=(b.length:Int)-4 by omega,show b.length-4-(b.length-8)=4 by omega] at this
    have hd4:((b.drop (b.length-8)).take 4).length=4:=by rw[List.length_take,List.length_drop];omega
    have R3:Reads w w.heap.size 1 (if c=b.length-8 then A else A.map (·.add ((b.length-8)*1))) 4 (za3 .u8 ((b.drop (b.length-8)).take 4)):=by
     have:=(h.cut (k:=b.length-8) (cap:=c) (by omega) hc).take (k:=4) (by omega);simpa only[Nat.mul_one,zez,zfl] using this
    have h48:∀x∈(b.drop (b.length-8)).take 4,x<256:=fun x hx=>h8 x (List.mem_of_mem_drop (List.mem_of_mem_take hx))
    have R3':Reads w w.heap.size 1 (if c=b.length-8 then A else A.map (·.add ((b.length-8)*1))) ((b.drop (b.length-8)).take 4).length (za3 .u8 ((b.drop (b.length-8)).take 4)):=by rw[hd4];exact R3
    have C:=Hz (zfb (c:=c-(b.length-8)) R3' (by omega) h48);rw[hd4] at C;have hnl:=zqb _ h48;rw[hd4] at hnl;have hN:num ((b.drop (b.length-8)).take 4)=ownN b:=rfl;rw[hN] at hnl;have hnl2:ownN b<4294967296:=hnl;generalize hA3:(if c=b.length-8 then A else A.map (·.add ((b.length-8)*1)))=A3 at*;generalize hD4:(b.drop (b.length-8)).take 4=D4 at*;have HD4:=Hz hD4;have HN:=Hz hN;have HL4:=Hz hd4
    have S4:Hid (∀W,ownN b≤b.length-12→(Instr.sliceAt 31 (.slice A b.length c) (some (.int .i64 ((b.length:Int)-4-4-(ownN b:Int)))) (some (.int .i64 ((b.length:Int)-4-4))) none).run Tryz.prog W= .ok (.slice (if c=b.length-8-ownN b then A else A.map (·.add ((b.length-8-ownN b)*1))) (ownN b) (c-(b.length-8-ownN b))) W):=Hz (fun W hW=>by
     have:=zg4 zuz zu0 A b.length c (b.length-8-ownN b) (b.length-8) (by omega) (by omega) W
     rwa[show((b.length-8-ownN b:Nat):Int)=(b.length:Int)-4-4-(ownN b:Int) by omega,show((b.length-8:Nat):Int)=(b.length:Int)-4-4 by omega,show b.length-8-(b.length-8-ownN b)=ownN b by omega] at this)
    have R4:Hid (ownN b≤b.length-12→Reads w w.heap.size 1 (if c=b.length-8-ownN b then A else A.map (·.add ((b.length-8-ownN b)*1))) (ownN b) (za3 .u8 ((b.drop (b.length-8-ownN b)).take (ownN b)))):=Hz (fun hW=>by
     have:=(h.cut (k:=b.length-8-ownN b) (cap:=c) (by omega) hc).take (k:=ownN b) (by omega)
     simpa only[Nat.mul_one,zez,zfl] using this)
    have hown:zon b=if b.length-12<ownN b then none else some ((b.drop (b.length-8-ownN b)).take (ownN b)):=by
     unfold zon;rw[if_neg (by rintro(q|q|q);exact h1 q;exact q HH.out;exact q (by rw[HN4.out,HD2.out]))]
    have HOW:=Hz hown;clear hA3 hD4 hN hd4 hown R3 R3' h48 h8 h;generalize ownN b=N at*
    have iw:IntKind.i64.wrap (N:Int)=(N:Int):=by rw[IntKind.wrap_i64];omega
    go_enter Tryz.func39,Tryz.ntmps39
    go_wp2_with fail
    refine C.out.mono ?_;rintro e w1 ⟨g,rfl,hg,C1,b1⟩;have U:=z9s C1 (by rw[HL4.out];exact Nat.le_refl _);rw[List.take_of_length_le (by rw[HL4.out];exact Nat.le_refl _),HN.out] at U;replace U:=Hz U;clear C C1
    go_wp2_with fail
    refine U.out.mono ?_;rintro e w2 ⟨rfl,C2',g2⟩;have b2:=Far.below b1 g2 hg (Nat.le_refl _);clear U C2' g2 b1;by_cases hbig:b.length-12<N
    ·have ho:zon b=none:=by rw[HOW.out,if_pos hbig]
     have i5:(b.length:Int)-4-4-4<(N:Int):=by omega
     clear hbig
     go_wp2_with fail
     go_ret2
     unfold zlq;rw[ho];exact⟨b2,rfl⟩
    ·have ho:zon b=some ((b.drop (b.length-8-N)).take N):=by rw[HOW.out,if_neg hbig]
     have i5:(N:Int)≤(b.length:Int)-4-4-4:=by omega
     have S5:=S4.out w2 (by omega);have R5:=Hz ((R4.out (by omega)).below b2)
     have hcN:N≤c-(b.length-8-N):=by omega
     have hlN:((b.drop (b.length-8-N)).take N).length=N:=by rw[List.length_take,List.length_drop];omega
     have HO:=Hz ho;have HLN:=Hz hlN;clear hbig ho hlN;generalize(if c=b.length-8-N then A else A.map (·.add ((b.length-8-N)*1)))=A5 at*;generalize hk5:c-(b.length-8-N)=k5 at*;have HK5:=Hz hk5;clear hk5
     go_wp2_with fail
     go_ret2
     unfold zlq;rw[HO.out];refine⟨b2,A5,k5,?_,?_,?_,?_⟩
     ·rw[HLN.out];rfl
     ·rw[HLN.out];exact R5.out
     ·rw[HLN.out];exact hcN
     ·rw[←HK5.out];omega
   ·rw[decide_eq_false hT] at q2
    have ho:zon b=none:=by unfold zon;rw[if_pos (.inr (.inr (by rw[HN4.out,HD2.out];exact hT)))]
    clear hT
    go_enter Tryz.func39,Tryz.ntmps39
    go_wp2_with fail
    go_ret2
    unfold zlq;rw[ho];exact⟨New.refl _,rfl⟩
  ·rw[decide_eq_false hH] at q1
   have ho:zon b=none:=by unfold zon;rw[if_pos (.inr (.inl hH))]
   clear hH
   go_enter Tryz.func39,Tryz.ntmps39
   go_wp2_with fail
   go_ret2
   unfold zlq;rw[ho];exact⟨New.refl _,rfl⟩
open Go.RowKit Go.Hm
theorem OptX.u{o:Option (List Nat)}{w w':World}{e:Ending}(h:OptX o w e w'):∃v,e= .returned (.tuple #[v,.bool o.isSome])∧New w w'∧∀b,o=some b→∃A n c,v= .slice A n c∧Go.Hm.Own w' w.heap.size 5 (.slice A n c) (za3 .u8 b):=by
 cases o with
 |none=>obtain⟨⟨v,rfl⟩,h2⟩:=h;exact⟨v,rfl,h2,fun b hb=>by cases hb⟩
 |some l=>obtain⟨A,n,c,rfl,h2,h3⟩:=h;exact⟨_,rfl,h3,fun b hb=>by injection hb with hb;subst hb;exact⟨_,_,_,rfl,h2⟩⟩
theorem OptX.of{o:Option (List Nat)}{w w':World}{v:Value}(h1:New w w')(h2:∀b,o=some b→∃A n c,v= .slice A n c∧Go.Hm.Own w' w.heap.size 5 (.slice A n c) (za3 .u8 b)):OptX o w (.returned (.tuple #[v,.bool o.isSome])) w':=by
 cases o with
 |none=>exact⟨⟨v,rfl⟩,h1⟩
 |some l=>obtain⟨A,n,c,rfl,h3⟩:=h2 l rfl;exact⟨A,n,c,rfl,h3,h1⟩
set_option maxRecDepth 100000 in
theorem zmy{w:World}{A:Option Addr}{n c:Nat}{L:List zab}(h:Reads w w.heap.size 5 A n (recs zak L))(hL:∀y∈L,zai y)(hn:n≤65536):
 Calls Tryz.prog 186 #[.int .i64 3,.slice A n c] w (OptX (zdl 3 3 L) w):=by
 obtain rfl:=h.lenCell;have RI:=Hz (zhb (t:=3) (c:=c) h hL (by omega))
 have PE:Hid (∀W,New w W→zhs 3 L=true→Calls Tryz.prog 212 #[.slice A L.length c] W (OptX (encPts L) W)):=
  Hz (fun W hW hp=>zmx (Reads.later h hW) (plOk_iff.1 hp).2 hn)
 have hv:zdl 3 3 L=if zhs 3 L=true then encPts L else none:=by unfold zdl;simp
 obtain⟨X,hX⟩:∃X,X=zdl 3 3 L:=⟨_,rfl⟩;rw[←hX];have HX:=Hz (hX.trans hv);clear hv hX h hL;generalize zhs 3 L=O at*
 go_enter Tryz.func186,Tryz.ntmps186
 go_wp2_with fail
 refine RI.out.mono ?_;rintro e W0 ⟨rfl,b0⟩;clear RI
 cases O with
 |false=>
  have hx:X=none:=by rw[HX.out];rfl
  subst hx
  go_wp2
  go_ret2
  exact⟨⟨_,rfl⟩,b0⟩
 |true=>
  have hx:=HX.out;rw[if_pos rfl] at hx;subst hx;have P2:=Hz (PE.out W0 b0 rfl);clear HX PE;generalize encPts L=Y at*
  go_wp2_with fail
  refine P2.out.mono ?_;rintro e W1 hpost;obtain⟨v,rfl,b1,ho⟩:=hpost.u;have HO:=Hz ho;clear ho hpost P2;generalize hs:Y.isSome=S at*;have HS:=Hz hs;clear hs
  go_wp2_with fail
  go_ret2
  rw[←HS.out];exact OptX.of (New.trans b0 b1) (fun b hb=>by obtain⟨A1,n1,c1,e1,o1⟩:=HO.out b hb;exact⟨A1,n1,c1,e1,o1.base_le b0.size⟩)
theorem qca{w:World}{q:Nat}{t:Int}{A:Option Addr}{n c:Nat}{L:List zab}(hf:fitsV t (q:Int)=true)(h:Reads w w.heap.size 5 A n (recs zak L))(hL:∀y∈L,CellFine y)(hn:n≤65536):
 Calls Tryz.prog (zxu q) #[.int .i64 t,.slice A n c] w (OptX (zdl t (q:Int) L) w):=by
 have hq:=(zfw hf).1
 have hD:∀y∈L,zai y:=fun y hy=>zi3 (hL y hy)
 rcases(by omega:q=0∨q=1∨q=2∨q=3∨q=4) with rfl|rfl|rfl|rfl|rfl
 ·have e:zdl t ((0:Nat):Int) L=plO t L:=by unfold zdl;simp
  rw[e]
  exact(zki h hD (by omega)).mono fun _ _ p=>OptB.x p
 ·have e:zdl t ((1:Nat):Int) L=zhu t L:=by unfold zdl;simp
  rw[e]
  exact(zw7 h hL hn).mono fun _ _ p=>OptB.x p
 ·exact zp5 h hD (by omega)
 ·have ht:t=0∨t=3:=by
   unfold fitsV at hf;rw[decide_eq_true_eq] at hf;omega
  rcases ht with rfl|rfl
  ·exact zp6 h hD (by omega)
  ·exact zmy h hD hn
 ·exact zo6 h hD (by omega)
def zxy(t e:Int)(L:List zab):Int × List Nat:=if fitsV t e=true then(match zdl t e L with|some b=>(0,b)|none=>(1,[])) else(3,[])
def zh0(x:Int × List Nat)(w:World)(en:Ending)(w':World):Prop:=
 ∃A n c,en= .returned (.tuple #[.slice A n c,.int .i64 x.1])∧Go.Hm.Own w' w.heap.size 5 (.slice A n c) (za3 .u8 x.2)∧New w w'
noncomputable def qjc:Value:=match(Tryz.prog.info? 189).bind (·.zero) with|some v=>v|none=>undef
theorem z7k(w:World):(zeroValue 189).run Tryz.prog w= .ok qjc w:=by kernel_rfl
theorem z2t(i j:Nat)(w:World):(Instr.field 189 (.agg #[.func (.func i) #[] #[],.func (.func j) #[] #[]]) 0).run Tryz.prog w= .ok (.func (.func i) #[] #[]) w:=by kernel_rfl
theorem z2u(i j:Nat)(w:World):(Instr.field 189 (.agg #[.func (.func i) #[] #[],.func (.func j) #[] #[]]) 1).run Tryz.prog w= .ok (.func (.func j) #[] #[]) w:=by kernel_rfl
set_option maxRecDepth 100000 in
theorem zj2{w:World}{t e:Int}{A:Option Addr}{n c:Nat}{L:List zab}(h:Reads w w.heap.size 5 A n (recs zak L))(hL:∀y∈L,CellFine y)(hn:n≤65536):
 Calls Tryz.prog 136 #[.int .i64 t,.int .i64 e,.slice A n c] w (zh0 (zxy t e L) w):=by
 have F:=Hz (zik t e w);by_cases hf:fitsV t e=true
 ·have hq:=(zfw hf).1
  obtain⟨q,rfl⟩:=Int.eq_ofNat_of_zero_le hq.1
  have hq4:q≤4:=by omega
  have C:=Hz (@zo7 w);have V:=Hz (fun(W:World) (hW:New w W)=>qca (c:=c) hf (Reads.later h hW) hL hn)
  have hk:∀args w,(callFunc (zxu q) args).run Tryz.prog w= .ok (.enter (zxu q) args) w:=by
   intro args w;rcases(by omega:q=0∨q=1∨q=2∨q=3∨q=4) with rfl|rfl|rfl|rfl|rfl<;> simp only[zxu]<;> go_simp
  have HV:Hid (zxy t (q:Int) L=match zdl t (q:Int) L with|some b=>(0,b)|none=>(1,[])):=Hz (by unfold zxy;rw[if_pos hf]);rw[hf] at F;generalize zdl t (q:Int) L=Y at*;generalize zxy t (q:Int) L=X at*;clear hf h hL hq
  go_enter Tryz.func136,Tryz.ntmps136
  go_wp2_with fail
  refine F.out.mono ?_;rintro e W0 ⟨rfl,rfl⟩;clear F
  go_wp2_with fail
  refine C.out.mono ?_;rintro e W1 ⟨bl,f,rfl,M,hff,b1⟩;have V1:=Hz (V.out W1 b1);have hfq:=hff q hq4;clear C V hff;have hz:=z7k W1;have hfd:=z2t (zxu q) (zxv q) W1
  go_wp2_with (refine zha rfl (.tmp 15) (.tmp 16) 190 rfl qf1 zxw hz M hfq (zhz q hq4) rfl rfl ?_;unfold qif)
  refine V1.out.mono ?_;rintro e W2 hpost;obtain⟨v,rfl,b2,ho⟩:=hpost.u;have HO:=Hz ho;clear ho hpost V1 M hz hfq
  cases Y with
  |none=>
   have hx:X=(1,[]):=HV.out;subst hx
   go_wp2_with fail
   go_ret2
   exact⟨none,0,0,rfl,Own.nil_,New.trans b1 b2⟩
  |some b=>
   have hx:X=(0,b):=HV.out;subst hx;obtain⟨A1,n1,c1,rfl,o1⟩:=HO.out b rfl
   go_wp2_with fail
   go_ret2
   exact⟨A1,n1,c1,rfl,o1.base_le b1.size,New.trans b1 b2⟩
 ·have hf0:fitsV t e=false:=by simpa using hf
  have hx:zxy t e L=(3,[]):=by unfold zxy;rw[if_neg hf]
  rw[hx];rw[hf0] at F;clear hf hf0 h hL
  go_enter Tryz.func136,Tryz.ntmps136
  go_wp2_with fail
  refine F.out.mono ?_;rintro e W0 ⟨rfl,rfl⟩;clear F
  go_wp2_with fail
  go_ret2
  exact⟨none,0,0,rfl,Own.nil_,New.refl _⟩
open Go.RowKit Go.Hm
theorem z7q(t:Int)(l:List zab)(k:Nat):zcu t l (k+1)=if(zxy t (k:Int) l).1=0∧((zcu t l k).1<0∨(zxy t (k:Int) l).2.length<(zcu t l k).2) then((k:Int),(zxy t (k:Int) l).2.length) else zcu t l k:=by
 rw[zcu];unfold zxy
 cases hf:fitsV t (k:Int) with
 |false=>simp
 |true=>
  cases hv:zdl t (k:Int) l with
  |none=>simp
  |some b=>simp
set_option maxRecDepth 100000 in
theorem z7r{w:World}{t:Int}{A:Option Addr}{n c:Nat}{L:List zab}(h:Reads w w.heap.size 5 A n (recs zak L))(hL:∀y∈L,CellFine y)(hn:n≤65536):
 Calls Tryz.prog 135 #[.int .i64 t,.slice A n c] w (zap (.int .i64 (bestV t L)) w):=by
 have V:=Hz (fun(W:World) (hW:New w W) (e:Int)=>zj2 (t:=t) (e:=e) (c:=c) (Reads.later h hW) hL hn);have HK:=Hz (zsn t L);have ST:=Hz (z7q t L);have HE:Hid (bestV t L=(zcu t L 5).1):=Hz rfl;have H0:Hid (zcu t L 0=(-1,0)):=Hz rfl;generalize bestV t L=Z at*;generalize hB:zcu t L=B at*;generalize hG:(fun k:Nat=>zxy t (k:Int) L)=G at*;have V2:Hid (∀(W:World) (k:Nat),New w W→Calls Tryz.prog 136 #[.int .i64 t,.int .i64 (k:Int),.slice A n c] W (zh0 (G k) W)):=Hz (by subst hG;exact fun W k hW=>V.out W hW (k:Int));have ST2:Hid (∀k,B (k+1)=if(G k).1=0∧((B k).1<0∨(G k).2.length<(B k).2) then((k:Int),(G k).2.length) else B k):=Hz (by subst hG;exact ST.out);clear V h hL hB hG ST
 go_enter Tryz.func135,Tryz.ntmps135
 go_wp2_with fail
 go_loopw [5,6,7] (fun p f i wr=>∃k:Nat,k≤5∧i= .int .i64 (k:Int)∧p= .int .i64 (B k).1∧f= .int .i64 ((B k).2:Int)∧New w wr) (fun _ _ i _=>5-(intOf i).toNat)
 case atStart=>exact⟨0,by omega,rfl,by rw[H0.out],by rw[H0.out];rfl,New.refl _⟩
 case round=>
  obtain⟨k,hk,rfl,rfl,rfl,b⟩:=hrel;by_cases hlt:k<5
  ·have V3:=Hz (V2.out _ k b)
   have hst:=ST2.out k;obtain⟨⟨p,f⟩,hpf⟩:∃x,B k=x:=⟨_,rfl⟩;obtain⟨⟨er,bs⟩,hgk⟩:∃x,G k=x:=⟨_,rfl⟩;rw[hpf,hgk] at hst;rw[hpf];rw[hgk] at V3;have HST:=Hz hst
   have i1:(k:Int)≤4:=by omega
   clear hst hpf hgk
   go_wp2_with fail
   refine V3.out.mono ?_;rintro e W1 ⟨A1,n1,c1,rfl,o1,b1⟩
   obtain rfl:n1=bs.length:=by simpa[za3] using o1.len
   clear V3;by_cases h1:er=0
   ·subst h1
    by_cases h2:p<0
    ·go_wp2_with fail
     go_roundw
     case rel=>exact⟨k+1,by omega,by go_num,by rw[HST.out,if_pos ⟨by trivial,.inl h2⟩],by rw[HST.out,if_pos ⟨by trivial,.inl h2⟩],New.trans b b1⟩
     case measure=>simp[intOf];omega
    ·by_cases h3:bs.length<f
     ·have i3:(bs.length:Int)<(f:Int):=by omega
      go_wp2_with fail
      go_roundw
      case rel=>exact⟨k+1,by omega,by go_num,by rw[HST.out,if_pos ⟨by trivial,.inr h3⟩],by rw[HST.out,if_pos ⟨by trivial,.inr h3⟩],New.trans b b1⟩
      case measure=>simp[intOf];omega
     ·have i3:decide ((bs.length:Int)<(f:Int))=false:=decide_eq_false (by omega)
      have h4: ¬(p<0∨bs.length<f):=by rintro(q|q);exact h2 q;exact h3 q
      have H4:=Hz h4;clear h4
      go_wp2_with fail
      go_roundw
      case rel=>exact⟨k+1,by omega,by go_num,by rw[HST.out,if_neg (fun q=>H4.out q.2)],by rw[HST.out,if_neg (fun q=>H4.out q.2)],New.trans b b1⟩
      case measure=>simp[intOf];omega
   ·have H1:=Hz h1
    have i2:(er==0)=false:=by simpa using h1
    go_wp2_with fail
    go_roundw
    case rel=>exact⟨k+1,by omega,by go_num,by rw[HST.out,if_neg (fun q=>H1.out q.1)],by rw[HST.out,if_neg (fun q=>H1.out q.1)],New.trans b b1⟩
    case measure=>simp[intOf];omega
  ·have hk5:k=5:=by omega
   subst hk5
   go_wp2_with fail
   go_ret
   exact⟨by rw[HE.out];rfl,b⟩
end Go.Proofs.YtmgfkpnghlmheaaGreat
