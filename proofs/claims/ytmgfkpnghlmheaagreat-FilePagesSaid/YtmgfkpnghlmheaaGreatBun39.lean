/- Merged. -/
import Derived.Laws.EntriesVeiled
import Derived.Test.YtmgfkpnghlmheaaGreatBun38
set_option maxHeartbeats 4000000
namespace Go.Hm
def headL_film:List Nat:=[72,89,80,79]
def tailL:List Nat:=[79,80,89,72]
def ownN(b:List Nat):Nat:=num ((b.drop (b.length-8)).take 4)
def zoo(b:List Nat):Option (List Nat):=
 if b.length<12\/b.take 4≠headL_film\/b.drop (b.length-4)≠tailL then none
 else if b.length-12<ownN b then none
 else some ((b.drop (b.length-8-ownN b)).take (ownN b))
theorem z0d{b s:List Nat}(h:zoo b=some s):s.length=ownN b/\ownN b+12<=b.length:=by
 unfold zoo at h;split at h
 ·cases h
 ·rename_i h1
  split at h
  ·cases h
  ·injection h with h
   subst h;rw[List.length_take,List.length_drop];omega
end Go.Hm
namespace Go.Proofs.Y
open Go.RowKit Go.Hm
theorem zu3:Tryz.prog.underlying 31=some (.slice (Tryz.prog.elem 31)):=by kernel_rfl
theorem zu4(w:World):(sizeOf (Tryz.prog.elem 31)).run Tryz.prog w= .ok 1 w:=by kernel_rfl
theorem z63{l:List Nat}(hl:∀x∈l,x<256):((zac l).toList== [72,89,80,79])=decide (l=headL_film):=by rw[<-zhe hl (m:=headL_film) (by decide)];rw[show(zac headL_film).toList=[72,89,80,79] by simp[zac,headL_film]]
theorem z64{l:List Nat}(hl:∀x∈l,x<256):((zac l).toList== [79,80,89,72])=decide (l=tailL):=by rw[<-zhe hl (m:=tailL) (by decide)];rw[show(zac tailL).toList=[79,80,89,72] by simp[zac,tailL]]
def zlm(b:List Nat)(w:World)(e:Ending)(w':World):Prop:=
 New w w'/\match zoo b with
 |none=>e= .returned (.tuple #[.slice none 0 0,.bool false])
 |some s=>∃A c,e= .returned (.tuple #[.slice A s.length c,.bool true])/\Reads w' w.heap.size 1 A s.length (za2 .u8 s)/\s.length<=c/\c<=9223372036854775807
set_option maxRecDepth 100000 in
theorem zu5{w:World}{A:Option Addr}{c:Nat}{b:List Nat}(h:Reads w w.heap.size 1 A b.length (za2 .u8 b))(h8:∀x∈b,x<256)(hb:b.length<=140737488351232)(hc:b.length<=c)(hc2:c<=9223372036854775807):
 Calls Tryz.prog 39 #[.slice A b.length c] w (zlm b w):=by
 have HR:=Hz h;by_cases h1:b.length<12
 ·have ho:zoo b=none:=by unfold zoo;rw[if_pos (.inl h1)]
  have i1:(b.length:Int)<12:=by omega
  go_enter Tryz.func39,Tryz.ntmps39
  go_wp2_with fail
  go_ret2
  unfold zlm;rw[ho];exact⟨New.refl _,rfl⟩
 ·have i1:(12:Int)<=(b.length:Int):=by omega
  have S1:(Instr.sliceAt 31 (.slice A b.length c) none (some (.int .i64 4)) none).run Tryz.prog w= .ok (.slice A 4 c) w:=qby zu3 zu4 A b.length c 4 (by omega) w;have C1:=zd9 (c:=c) (show Reads w w.heap.size 1 A 4 (za2 .u8 (b.take 4)) by have:=h.take (k:=4) (by omega);rwa[show 4*1=4 from rfl,zfw] at this)
  have q1:=z63 (l:=b.take 4) (fun x hx=>h8 x (List.mem_of_mem_take hx));have hz1:=za4 (b.take 4);by_cases hH:b.take 4=headL_film
  ·rw[decide_eq_true hH] at q1
   have S2:(Instr.sliceAt 31 (.slice A b.length c) (some (.int .i64 ((b.length:Int)-4))) none none).run Tryz.prog w= .ok (.slice (if c=b.length-4 then A else A.map (·.add ((b.length-4)*1))) (b.length-(b.length-4)) (c-(b.length-4))) w:=by have:=zs0 zu3 zu4 A b.length c (b.length-4) (by omega) w;rwa[show((b.length-4:Nat):Int)=(b.length:Int)-4 by omega] at this
   have C2:=zd9 (c:=c-(b.length-4)) (show Reads w w.heap.size 1 (if c=b.length-4 then A else A.map (·.add ((b.length-4)*1))) (b.length-(b.length-4)) (za2 .u8 (b.drop (b.length-4))) by have:=h.cut (k:=b.length-4) (cap:=c) (by omega) hc;simpa only[Nat.mul_one,ze3] using this)
   have q2:=z64 (l:=b.drop (b.length-4)) (fun x hx=>h8 x (List.mem_of_mem_drop hx));generalize hA2:(if c=b.length-4 then A else A.map (·.add ((b.length-4)*1)))=A2 at*;have HA2:=Hz hA2;generalize hD2:b.drop (b.length-4)=D2 at*;have HD2:=Hz hD2;generalize hN4:b.length-4=N4 at*;have HN4:=Hz hN4;have HH:=Hz hH;clear hA2 hD2 hN4 hH;by_cases hT:D2=tailL
   ·rw[decide_eq_true hT] at q2
    subst hT;have S3:(Instr.sliceAt 31 (.slice A b.length c) (some (.int .i64 ((b.length:Int)-4-4))) (some (.int .i64 ((b.length:Int)-4))) none).run Tryz.prog w= .ok (.slice (if c=b.length-8 then A else A.map (·.add ((b.length-8)*1))) 4 (c-(b.length-8))) w:=by have:=zg7 zu3 zu4 A b.length c (b.length-8) (b.length-4) (by omega) (by omega) w;rwa[show((b.length-8:Nat):Int)=(b.length:Int)-4-4 by omega,show((b.length-4:Nat):Int)=(b.length:Int)-4 by omega,show b.length-4-(b.length-8)=4 by omega] at this
    have hd4:((b.drop (b.length-8)).take 4).length=4:=by rw[List.length_take,List.length_drop];omega
    have R3:Reads w w.heap.size 1 (if c=b.length-8 then A else A.map (·.add ((b.length-8)*1))) 4 (za2 .u8 ((b.drop (b.length-8)).take 4)):=by have:=(h.cut (k:=b.length-8) (cap:=c) (by omega) hc).take (k:=4) (by omega);simpa only[Nat.mul_one,ze3,zfw] using this
    have h48:∀x∈(b.drop (b.length-8)).take 4,x<256:=fun x hx=>h8 x (List.mem_of_mem_drop (List.mem_of_mem_take hx))
    have R3':Reads w w.heap.size 1 (if c=b.length-8 then A else A.map (·.add ((b.length-8)*1))) ((b.drop (b.length-8)).take 4).length (za2 .u8 ((b.drop (b.length-8)).take 4)):=by rw[hd4];exact R3
    have C:=Hz (zfh (c:=c-(b.length-8)) R3' (by omega) h48);rw[hd4] at C;have hnl:=zqh _ h48;rw[hd4] at hnl;have hN:num ((b.drop (b.length-8)).take 4)=ownN b:=rfl;rw[hN] at hnl;have hnl2:ownN b<4294967296:=hnl;generalize hA3:(if c=b.length-8 then A else A.map (·.add ((b.length-8)*1)))=A3 at*;generalize hD4:(b.drop (b.length-8)).take 4=D4 at*;have HD4:=Hz hD4;have HN:=Hz hN;have HL4:=Hz hd4;have S4:Hid (∀W,ownN b<=b.length-12->(Instr.sliceAt 31 (.slice A b.length c) (some (.int .i64 ((b.length:Int)-4-4-(ownN b:Int)))) (some (.int .i64 ((b.length:Int)-4-4))) none).run Tryz.prog W= .ok (.slice (if c=b.length-8-ownN b then A else A.map (·.add ((b.length-8-ownN b)*1))) (ownN b) (c-(b.length-8-ownN b))) W):=Hz (fun W hW=>by have:=zg7 zu3 zu4 A b.length c (b.length-8-ownN b) (b.length-8) (by omega) (by omega) W;rwa[show((b.length-8-ownN b:Nat):Int)=(b.length:Int)-4-4-(ownN b:Int) by omega,show((b.length-8:Nat):Int)=(b.length:Int)-4-4 by omega,show b.length-8-(b.length-8-ownN b)=ownN b by omega] at this)
    have R4:Hid (ownN b<=b.length-12->Reads w w.heap.size 1 (if c=b.length-8-ownN b then A else A.map (·.add ((b.length-8-ownN b)*1))) (ownN b) (za2 .u8 ((b.drop (b.length-8-ownN b)).take (ownN b)))):=Hz (fun hW=>by have:=(h.cut (k:=b.length-8-ownN b) (cap:=c) (by omega) hc).take (k:=ownN b) (by omega);simpa only[Nat.mul_one,ze3,zfw] using this)
    have hown:zoo b=if b.length-12<ownN b then none else some ((b.drop (b.length-8-ownN b)).take (ownN b)):=by unfold zoo;rw[if_neg (by rintro(q|q|q);exact h1 q;exact q HH.out;exact q (by rw[HN4.out,HD2.out]))]
    have HOW:=Hz hown;clear hA3 hD4 hN hd4 hown R3 R3' h48 h8 h;generalize ownN b=N at*;have iw:IntKind.i64.wrap (N:Int)=(N:Int):=by rw[IntKind.wrap_i64];omega
    go_enter Tryz.func39,Tryz.ntmps39
    go_wp2_with fail
    refine C.out.mono ?_;rintro e w1 ⟨g,rfl,hg,C1,b1⟩;have U:=z92 C1 (by rw[HL4.out];exact Nat.le_refl _);rw[List.take_of_length_le (by rw[HL4.out];exact Nat.le_refl _),HN.out] at U;replace U:=Hz U;clear C C1;go_wp2_with fail
    refine U.out.mono ?_;rintro e w2 ⟨rfl,C2',g2⟩;have b2:=Far.below b1 g2 hg (Nat.le_refl _);clear U C2' g2 b1;by_cases hbig:b.length-12<N
    ·have ho:zoo b=none:=by rw[HOW.out,if_pos hbig]
     have i5:(b.length:Int)-4-4-4<(N:Int):=by omega
     clear hbig;go_wp2_with fail
     go_ret2
     unfold zlm;rw[ho];exact⟨b2,rfl⟩
    ·have ho:zoo b=some ((b.drop (b.length-8-N)).take N):=by rw[HOW.out,if_neg hbig]
     have i5:(N:Int)<=(b.length:Int)-4-4-4:=by omega
     have S5:=S4.out w2 (by omega);have R5:=Hz ((R4.out (by omega)).below b2);have hcN:N<=c-(b.length-8-N):=by omega
     have hlN:((b.drop (b.length-8-N)).take N).length=N:=by rw[List.length_take,List.length_drop];omega
     have HO:=Hz ho;have HLN:=Hz hlN;clear hbig ho hlN;generalize(if c=b.length-8-N then A else A.map (·.add ((b.length-8-N)*1)))=A5 at*;generalize hk5:c-(b.length-8-N)=k5 at*;have HK5:=Hz hk5;clear hk5;go_wp2_with fail
     go_ret2
     unfold zlm;rw[HO.out];refine⟨b2,A5,k5,?_,?_,?_,?_⟩
     ·rw[HLN.out];rfl
     ·rw[HLN.out];exact R5.out
     ·rw[HLN.out];exact hcN
     ·rw[<-HK5.out];omega
   ·rw[decide_eq_false hT] at q2
    have ho:zoo b=none:=by unfold zoo;rw[if_pos (.inr (.inr (by rw[HN4.out,HD2.out];exact hT)))]
    clear hT;go_enter Tryz.func39,Tryz.ntmps39
    go_wp2_with fail
    go_ret2
    unfold zlm;rw[ho];exact⟨New.refl _,rfl⟩
  ·rw[decide_eq_false hH] at q1
   have ho:zoo b=none:=by unfold zoo;rw[if_pos (.inr (.inl hH))]
   clear hH;go_enter Tryz.func39,Tryz.ntmps39
   go_wp2_with fail
   go_ret2
   unfold zlm;rw[ho];exact⟨New.refl _,rfl⟩
open Go.RowKit Go.Hm
def zx3:Nat->Nat
 |0=>120
 |1=>182
 |2=>184
 |3=>186
 |_=>188
def zx4:Nat->Nat
 |0=>181
 |1=>183
 |2=>185
 |3=>187
 |_=>189
def qig(q:Nat):Value:= .agg #[.func (.func (zx3 q)) #[] #[],.func (.func (zx4 q)) #[] #[]]
theorem qf3:Maps.Keyed Tryz.prog 3:=Maps.int_keyed (show Tryz.prog.underlying 3=some (.int .i64) by kernel_rfl)
theorem zx5:Tryz.prog.underlying 190=some (.map 3 189):=by kernel_rfl
theorem zhy(k:Nat)(h:k<=4):∃kl,keyOf Tryz.prog 3 (.int .i64 (k:Int))=some kl:=
 ⟨_,Maps.keyOf_int_mk (show Tryz.prog.underlying 3=some (.int .i64) by kernel_rfl) (by simp[Lit.wf,IntKind.min,IntKind.max,IntKind.signed,IntKind.bits];omega)⟩
theorem z24(W:World):(Instr.makeMap 190 none).run Tryz.prog W= .ok (.map (some W.heap.size)) (W.alloc (.map #[] 0)):=by simp[Instr.makeMap,Result.andThen]
def qf4(w:World)(e:Ending)(w':World):Prop:=
 ∃b f,e= .returned (.map (some b))/\MapF_mapf Tryz.prog 3 qig w' b 5 f/\(∀k:Nat,k<=4->f (k:Int)=some k)/\New w w'
set_option maxRecDepth 100000 in
theorem zo9{w:World}:Calls Tryz.prog 160 #[] w (qf4 w):=by
 have hmm:=z24;have b0:New w (w.alloc (.map #[] 0)):=(Below.refl _ _).alloc (Nat.le_refl _) _;have M0:=MapF_mapf.made (P:=Tryz.prog) (k:=3) (F:=qig) w;go_enter Tryz.func160,Tryz.ntmps160
 go_wp2_with (first
  |(refine zf9 rfl (.tmp 1) _ (.tmp 2) 190 rfl qf3 zx5 M0 (by unfold maxLen;omega) (zhy 0 (by omega)) 0 rfl rfl rfl ?_
    intro w1 M1 g1)
  |(refine zf9 rfl (.tmp 1) _ (.tmp 3) 190 rfl qf3 zx5 M1 (by unfold maxLen;omega) (zhy 1 (by omega)) 1 rfl rfl rfl ?_
    intro w2 M2 g2)
  |(refine zf9 rfl (.tmp 1) _ (.tmp 4) 190 rfl qf3 zx5 M2 (by unfold maxLen;omega) (zhy 2 (by omega)) 2 rfl rfl rfl ?_
    intro w3 M3 g3)
  |(refine zf9 rfl (.tmp 1) _ (.tmp 5) 190 rfl qf3 zx5 M3 (by unfold maxLen;omega) (zhy 3 (by omega)) 3 rfl rfl rfl ?_
    intro w4 M4 g4)
  |(refine zf9 rfl (.tmp 1) _ (.tmp 6) 190 rfl qf3 zx5 M4 (by unfold maxLen;omega) (zhy 4 (by omega)) 4 rfl rfl rfl ?_
    intro w5 M5 g5))
 go_ret
 have gr:∀{wa wb:World},New w wa->wa.grownBy wb (some w.heap.size)->New w wb:=fun h g=>zay h g (Nat.le_refl _) (Nat.le_refl _)
 exact⟨_,_,rfl,M5,fun k hk=>by rcases(by omega:k=0\/k=1\/k=2\/k=3\/k=4) with rfl|rfl|rfl|rfl|rfl<;> rfl,gr (gr (gr (gr (gr b0 g1) g2) g3) g4) g5⟩
open Go.RowKit Go.Hm
theorem OptX.u{o:Option (List Nat)}{w w':World}{e:Ending}(h:OptX o w e w'):∃v,e= .returned (.tuple #[v,.bool o.isSome])/\New w w'/\ ∀b,o=some b-> ∃A n c,v= .slice A n c/\Go.Hm.Own w' w.heap.size 5 (.slice A n c) (za2 .u8 b):=by
 cases o with
 |none=>obtain⟨⟨v,rfl⟩,h2⟩:=h;exact⟨v,rfl,h2,fun b hb=>by cases hb⟩
 |some l=>obtain⟨A,n,c,rfl,h2,h3⟩:=h;exact⟨_,rfl,h3,fun b hb=>by injection hb with hb;subst hb;exact⟨_,_,_,rfl,h2⟩⟩
theorem OptX.of{o:Option (List Nat)}{w w':World}{v:Value}(h1:New w w')(h2:∀b,o=some b-> ∃A n c,v= .slice A n c/\Go.Hm.Own w' w.heap.size 5 (.slice A n c) (za2 .u8 b)):OptX o w (.returned (.tuple #[v,.bool o.isSome])) w':=by
 cases o with
 |none=>exact⟨⟨v,rfl⟩,h1⟩
 |some l=>obtain⟨A,n,c,rfl,h3⟩:=h2 l rfl;exact⟨A,n,c,rfl,h3,h1⟩
set_option maxRecDepth 100000 in
theorem zmr{w:World}{A:Option Addr}{n c:Nat}{L:List zab}(h:Reads w w.heap.size 5 A n (recs zan L))(hL:∀y∈L,zai y)(hn:n<=65536):
 Calls Tryz.prog 186 #[.int .i64 3,.slice A n c] w (OptX (zdz 3 3 L) w):=by
 obtain rfl:=h.lenCell;have RI:=Hz (zhb (t:=3) (c:=c) h hL (by omega));have PE:Hid (∀W,New w W->zh5 3 L=true->Calls Tryz.prog 212 #[.slice A L.length c] W (OptX (encPts L) W)):=
  Hz (fun W hW hp=>zmq (Reads.later h hW) (plOk_iff.1 hp).2 hn)
 have hv:zdz 3 3 L=if zh5 3 L=true then encPts L else none:=by unfold zdz;simp
 obtain⟨X,hX⟩:∃X,X=zdz 3 3 L:=⟨_,rfl⟩;rw[<-hX];have HX:=Hz (hX.trans hv);clear hv hX h hL;generalize zh5 3 L=O at*;go_enter Tryz.func186,Tryz.ntmps186
 go_wp2_with fail
 refine RI.out.mono ?_;rintro e W0 ⟨rfl,b0⟩;clear RI;cases O with
 |false=>
  have hx:X=none:=by rw[HX.out];rfl
  subst hx;go_wp2
  go_ret2
  exact⟨⟨_,rfl⟩,b0⟩
 |true=>
  have hx:=HX.out;rw[if_pos rfl] at hx;subst hx;have P2:=Hz (PE.out W0 b0 rfl);clear HX PE;generalize encPts L=Y at*;go_wp2_with fail
  refine P2.out.mono ?_;rintro e W1 hpost;obtain⟨v,rfl,b1,ho⟩:=hpost.u;have HO:=Hz ho;clear ho hpost P2;generalize hs:Y.isSome=S at*;have HS:=Hz hs;clear hs;go_wp2_with fail
  go_ret2
  rw[<-HS.out];exact OptX.of (New.trans b0 b1) (fun b hb=>by obtain⟨A1,n1,c1,e1,o1⟩:=HO.out b hb;exact⟨A1,n1,c1,e1,o1.base_le b0.size⟩)
theorem qcj{w:World}{q:Nat}{t:Int}{A:Option Addr}{n c:Nat}{L:List zab}(hf:fitsV t (q:Int)=true)(h:Reads w w.heap.size 5 A n (recs zan L))(hL:∀y∈L,CellFine y)(hn:n<=65536):
 Calls Tryz.prog (zx3 q) #[.int .i64 t,.slice A n c] w (OptX (zdz t (q:Int) L) w):=by
 have hq:=(zf4 hf).1;have hD:∀y∈L,zai y:=fun y hy=>zi3 (hL y hy)
 rcases(by omega:q=0\/q=1\/q=2\/q=3\/q=4) with rfl|rfl|rfl|rfl|rfl
 ·have e:zdz t ((0:Nat):Int) L=plO t L:=by unfold zdz;simp
  rw[e];exact(zkf h hD (by omega)).mono fun _ _ p=>OptB.x p
 ·have e:zdz t ((1:Nat):Int) L=zjc t L:=by unfold zdz;simp
  rw[e];exact(zxh h hL hn).mono fun _ _ p=>OptB.x p
 ·exact zp9 h hD (by omega)
 ·have ht:t=0\/t=3:=by
   unfold fitsV at hf;rw[decide_eq_true_eq] at hf;omega
  rcases ht with rfl|rfl
  ·exact zqa h hD (by omega)
  ·exact zmr h hD hn
 ·exact zo8 h hD (by omega)
def zx7(t e:Int)(L:List zab):Int × List Nat:=if fitsV t e=true then(match zdz t e L with|some b=>(0,b)|none=>(1,[])) else(3,[])
def zhz(x:Int × List Nat)(w:World)(en:Ending)(w':World):Prop:=
 ∃A n c,en= .returned (.tuple #[.slice A n c,.int .i64 x.1])/\Go.Hm.Own w' w.heap.size 5 (.slice A n c) (za2 .u8 x.2)/\New w w'
noncomputable def qjc:Value:=match(Tryz.prog.info? 189).bind (·.zero) with|some v=>v|none=>undef
theorem z72(w:World):(zeroValue 189).run Tryz.prog w= .ok qjc w:=by kernel_rfl
theorem z28(i j:Nat)(w:World):(Instr.field 189 (.agg #[.func (.func i) #[] #[],.func (.func j) #[] #[]]) 0).run Tryz.prog w= .ok (.func (.func i) #[] #[]) w:=by kernel_rfl
theorem z29(i j:Nat)(w:World):(Instr.field 189 (.agg #[.func (.func i) #[] #[],.func (.func j) #[] #[]]) 1).run Tryz.prog w= .ok (.func (.func j) #[] #[]) w:=by kernel_rfl
set_option maxRecDepth 100000 in
theorem zjx{w:World}{t e:Int}{A:Option Addr}{n c:Nat}{L:List zab}(h:Reads w w.heap.size 5 A n (recs zan L))(hL:∀y∈L,CellFine y)(hn:n<=65536):
 Calls Tryz.prog 136 #[.int .i64 t,.int .i64 e,.slice A n c] w (zhz (zx7 t e L) w):=by
 have F:=Hz (zii t e w);by_cases hf:fitsV t e=true
 ·have hq:=(zf4 hf).1
  obtain⟨q,rfl⟩:=Int.eq_ofNat_of_zero_le hq.1;have hq4:q<=4:=by omega
  have C:=Hz (@zo9 w);have V:=Hz (fun(W:World) (hW:New w W)=>qcj (c:=c) hf (Reads.later h hW) hL hn);have hk:∀args w,(callFunc (zx3 q) args).run Tryz.prog w= .ok (.enter (zx3 q) args) w:=by intro args w;rcases(by omega:q=0\/q=1\/q=2\/q=3\/q=4) with rfl|rfl|rfl|rfl|rfl<;> simp only[zx3]<;> go_simp
  have HV:Hid (zx7 t (q:Int) L=match zdz t (q:Int) L with|some b=>(0,b)|none=>(1,[])):=Hz (by unfold zx7;rw[if_pos hf]);rw[hf] at F;generalize zdz t (q:Int) L=Y at*;generalize zx7 t (q:Int) L=X at*;clear hf h hL hq;go_enter Tryz.func136,Tryz.ntmps136
  go_wp2_with fail
  refine F.out.mono ?_;rintro e W0 ⟨rfl,rfl⟩;clear F;go_wp2_with fail
  refine C.out.mono ?_;rintro e W1 ⟨bl,f,rfl,M,hff,b1⟩;have V1:=Hz (V.out W1 b1);have hfq:=hff q hq4;clear C V hff;have hz:=z72 W1;have hfd:=z28 (zx3 q) (zx4 q) W1;go_wp2_with (refine zha rfl (.tmp 15) (.tmp 16) 190 rfl qf3 zx5 hz M hfq (zhy q hq4) rfl rfl ?_;unfold qig)
  refine V1.out.mono ?_;rintro e W2 hpost;obtain⟨v,rfl,b2,ho⟩:=hpost.u;have HO:=Hz ho;clear ho hpost V1 M hz hfq;cases Y with
  |none=>
   have hx:X=(1,[]):=HV.out;subst hx;go_wp2_with fail
   go_ret2
   exact⟨none,0,0,rfl,Own.nil_,New.trans b1 b2⟩
  |some b=>
   have hx:X=(0,b):=HV.out;subst hx;obtain⟨A1,n1,c1,rfl,o1⟩:=HO.out b rfl;go_wp2_with fail
   go_ret2
   exact⟨A1,n1,c1,rfl,o1.base_le b1.size,New.trans b1 b2⟩
 ·have hf0:fitsV t e=false:=by simpa using hf
  have hx:zx7 t e L=(3,[]):=by unfold zx7;rw[if_neg hf]
  rw[hx];rw[hf0] at F;clear hf hf0 h hL;go_enter Tryz.func136,Tryz.ntmps136
  go_wp2_with fail
  refine F.out.mono ?_;rintro e W0 ⟨rfl,rfl⟩;clear F;go_wp2_with fail
  go_ret2
  exact⟨none,0,0,rfl,Own.nil_,New.refl _⟩
end Go.Proofs.Y
namespace Go.Hm
open Go Go.RowKit
theorem qco{A B:List Value}{x y z u v a b c d e:Value}{m:Nat}(h:A.length=m):
 (((((A++([x,y,z,u,v]++B)).set m a).set (m+1) b).set (m+1+1) c).set (m+1+1+1) d).set (m+1+1+1+1) e=A++([a,b,c,d,e]++B):=by
 subst h;rw[List.set_append_right _ _ (Nat.le_refl _),Nat.sub_self,List.set_append_right _ _ (by omega),List.set_append_right _ _ (by omega),List.set_append_right _ _ (by omega),List.set_append_right _ _ (by omega),
  show A.length+1-A.length=1 by omega,show A.length+1+1-A.length=2 by omega,show A.length+1+1+1-A.length=3 by omega,show A.length+1+1+1+1-A.length=4 by omega]
 rfl
section
variable{P:Program}
theorem zvy{ops:Array Oper}{rest:List Oper}{op:Oper}{a:Act}{w:World}{Q:Exit->Act->World->Prop}(hgd:op.guard=none)(ty:TypeId)(x y:Operand)(ho:op.op= .store ty x y)
 {base:Nat}{e:TypeId}{g n m:Nat}{A B:List zab}{old new:zab}(hown:w.ownsRow base e 5 (.slice (some ⟨g,0,none⟩) n n) n (recs zan (A++old::B)))(hm:A.length=m)(hmn:m<n)
 (hx:a.eval x= .pointer (some ⟨g,m*5,none⟩))(hy:a.eval y=zca new)(hi:(P.info? ty).map (·.size)=some 5)
 (h:∀W,W.ownsRow base e 5 (.slice (some ⟨g,0,none⟩) n n) n (recs zan (A++new::B))->w.grownBy W (some g)->wpList P ops Q rest (a.put op.dst undef) W):wpList P ops Q (op::rest) a w:=by
 obtain⟨cs,hB⟩:=zie hown;obtain⟨ad,ea,-,c0,c1,c2,c3,c4⟩:=(Reads.of_own hown).cell5 (i:=m) hmn;injection ea with ea;subst ea;have ead:(⟨g,0,none⟩:Addr).add (m*5)=⟨g,m*5,none⟩:=by unfold Addr.add;split<;> simp_all
 rw[ead] at c0 c1 c2 c3 c4;dsimp only at c0 c1 c2 c3 c4;obtain⟨v0,v1,v2,v3,v4⟩:=new;have ht:w.there g (m*5) (#[Value.bool v0,.int .i64 v1,.string (zac v2),.int .i64 v3,.int .i64 v4]:Array Value).size:=by
  intro j hj;have hj:j<5:=hj;refine⟨?_,hB.frozen _⟩;have:j=0\/j=1\/j=2\/j=3\/j=4:=by omega
  rcases this with rfl|rfl|rfl|rfl|rfl
  ·rw[Nat.add_zero,c0];rfl
  ·rw[c1];rfl
  ·rw[c2];rfl
  ·rw[c3];rfl
  ·rw[c4];rfl
 refine wpList_store_mid hgd ty x y ho g (m*5) #[.bool v0,.int .i64 v1,.string (zac v2),.int .i64 v3,.int .i64 v4] hx hy ht hi (by simp[Value.oneCell']) ?_;obtain⟨o1,-⟩:=World.ownsRow.stored hown (m*5) (.bool v0);obtain⟨o2,-⟩:=World.ownsRow.stored o1 (m*5+1) (.int .i64 v1);obtain⟨o3,-⟩:=World.ownsRow.stored o2 (m*5+1+1) (.string (zac v2));obtain⟨o4,-⟩:=World.ownsRow.stored o3 (m*5+1+1+1) (.int .i64 v3);obtain⟨o5,-⟩:=World.ownsRow.stored o4 (m*5+1+1+1+1) (.int .i64 v4);have l:(recs zan A).length=m*5:=by rw[zat (sz:=5) (fun _=>rfl) A,hm]
 rw[zas,show recs zan (old::B)=[Value.bool old.1,.int .i64 old.2.1,.string (zac old.2.2.1),.int .i64 old.2.2.2.1,.int .i64 old.2.2.2.2]++recs zan B from rfl,qco l] at o5;rw[zas,show recs zan ((v0,v1,v2,v3,v4)::B)=[Value.bool v0,.int .i64 v1,.string (zac v2),.int .i64 v3,.int .i64 v4]++recs zan B from rfl] at h;exact h _ o5 (((((zar (w:=w) (g:=g)).trans zar).trans zar).trans zar).trans zar)
end
end Go.Hm
namespace Go.Proofs.Y
open Go.RowKit Go.Hm
theorem zky{b:List Nat}{n:Int}:∃o,IsDec b n o:=by
 by_cases h:∃l:List Nat,(l.length:Int)=n/\l.length<=65536/\(∀x∈l,x<=18446744073709551615)/\encL l=b
 ·obtain⟨l,hl⟩:=h
  refine⟨some l,fun l'=>⟨fun e=>by injection e with e;subst e;exact hl,fun h'=>?_⟩⟩;rw[zzn hl.2.1 h'.2.1 hl.2.2.1 h'.2.2.1 (by rw[hl.2.2.2,h'.2.2.2])]
 ·exact⟨none,isDec_none fun l h1 h2 h3 h4=>h ⟨l,h1,h2,h3,h4⟩⟩
def qjd(t:Int)(b:List Nat)(n:Int)(w:World)(e:Ending)(w':World):Prop:=∃o,IsDic t b n o/\OptC o w e w'
theorem qho{t:Int}{l:List zab}{b:List Nat}(hd:∀c∈l,zai c)(h:plO t l=some b):∀c∈l,CellFine c:=fun c hc=>by
 have hr:=(plOk_iff.1 (plO_iff.1 h).1).2 c hc;have hn:(-1048576<=c.2.2.2.1/\c.2.2.2.1<=1048576)/\ -1048576<=c.2.2.2.2/\c.2.2.2.2<=1048576:=by
  have h0:=zgh hr;unfold zaf at hr;rw[h0] at hr;rcases zmy ((plOk_iff.1 (plO_iff.1 h).1).2 c hc) with rfl|rfl|rfl|rfl
  ·simp at hr;omega
  ·simp at hr;omega
  ·simp at hr;omega
  ·simp[inBox] at hr;omega
 exact⟨(hd c hc).1,(hd c hc).2,by omega,by omega⟩
theorem z3c{w:World}{g base sz n:Nat}{S:St}{v:Value}{xs:List Value}(o:w.ownsRow base 61 sz v n xs)(h:CurS w g S):v.ownBlock≠some g:=by obtain⟨cs,hB⟩:=h.blk;exact zao o hB (by decide)
set_option maxRecDepth 100000 in
theorem zx8{w:World}{A:Option Addr}{c m:Nat}{b:List Nat}{t n:Int}(h:Reads w w.heap.size 1 A m (za2 .u8 b))(h8:∀x∈b,x<256)(hm:m<=140737488351232)(hn0: -9223372036854775808<=n)(hn1:n<=9223372036854775807):
 Calls Tryz.prog 183 #[.int .i64 t,.slice A m c,.int .i64 n] w (qjd t b n w):=by
 obtain rfl:m=b.length:=h.len;have C:=Hz (zfh (c:=c) h (by omega) h8);have hok:St.ok (some b):=St.ok_some h8;obtain⟨cnt,S1,k1⟩:∃cnt S1,lenS n (some b)=(cnt,S1):=⟨_,_,rfl⟩;have hok1:S1.ok:=by have:=zba (m:=n) hok;rwa[k1] at this
 obtain⟨sz,S2,k2⟩:∃sz S2,lenS ((S1.getD []).length:Int) S1=(sz,S2):=⟨_,_,rfl⟩;have hok2:S2.ok:=by have:=zba (m:=((S1.getD []).length:Int)) hok1;rwa[k2] at this
 obtain⟨x,S3,k3⟩:∃x S3,zbr (sz:Int) S2=(x,S3):=⟨_,_,rfl⟩;have htk:=zct (n:=(sz:Int)) hok2;rw[k3] at htk;obtain⟨y,S4,k4⟩:∃y S4,zbr ((S3.getD []).length:Int) S3=(y,S4):=⟨_,_,rfl⟩;have hty:=zct (n:=((S3.getD []).length:Int)) htk.1;rw[k4] at hty;have hs1:(S1.getD []).length<=b.length:=by have:=zc3 (m:=n) hok;rwa[k1] at this
 have hs2:(S2.getD []).length<=(S1.getD []).length:=by have:=zc3 (m:=((S1.getD []).length:Int)) hok1;rwa[k2] at this
 have hs3:(S3.getD []).length<=(S2.getD []).length:=by have:=zg3 (n:=(sz:Int)) S2;rwa[k3] at this
 have hszl:(sz:Int)<=((S1.getD []).length:Int):=by have:=zbx (m:=((S1.getD []).length:Int)) S1 (by omega) hok1;rwa[k2] at this
 have hxl:x.length<=b.length:=by have:=zem (n:=(sz:Int)) (S:=S2) (by omega);rw[k3] at this;dsimp only at this;omega
 have hyl:y.length<=b.length:=by have:=zem (n:=((S3.getD []).length:Int)) (S:=S3) (by omega);rw[k4] at this;dsimp only at this;omega
 have MK:=Hz (fun o1 o2 (hp:IsPl zai t x (cnt:Int) o1) (hd:IsDec y n o2)=>zzo h8 (by omega) hn1 k1 k2 k3 hp k4 hd);have HX8:=Hz htk.2;have HY8:=Hz hty.2;clear hok hok1 hok2 htk hty h h8;go_enter Tryz.func183,Tryz.ntmps183
 go_wp2_with fail
 refine C.out.mono ?_;rintro e w1 ⟨g,rfl,hg,C1,b1⟩;have L1:=zcc (m:=n) (CurS.of C1) hn0 hn1;rw[k1] at L1;have L1:=Hz L1;clear C C1;go_wp2_with fail
 refine L1.out.mono ?_;rintro e w2 ⟨rfl,s2,g2⟩;have b2:=Far.below b1 g2 hg (Nat.le_refl _);have LF:=Hz (zua s2);have L2:=zcc (m:=((S1.getD []).length:Int)) s2 (by omega) (by omega);rw[k2] at L2;have L2:=Hz L2;clear L1 g2 b1;unfold zfg at LF;generalize(S1.getD []).length=q1 at*;go_wp2_with fail
 refine LF.out.mono ?_;rintro e w2' ⟨rfl,rfl⟩;go_wp2_with fail
 refine L2.out.mono ?_;rintro e w3 ⟨rfl,s3,g3⟩;have b3:=Far.below b2 g3 hg (Nat.le_refl _);have T1:=zc6 (n:=(sz:Int)) s3 (by omega) (by omega);rw[k3] at T1;have T1:=Hz T1;clear L2 g3 b2 LF s2;go_wp2_with fail
 refine T1.out.mono ?_;rintro e w4 ⟨A4,n4,c4,rfl,rfl,o4,s4,g4⟩;have b4:=Far.below b3 g4 hg (Nat.le_refl _);have PD:=Hz (zju (t:=t) (n:=(cnt:Int)) (c:=c4) o4.reads HX8.out (by omega));clear T1 g4 b3 o4 s3;go_wp2_with fail
 refine PD.out.mono ?_;rintro e w5 ⟨o1,hp,h5⟩;have MK:=Hz (fun o2 hd=>MK.out o1 o2 hp hd);cases o1 with
 |none=>
  obtain⟨rfl,b5⟩:=h5;have b05:=New.trans b4 b5;clear PD hp;go_wp2_with fail
  go_ret2
  obtain⟨o2,hd⟩:=zky (b:=y) (n:=n);have:=MK.out o2 hd;refine⟨none,?_,rfl,b05⟩;simpa[qa2] using this
 |some E=>
  obtain⟨A5,n5,c5,rfl,o5,b5⟩:=h5;obtain⟨hE1,hE2,hE3⟩:=hp.sound E rfl;have hfine:=qho hE3 hE2;have hcnt:cnt<=65536:=by have:=(plOk_iff.1 (plO_iff.1 hE2).1).1;omega
  have hEl:E.length=cnt:=by omega
  obtain rfl:cnt=n5:=by have:=(Reads.of_own o5).lenCell;omega
  have HEl:=Hz hEl;clear hEl;have b05:=New.trans b4 b5;have s5:=s4.below b5;have BD:=Hz (zzi s5);have HF:=Hz hfine;clear PD hp b4 b5 s4 hE1 hE2 hE3 hfine;cases S3 with
  |none=>
   go_wp2_with fail
   refine BD.out.mono ?_;rintro e w5' ⟨rfl,rfl⟩;go_wp2_with fail
   go_ret2
   obtain⟨o2,hd⟩:=zky (b:=y) (n:=n);have:=MK.out o2 hd;refine⟨none,?_,rfl,b05⟩;simpa[qa2] using this
  |some R=>
   have UL:=Hz (z1t (c:=c5) (Reads.of_own o5) HF.out (by omega));simp only[Option.isNone_some] at BD;go_wp2_with fail
   refine BD.out.mono ?_;rintro e w5' ⟨rfl,rfl⟩;go_wp2_with fail
   refine UL.out.mono ?_;rintro e w6 ⟨rfl,b6⟩;have b06:=New.trans b05 b6;have s6:=s5.below b6;have o6:=zav o5 b6;clear UL BD b05 s5 b6 o5;by_cases hnd:E.Nodup
   ·have e1:decide E.Nodup=true:=decide_eq_true hnd
    have LF:=Hz (zua s6);have T2:=zc6 (n:=(((some R:St).getD []).length:Int)) s6 (by omega) (by omega);rw[k4] at T2;have T2:=Hz T2;have RG:=s6.lt;have HND:=Hz hnd;clear hnd;unfold zfg at LF;generalize((some R:St).getD []).length=q2 at*;rw[e1];go_wp2_with fail
    refine LF.out.mono ?_;rintro e w6' ⟨rfl,rfl⟩;go_wp2_with fail
    refine T2.out.mono ?_;rintro e w7 ⟨A7,n7,c7,rfl,rfl,o7,s7,g7⟩;have b07:=Far.below b06 g7 hg (Nat.le_refl _);have RD:=Hz (z18 (c:=c7) (n:=n) o7.reads HY8.out (by omega));have r6:=o6.kept g7 (.inr (z3c o6 s6));clear T2 LF g7 b06 o7 s6 s7 o6;go_wp2_with fail
    refine RD.out.mono ?_;rintro e w8 ⟨o2,hd,h8⟩;have HK:=MK.out o2 hd;cases o2 with
    |none=>
     obtain⟨rfl,b8⟩:=h8;go_wp2_with fail
     go_ret2
     refine⟨none,?_,rfl,New.trans b07 b8⟩;simpa[qa2] using HK
    |some P=>
     obtain⟨A8,n8,c8,rfl,o8,b8⟩:=h8;have b08:=New.trans b07 b8;have r8:=zav r6 b8;obtain⟨d1,d2,d3,-⟩:=(hd P).1 rfl;have hn8:n8=P.length:=by have:=o8.len;rwa[zaa] at this
     have IO:=Hz (zw8 (c:=c8) (m:=cnt) o8.reads d3 (by omega) (by omega));have HN8:=Hz hn8;have HD1:=Hz d1;have HD2:=Hz d2;clear RD b07 b8 r6 hd hn8 d1 d2;go_wp2_with fail
     refine IO.out.mono ?_;rintro e w8' ⟨rfl,rfl⟩;by_cases hor:ordL P=some cnt
     ·have e2:decide (ordL P=some cnt)=true:=decide_eq_true hor
      have HK:Hid (IsDic t b n (some (P.map fun p=>E.getD p zh4))):=Hz (by have:=HK;unfold qa2 at this;dsimp only at this;rwa[if_pos ⟨HND.out,hor⟩] at this)
      have hlt:=zsd P cnt hor;have HLT:=Hz hlt;have hz8:=b08.size;have hn8:=HN8.out;have d1:=HD1.out;have d2:=HD2.out;obtain⟨N,rfl⟩:∃N:Nat,n=(N:Int):=⟨P.length,d1.symm⟩;obtain rfl:n8=N:=by omega
      have RE:=Hz (Reads.of_own r8);have RP:=Hz o8.reads;have HPl:=Hz hn8.symm;have hn8b:n8<=65536:=by omega
      clear IO hor hlt r8 o8 d1 d2 d3 hn8 MK HN8 HD1 HD2;rw[e2]
      go_wp2_with (refine zev qfi rfl (.tmp 63) (.tmp 63) rfl (W:=w) (B:=w.heap.size) n8 rfl rfl rfl rfl b08 hz8 (by omega) (by simp only[maxLen];omega) ?_
                   intro w9 o9 g9 b9 hs9)
      rw[zg6] at o9;have b89:New w8 w9:=(Turns.of_none (T:=[]) g9).new (by simp);go_loopw [67] (fun i wr=>∃k:Nat,k<=n8/\i= .int .i64 (k:Int)/\wr.ownsRow w8.heap.size 61 5 (.slice (some ⟨w8.heap.size,0,none⟩) n8 n8) n8 (recs zan ((P.take k).map (fun p=>E.getD p zh4)++List.replicate (n8-k) zaz))/\New w8 wr) (fun i _=>n8-(intOf i).toNat)
      case atStart=>exact⟨0,Nat.zero_le _,rfl,by simpa using o9,b89⟩
      case round=>
       obtain⟨k,hk,rfl,o,hb⟩:=hrel;clear o9 g9 b9 b89 hs9;by_cases hlt:k<n8
       ·obtain⟨ax,rfl,hbx,qx⟩:=(Reads.later RP.out hb).num (i:=k) hlt
        have hxl:=HLT.out (P.getD k 0) (by rw[List.getD_eq_getElem?_getD,List.getElem?_eq_getElem (by rw[HPl.out];exact hlt)];exact List.getElem_mem _);have htk:=zae P k 0 (by rw[HPl.out];exact hlt);have hA:((P.take k).map (fun p=>E.getD p zh4)).length=k:=by rw[List.length_map,List.length_take,HPl.out];omega
        rw[show n8-k=(n8-(k+1))+1 by omega,List.replicate_succ] at o;have enx:recs zan ((P.take k).map (fun p=>E.getD p zh4)++E.getD (P.getD k 0) zh4::List.replicate (n8-(k+1)) zaz)=recs zan ((P.take (k+1)).map (fun p=>E.getD p zh4)++List.replicate (n8-(k+1)) zaz):=by rw[htk,List.map_append,List.append_assoc];rfl
        obtain⟨ae,rfl,hbe,q0,q1,q2,q3,q4⟩:=(Reads.later RE.out hb).cell5 (i:=P.getD k 0) hxl;have HN:=Hz enx;clear enx htk;generalize P.getD k 0=x at*;generalize E.getD x zh4=y at*;obtain⟨y0,y1,y2,y3,y4⟩:=y;dsimp only at q0 q1 q2 q3 q4;have ead:(⟨w8.heap.size,0,none⟩:Addr).add (k*5)=⟨w8.heap.size,k*5,none⟩:=by unfold Addr.add;split<;> simp_all
        have HO:=Hz o;have HA:=Hz hA;clear o hA
        go_wp2_with (refine zvy rfl 61 (.tmp 78) (.tmp 77) rfl (new:=(y0,y1,y2,y3,y4)) HO.out HA.out hlt rfl rfl (by kernel_rfl) ?_
                     intro W5 o5 g5;rw[HN.out] at o5;have hb5:=Far.below hb g5 (Nat.le_refl _) (Nat.le_refl _))
        go_roundw
        case rel=>exact⟨k+1,by omega,by go_num,o5,hb5⟩
        case measure=>simp[intOf];omega
       ·have hkk:k=n8:=by omega
        subst hkk;rw[Nat.sub_self,List.replicate_zero,List.append_nil,show P.take k=P from List.take_of_length_le (by rw[HPl.out];exact Nat.le_refl _)] at o;go_wp2_with fail
        go_ret2
        exact⟨_,HK.out,_,_,_,rfl,zbg o hz8,New.trans b08 hb⟩
     ·have e2:decide (ordL P=some cnt)=false:=decide_eq_false hor
      rw[e2];go_wp2_with fail
      go_ret2
      refine⟨none,?_,rfl,b08⟩;unfold qa2 at HK;dsimp only at HK;rwa[if_neg (fun h=>hor h.2)] at HK
   ·have e1:decide E.Nodup=false:=decide_eq_false hnd
    rw[e1];go_wp2_with fail
    go_ret2
    obtain⟨o2,hd⟩:=zky (b:=y) (n:=n);have HK:=MK.out o2 hd;refine⟨none,?_,rfl,b06⟩;unfold qa2 at HK;cases o2 with
    |none=>exact HK
    |some P=>
     dsimp only at HK;rwa[if_neg (fun h=>hnd h.1)] at HK
open Go.RowKit Go.Hm
theorem z78(t:Int)(l:List zab)(k:Nat):zcw t l (k+1)=if(zx7 t (k:Int) l).1=0/\((zcw t l k).1<0\/(zx7 t (k:Int) l).2.length<(zcw t l k).2) then((k:Int),(zx7 t (k:Int) l).2.length) else zcw t l k:=by
 rw[zcw];unfold zx7;cases hf:fitsV t (k:Int) with
 |false=>simp
 |true=>
  cases hv:zdz t (k:Int) l with
  |none=>simp
  |some b=>simp
set_option maxRecDepth 100000 in
theorem z79{w:World}{t:Int}{A:Option Addr}{n c:Nat}{L:List zab}(h:Reads w w.heap.size 5 A n (recs zan L))(hL:∀y∈L,CellFine y)(hn:n<=65536):
 Calls Tryz.prog 135 #[.int .i64 t,.slice A n c] w (zak (.int .i64 (bestV t L)) w):=by
 have V:=Hz (fun(W:World) (hW:New w W) (e:Int)=>zjx (t:=t) (e:=e) (c:=c) (Reads.later h hW) hL hn);have HK:=Hz (zsx t L);have ST:=Hz (z78 t L);have HE:Hid (bestV t L=(zcw t L 5).1):=Hz rfl;have H0:Hid (zcw t L 0=(-1,0)):=Hz rfl;generalize bestV t L=Z at*;generalize hB:zcw t L=B at*;generalize hG:(fun k:Nat=>zx7 t (k:Int) L)=G at*;have V2:Hid (∀(W:World) (k:Nat),New w W->Calls Tryz.prog 136 #[.int .i64 t,.int .i64 (k:Int),.slice A n c] W (zhz (G k) W)):=Hz (by subst hG;exact fun W k hW=>V.out W hW (k:Int));have ST2:Hid (∀k,B (k+1)=if(G k).1=0/\((B k).1<0\/(G k).2.length<(B k).2) then((k:Int),(G k).2.length) else B k):=Hz (by subst hG;exact ST.out);clear V h hL hB hG ST;go_enter Tryz.func135,Tryz.ntmps135
 go_wp2_with fail
 go_loopw [5,6,7] (fun p f i wr=>∃k:Nat,k<=5/\i= .int .i64 (k:Int)/\p= .int .i64 (B k).1/\f= .int .i64 ((B k).2:Int)/\New w wr) (fun _ _ i _=>5-(intOf i).toNat)
 case atStart=>exact⟨0,by omega,rfl,by rw[H0.out],by rw[H0.out];rfl,New.refl _⟩
 case round=>
  obtain⟨k,hk,rfl,rfl,rfl,b⟩:=hrel;by_cases hlt:k<5
  ·have V3:=Hz (V2.out _ k b)
   have hst:=ST2.out k;obtain⟨⟨p,f⟩,hpf⟩:∃x,B k=x:=⟨_,rfl⟩;obtain⟨⟨er,bs⟩,hgk⟩:∃x,G k=x:=⟨_,rfl⟩;rw[hpf,hgk] at hst;rw[hpf];rw[hgk] at V3;have HST:=Hz hst;have i1:(k:Int)<=4:=by omega
   clear hst hpf hgk;go_wp2_with fail
   refine V3.out.mono ?_;rintro e W1 ⟨A1,n1,c1,rfl,o1,b1⟩;obtain rfl:n1=bs.length:=by simpa[za2] using o1.len
   clear V3;by_cases h1:er=0
   ·subst h1
    by_cases h2:p<0
    ·go_wp2_with fail
     go_roundw
     case rel=>exact⟨k+1,by omega,by go_num,by rw[HST.out,if_pos ⟨by trivial,.inl h2⟩],by rw[HST.out,if_pos ⟨by trivial,.inl h2⟩],New.trans b b1⟩
     case measure=>simp[intOf];omega
    ·by_cases h3:bs.length<f
     ·have i3:(bs.length:Int)<(f:Int):=by omega
      go_wp2_with fail
      go_roundw
      case rel=>exact⟨k+1,by omega,by go_num,by rw[HST.out,if_pos ⟨by trivial,.inr h3⟩],by rw[HST.out,if_pos ⟨by trivial,.inr h3⟩],New.trans b b1⟩
      case measure=>simp[intOf];omega
     ·have i3:decide ((bs.length:Int)<(f:Int))=false:=decide_eq_false (by omega)
      have h4: ¬(p<0\/bs.length<f):=by rintro(q|q);exact h2 q;exact h3 q
      have H4:=Hz h4;clear h4;go_wp2_with fail
      go_roundw
      case rel=>exact⟨k+1,by omega,by go_num,by rw[HST.out,if_neg (fun q=>H4.out q.2)],by rw[HST.out,if_neg (fun q=>H4.out q.2)],New.trans b b1⟩
      case measure=>simp[intOf];omega
   ·have H1:=Hz h1
    have i2:(er==0)=false:=by simpa using h1
    go_wp2_with fail
    go_roundw
    case rel=>exact⟨k+1,by omega,by go_num,by rw[HST.out,if_neg (fun q=>H1.out q.1)],by rw[HST.out,if_neg (fun q=>H1.out q.1)],New.trans b b1⟩
    case measure=>simp[intOf];omega
  ·have hk5:k=5:=by omega
   subst hk5;go_wp2_with fail
   go_ret
   exact⟨by rw[HE.out];rfl,b⟩
open Go.RowKit Go.Hm
theorem qcq{l:List zab}(h:∀c∈l,zai c):∀x∈zf5 l,ze5 x:=fun x hx=>by obtain⟨c,hc,rfl⟩:=List.mem_map.1 hx;exact(h c hc).2
theorem z0o{t:Int}{l:List zab}(h:zh5 t l=true)(ht:t=3):(∀x∈zjv 0 (xsV l),ze5 x)/\ ∀x∈zjv 0 (ysV l),ze5 x:=by
 subst ht;have hr:=(plOk_iff.1 h).2;have hb:∀c∈l,(-1048576<=c.2.2.2.1/\c.2.2.2.1<=1048576)/\ -1048576<=c.2.2.2.2/\c.2.2.2.2<=1048576:=fun c hc=>by have:=zl1 (hr c hc);omega
 refine⟨fun x hx=>?_,fun x hx=>?_⟩
 ·have:=zsw (a:=0) (by omega) (fun z hz=>by obtain⟨c,hc,rfl⟩:=List.mem_map.1 hz;exact(hb c hc).1) x hx
  unfold ze5;omega
 ·have:=zsw (a:=0) (by omega) (fun z hz=>by obtain⟨c,hc,rfl⟩:=List.mem_map.1 hz;exact(hb c hc).2) x hx
  unfold ze5;omega
theorem z0p{t e:Int}{l:List zab}{b:List Nat}(hd:∀c∈l,zai c)(h:zdz t e l=some b):b.length<=100000000000:=by
 have hok:=zok h;have hl:=(plOk_iff.1 hok).1.2.2;unfold zdz at h;split at h
 ·have:=zxg hok
  rw[<-(plO_iff.1 h).2];omega
 ·split at h
  ·have:=z5y h
   omega
  ·try rw[if_pos hok] at h
   split at h
   ·injection h with h
    have:=zsm (zko hd) (by unfold zew;rw[List.length_map];exact hl);rw[show(zew l).length=l.length by unfold zew;rw[List.length_map]] at this;rw[<-h];omega
   ·split at h
    ·split at h
     ·rename_i ht
      obtain⟨d1,d2⟩:=z0o hok ht;unfold encPts at h;split at h
      ·rename_i x y hx hy
       have a1:=zhp d1 hx;have a2:=zhp d2 hy;have a3:=zap (n:=x.length) (by omega);injection h with h;rw[<-h,List.length_append,List.length_append];omega
      ·cases h
     ·have:=zhp (qcq hd) h
      omega
    ·unfold zxj at h
     split at h
     ·rename_i hf
      obtain⟨f1,f2,f3⟩:=(zfj _).1 hf;have:=zzt [] (zfk l) f2;injection h with h;rw[<-h];omega
     ·cases h
theorem qf7{t e:Int}{l:List zab}{b:List Nat}(hd:∀c∈l,zai c)(h:zdz t e l=some b):∀x∈b,x<256:=by
 have hok:=zok h;unfold zdz at h;split at h
 ·rw[<-(plO_iff.1 h).2]
  exact z6q (fun c hc=>(hd c hc).1.2)
 ·split at h
  ·exact qbb hd h
  ·try rw[if_pos hok] at h
   split at h
   ·injection h with h
    rw[<-h];exact zob (zko hd)
   ·split at h
    ·split at h
     ·rename_i ht
      obtain⟨d1,d2⟩:=z0o hok ht;unfold encPts at h;split at h
      ·rename_i x y hx hy
       injection h with h;rw[<-h];intro z hz;rcases List.mem_append.1 hz with hz|hz
       ·rcases List.mem_append.1 hz with hz|hz
        ·exact zzu _ _ (Nat.le_refl _) z hz
        ·exact zti hx z hz
       ·exact zti hy z hz
      ·cases h
     ·exact zti h
    ·exact qfr (fun s hs=>by obtain⟨c,hc,rfl⟩:=List.mem_map.1 hs;exact(hd c hc).1.2) h
theorem zru{l:List zab}(h:l.length<=65536):(zb4 l).length<=8193:=by unfold zb4;rw[zbk,zfa];omega
theorem ztj{t:Int}{nu:Bool}{e:Int}{l:List zab}{b:List Nat}{k:Int}(hd:∀c∈l,zai c)(h:pgE t nu e l=(k,b)):b.length<=100000010000:=by
 by_cases hk:k=0
 ·subst hk
  obtain⟨_,h1,_,_,d,h2,rfl⟩:=zik h;have a:=z0p (zkq hd) h2;have b:=zru h1;have c:=zap (n:=l.length) (by omega);simp only[List.length_cons,List.length_append];split<;> simp<;> omega
 ·have:b=[]:=by
   unfold pgE at h;split at h
   ·injection h with _ h;exact h.symm
   ·split at h
    ·injection h with _ h;exact h.symm
    ·split at h
     ·split at h
      ·injection h with h _;exact absurd h.symm hk
      ·injection h with _ h;exact h.symm
     ·injection h with _ h;exact h.symm
  subst this;simp
theorem qd7{t:Int}{nu:Bool}{e:Int}{l:List zab}{b:List Nat}(hd:∀c∈l,zai c)(h:pgE t nu e l=(0,b)):∀x∈b,x<256:=by
 obtain⟨_,_,_,h4,d,h2,rfl⟩:=zik h;have:=(zf4 h4).1;intro x hx;rcases List.mem_cons.1 hx with rfl|hx
 ·omega
 ·rcases List.mem_append.1 hx with hx|hx
  ·exact zzu _ _ (Nat.le_refl _) x hx
  ·rcases List.mem_append.1 hx with hx|hx
   ·split at hx
    ·exact zlx _ _ x hx
    ·cases hx
   ·exact qf7 (zkq hd) h2 x hx
end Go.Proofs.Y
