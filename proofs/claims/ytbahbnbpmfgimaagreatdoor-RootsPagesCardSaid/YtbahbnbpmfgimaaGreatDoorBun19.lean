/- Merged. -/
import Derived.Test.YtbahbnbpmfgimaaGreatDoorBun15
import Derived.Test.YtbahbnbpmfgimaaGreatDoorBun16
set_option maxHeartbeats 4000000
namespace Go.Hm
open Go Go.RowKit
def zl8(t:Int)(s:zdc):List Nat:=plB t [s.2.2.1,s.2.2.2]
def putS(l:List Nat)(t:Int)(s:zdc):List Nat:=
 if zcc t s then(if s.2.1 then l++vp s.1.toNat++[1]++vp (zl8 t s).length++zl8 t s else l++vp s.1.toNat++[0]) else l
theorem zle{t:Int}{s:zdc}(h:zcc t s=true):(0<=t/\t<=3)/\0<=s.1/\s.1<=65536:=by
 unfold zcc at h;split at h
 ·simp at h
 ·omega
theorem zl9{t:Int}{s:zdc}(h:zcc t s=true)(hh:s.2.1=true):zaf s.2.2.1 t false=true/\zaf s.2.2.2 t false=true/\zjs t s.2.2.1 s.2.2.2<=0:=by
 unfold zcc at h;split at h
 ·simp at h
 ·simpa[hh] using h
theorem z8d{t:Int}{s:zdc}(h:zcc t s=true)(hh:s.2.1=true):zk4 t [s.2.2.1,s.2.2.2]=true:=by
 obtain⟨h1,h2,-⟩:=zl9 h hh;have h3:=(zle h).1;rw[plOk_iff];refine⟨⟨h3.1,h3.2,by simp⟩,fun c hc=>?_⟩;simp at hc;rcases hc with rfl|rfl
 ·exact h1
 ·exact h2
end Go.Hm
namespace Go.Proofs.Y
open Go.RowKit Go.Hm
theorem zti{t:Int}{s:zdc}(h:zcc t s=true)(hh:s.2.1=true):(zl8 t s).length<=131112:=by
 obtain⟨h1,h2,-⟩:=zl9 h hh;have a:=zyd h1;have b:=zyd h2;have ta:s.2.2.1.2.2.1.length<=65536:=zjc h1;have tb:s.2.2.2.2.2.1.length<=65536:=zjc h2;unfold zl8 plB;split
 ·rw[zbg];simp
 ·simp only[qp1,qqi,qm3,qni]
  omega
def statData(s:zdc):Prop:=zaq s.2.2.1/\zaq s.2.2.2
theorem statData.fine{s:zdc}(h:statData s):zeb s:=⟨h.1.1,h.2.1⟩
set_option maxRecDepth 100000 in
theorem z8e{w:World}{A:Option Addr}{n c:Nat}{l:List Nat}{t:Int}{s:zdc}(h:Reads w w.heap.size 1 A n (zan .u8 l))(hn:n<=100000000)(hs:statData s):
 Calls Tryz.prog 113 #[.slice A n c,.int .i64 t,zcg s] w (zcm (putS l t s) w):=by
 obtain rfl:n=l.length:=h.len;have HR:=Hz h;have SR:=fun(W:World)=>zha (w:=W) (t:=t) hs.fine
 have hrn:=fun(e:zcc t s=true)=>zle e
 have PE:=fun(e:zcc t s=true) (eh:s.2.1=true) (W:World)=>zk8 (t:=t) (c:=2) (Reads.litR W 75 (za0 s.2.2.1++za0 s.2.2.2).toArray 2 5 (recs za0 [s.2.2.1,s.2.2.2]) (by simp[recs]) (by simp[recs,za0])) (fun y hy=>by simp at hy;rcases hy with rfl|rfl;exact hs.1;exact hs.2) (by omega)
 have pe2:=fun(e:zcc t s=true) (eh:s.2.1=true)=>(show plO t [s.2.2.1,s.2.2.2]=some (zl8 t s) by unfold plO zl8;rw[if_pos (z8d e eh)])
 have hel:=fun(e:zcc t s=true) (eh:s.2.1=true)=>zti e eh
 obtain⟨M,hM⟩:∃M,M=putS l t s:=⟨_,rfl⟩;rw[<-hM];unfold putS at hM;clear hs h;generalize zcc t s=R at*;generalize zl8 t s=E at*;obtain⟨nn,b,⟨p1,p2,p3,p4,p5⟩,⟨q1,q2,q3,q4,q5⟩⟩:=s;dsimp only at hrn PE pe2 hel hM;have SR:Hid (∀W,Calls Tryz.prog 133 #[.int .i64 t,.agg #[.int .i64 nn,.bool b,.bool p1,.int .i64 p2,.string (zae p3),.int .i64 p4,.int .i64 p5,.bool q1,.int .i64 q2,.string (zae q3),.int .i64 q4,.int .i64 q5]] W (zal (.bool R) W)):=Hz SR;show Calls Tryz.prog 113 #[.slice A l.length c,.int .i64 t,.agg #[.int .i64 nn,.bool b,.bool p1,.int .i64 p2,.string (zae p3),.int .i64 p4,.int .i64 p5,.bool q1,.int .i64 q2,.string (zae q3),.int .i64 q4,.int .i64 q5]] w (zcm M w);have B0:=Blk.new w 133 #[.int .i64 nn,.bool b,.bool p1,.int .i64 p2,.string (zae p3),.int .i64 p4,.int .i64 p5,.bool q1,.int .i64 q2,.string (zae q3),.int .i64 q4,.int .i64 q5];have hb:New w (w.alloc (.cells #[.int .i64 nn,.bool b,.bool p1,.int .i64 p2,.string (zae p3),.int .i64 p4,.int .i64 p5,.bool q1,.int .i64 q2,.string (zae q3),.int .i64 q4,.int .i64 q5] 133)):=(Below.refl _ _).alloc (qmt _) _;obtain⟨x0,x1,x2,x3,x4,x5,x6,x7,x8,x9,x10,x11⟩:=za9 B0;have HPE:=Hz PE;have Hpe2:=Hz pe2;have Hhel:=Hz hel;clear PE pe2 hel;cases R with
 |false=>
  rw[if_neg (by simp)] at hM;have HM:=Hz hM;clear hM hrn HPE Hpe2 Hhel;go_enter Tryz.func113,Tryz.ntmps113
  go_wp2_with fail
  refine(SR.out _).mono ?_;rintro e w1 ⟨rfl,b1⟩;have b01:=New.trans hb b1;have CL:=Hz (zg8 (c:=c) (Reads.later HR.out b01) (by omega));clear b1 hb B0 x0 x1 x2 x3 x4 x5 x6 x7 x8 x9 x10 x11;go_wp2_with fail
  refine CL.out.mono ?_;rintro e w2 ⟨A2,n2,c2,rfl,k2,b2⟩;go_wp2_with fail
  go_ret
  rw[HM.out];exact⟨_,_,_,rfl,k2.base_le b01.size,New.trans b01 b2⟩
 |true=>
  rw[if_pos rfl] at hM;obtain⟨-,⟨n0,n1⟩⟩:=hrn rfl;clear hrn;obtain⟨N,rfl⟩:=qon n0;rw[qng] at hM;have hw:IntKind.u64.wrap (N:Int)=(N:Int):=by rw[IntKind.wrap_u64];omega
  have V:=zap (n:=N) (by omega);cases b with
  |false=>
   rw[if_neg (by simp)] at hM;have HM:=Hz hM;clear hM HPE Hpe2 Hhel;go_enter Tryz.func113,Tryz.ntmps113
   go_wp2_with fail
   refine(SR.out _).mono ?_;rintro e w1 ⟨rfl,b1⟩;have b01:=New.trans hb b1;have B1:=B0.below b1 B0.lt;clear b1 hb B0 x0 x1 x2 x3 x4 x5 x6 x7 x8 x9 x10 x11;obtain⟨x0,x1,x2,x3,x4,x5,x6,x7,x8,x9,x10,x11⟩:=za9 B1;have P:=Hz (zc1 A l.length c l N w1 (Reads.later HR.out b01) (by omega) (by omega));go_wp2_with fail
   refine P.out.mono ?_;rintro e w2 ⟨A2,n2,c2,rfl,k2,b2⟩;have hq2:n2<=100000010:=by have:=k2.len;rw[zaa,qni] at this;omega
   have b02:=New.trans b01 b2;have hz2:=b2.size;have B2:=B1.below b2 B1.lt;clear P b2 B1 x0 x1 x2 x3 x4 x5 x6 x7 x8 x9 x10 x11;obtain⟨x0,x1,x2,x3,x4,x5,x6,x7,x8,x9,x10,x11⟩:=za9 B2;have hz1:=b01.size
   go_wp2_with (refine zcj elB rfl (.tmp 24) (.tmp 25) rfl (W:=w) (B:=w.heap.size) (k2.base_le hz1) rfl rfl 0 rfl b02 (qmt _) (by omega) (by omega) (by simp only[maxLen];omega) ?_
                intro A5 c5 w5 _ _ o5 _ b5 _ _)
   go_ret
   rw[HM.out];exact⟨_,_,_,rfl,o5,b5⟩
  |true=>
   rw[if_pos rfl] at hM;have PE:=HPE.out rfl rfl;rw[Hpe2.out rfl rfl] at PE;have hel:=Hhel.out rfl rfl;have PE:Hid (∀W:World,Calls Tryz.prog 134 #[.int .i64 t,.slice (some ⟨W.heap.size,0,none⟩) 2 2] (W.alloc (.cells #[.bool p1,.int .i64 p2,.string (zae p3),.int .i64 p4,.int .i64 p5,.bool q1,.int .i64 q2,.string (zae q3),.int .i64 q4,.int .i64 q5] 75)) (OptB (some E) (W.alloc (.cells #[.bool p1,.int .i64 p2,.string (zae p3),.int .i64 p4,.int .i64 p5,.bool q1,.int .i64 q2,.string (zae q3),.int .i64 q4,.int .i64 q5] 75)))):=Hz PE;have HM:=Hz hM;clear hM HPE Hpe2 Hhel;have V2:=zap (n:=E.length) (by omega);have P2:=Hz (fun(W:World)=>zc1 none 0 0 [] E.length W Reads.none_ (by omega) (by omega));have hw2:IntKind.u64.wrap (E.length:Int)=(E.length:Int):=by rw[IntKind.wrap_u64];omega
   go_enter Tryz.func113,Tryz.ntmps113
   go_wp2_with fail
   refine(SR.out _).mono ?_;rintro e w1 ⟨rfl,b1⟩;have b01:=New.trans hb b1;have B1:=B0.below b1 B0.lt;clear b1 hb B0 x0 x1 x2 x3 x4 x5 x6 x7 x8 x9 x10 x11;obtain⟨x0,x1,x2,x3,x4,x5,x6,x7,x8,x9,x10,x11⟩:=za9 B1;have P:=Hz (zc1 A l.length c l N w1 (Reads.later HR.out b01) (by omega) (by omega));go_wp2_with fail
   refine P.out.mono ?_;rintro e w2 ⟨A2,n2,c2,rfl,k2,b2⟩;have hq2:n2<=100000010:=by have:=k2.len;rw[zaa,qni] at this;omega
   have b02:=New.trans b01 b2;have hz2:=b2.size;have hz1:=b01.size;have B2:=B1.below b2 B1.lt;have o2:=k2.base_le hz1;clear P b2 B1 x0 x1 x2 x3 x4 x5 x6 x7 x8 x9 x10 x11 k2;obtain⟨x0,x1,x2,x3,x4,x5,x6,x7,x8,x9,x10,x11⟩:=za9 B2;go_wp2_with fail
   refine(PE.out _).mono ?_;rintro e w3 ⟨A3,n3,c3,rfl,k3,b3⟩;have ha:New w2 (w2.alloc (.cells #[.bool p1,.int .i64 p2,.string (zae p3),.int .i64 p4,.int .i64 p5,.bool q1,.int .i64 q2,.string (zae q3),.int .i64 q4,.int .i64 q5] 75)):=(Below.refl _ _).alloc (qmt _) _;have b23:=New.trans ha b3;have hap:=zhx k3 (o2.later ha);have o3:=o2.later b23;have b03:=New.trans b02 b23;have hz3:=b23.size;have hn3:n3<=131112:=by have l3:=k3.len;rw[zaa] at l3;omega
   have HNE:Hid (n3=E.length):=Hz (by have l3:=k3.len;rwa[zaa] at l3);have P2:Hid (∀W,Calls Tryz.prog 111 #[.slice none 0 0,.int .u64 (n3:Int)] W (zcm ([]++vp E.length) W)):=Hz (by rw[HNE.out];exact P2.out);have hw2:IntKind.u64.wrap (n3:Int)=(n3:Int):=by rw[IntKind.wrap_u64];omega
   clear ha b3 b23 o2 b02 B2 x0 x1 x2 x3 x4 x5 x6 x7 x8 x9 x10 x11
   go_wp2_with (refine zcj elB rfl (.tmp 37) (.tmp 38) rfl (W:=w) (B:=w.heap.size) o3 rfl rfl 1 rfl b03 (qmt _) (by omega) (by omega) (by simp only[maxLen];omega) ?_
                intro A5 c5 w5 _ _ o5 g5 b5 _ d5)
   have hap5:=zlb hap d5 k3;have k5:=k3.kept g5 hap;have hz5:=b5.size;refine(P2.out _).mono ?_;rintro e w6 ⟨A6,n6,c6,rfl,k6,b6⟩;rw[qnk] at k6;have hq6:n6<=10:=by have:=k6.len;rw[zaa] at this;omega
   have o6:=o5.later b6;have k56:=k5.later b6;have b06:=New.trans b5 b6;have hz6:=b06.size;clear k3 k5 o3 b03 o5 b5 b6 hap g5 d5;go_wp2_with (first
    |(refine zam elB rfl (.tmp 40) (.tmp 44) rfl (W:=w) (B:=w.heap.size) o6 k6.reads rfl rfl b06 (qmt _) (by omega) (by omega) (by simp only[maxLen];omega) ?_
      intro A7 c7 w7 _ _ o7 g7 b7 _;have k7:=k56.kept g7 hap5;have hz7:=b7.size)
    |(refine zam elB rfl (.tmp 46) (.tmp 47) rfl (W:=w) (B:=w.heap.size) o7 k7.reads rfl rfl b7 (qmt _) (by omega) (by omega) (by simp only[maxLen];omega) ?_
      intro A8 c8 w8 _ _ o8 _ b8 _))
   go_ret
   rw[HM.out];exact⟨_,_,_,rfl,o8,b8⟩
end Go.Proofs.Y
namespace Go.Hm
open Go.RowKit
def fitsV(typ enc:Int):Bool:=decide ((enc=0\/enc=1)/\0<=typ/\typ<=3\/enc=2/\(typ=0\/typ=1)\/enc=3/\(typ=0\/typ=3)\/enc=4/\typ=2)
def zvr(t e:Int):Prop:=e= -1\/fitsV t e=true
instance(t e:Int):Decidable (zvr t e):=by unfold zvr;exact inferInstance
def zeg(g p:Int)(encs:List Int)(cols:List zbb):Int:=
 if¬(1<=g/\g<=65536/\1<=p/\p<=65536/\encs.length=cols.length) then 1 else if∀i,i<encs.length->zvr (cols.getD i ([],0,false)).2.1 (encs.getD i 0) then 0 else 3
end Go.Hm
namespace Go.Proofs.Y
open Go.RowKit Go.Hm
theorem zlf(t e:Int)(w:World):Calls Tryz.prog 85 #[.int .i64 t,.int .i64 e] w (zdm (.bool (fitsV t e)) w):=by
 generalize hO:fitsV t e=O;have HO:=Hz hO;clear hO;go_enter Tryz.func85,Tryz.ntmps85
 go_wp2
 all_goals go_ret
 all_goals
  simp only[beq_iff_eq,beq_eq_false_iff_ne,ne_eq] at*;rw[<-HO.out];refine⟨congrArg (fun b=>Ending.returned (.bool b)) ?_,rfl⟩;rw[qm6];simp only[fitsV,decide_eq_true_eq,qo3,beq_iff_eq,qrc,false_iff,true_iff];omega
theorem zvs(n:Int)(w:World):Calls Tryz.prog 84 #[.int .i64 n] w (zdm (.bool (decide (1<=n/\n<=65536))) w):=by
 generalize hO:decide (1<=n/\n<=65536)=O;have HO:=Hz hO;clear hO;go_enter Tryz.func84,Tryz.ntmps84
 go_wp2
 all_goals go_ret
 all_goals
  rw[<-HO.out];refine⟨congrArg (fun b=>Ending.returned (.bool b)) ?_,rfl⟩;rw[qm6];simp only[decide_eq_true_eq,qrc,false_iff];omega
abbrev Cv(g p:Int)(A:Option Addr)(n c:Nat):Value:= .agg #[.int .i64 g,.int .i64 p,.slice A n c]
theorem z8p{g p:Int}{E:List Int}{L:List zbb}(hg:1<=g/\g<=65536/\1<=p/\p<=65536/\E.length=L.length)(h:∀i,i<E.length->zvr (L.getD i ([],0,false)).2.1 (E.getD i 0)):zeg g p E L=0:=by unfold zeg;rw[if_neg (by simpa using hg),if_pos h]
theorem z3s{g p:Int}{E:List Int}{L:List zbb}(hg:1<=g/\g<=65536/\1<=p/\p<=65536/\E.length=L.length){i:Nat}(hi:i<E.length)(h: ¬zvr (L.getD i ([],0,false)).2.1 (E.getD i 0)):zeg g p E L=3:=by unfold zeg;rw[if_neg (by simpa using hg),if_neg (fun hh=>h (hh i hi))]
theorem z8q{g p:Int}{E:List Int}{L:List zbb}(hg: ¬(1<=g/\g<=65536/\1<=p/\p<=65536/\E.length=L.length)):zeg g p E L=1:=by unfold zeg;rw[if_pos hg]
set_option maxRecDepth 100000 in
theorem z3t{w:World}{A A2:Option Addr}{n c n2 c2:Nat}{g p:Int}{E:List Int}{L:List zbb}(h:Reads w w.heap.size 1 A n (za7 .i64 E))(h2:Reads w w.heap.size 3 A2 n2 (recs zly L))(hn:n<=4611686018427387903):
 Calls Tryz.prog 49 #[Cv g p A n c,.slice A2 n2 c2] w (zal (.int .i64 (zeg g p E L)) w):=by
 have l1:=h.lenI;have l2:=h2.lenC;have b0:New w (w.alloc (.cells #[.int .i64 g,.int .i64 p,.slice A n c] 59)):=(Below.refl _ _).alloc (qmt _) _;have B0:=Blk.new w 59 #[.int .i64 g,.int .i64 p,.slice A n c];obtain⟨x0,x1,x2⟩:=zao B0;have R1:=Hz (fun W=>zvs g W);have R2:=Hz (fun W=>zvs p W);by_cases hg:1<=g/\g<=65536/\1<=p/\p<=65536/\E.length=L.length
 ·rw[decide_eq_true (show 1<=g/\g<=65536 by omega)] at R1
  rw[decide_eq_true (show 1<=p/\p<=65536 by omega)] at R2;have K1:=Hz (fun hh=>z8p hg hh);have K2:=Hz (fun(i:Nat) (hi:i<n) hh=>z3s hg (i:=i) (by omega) hh);have hll:n2=n:=by omega
  have HL:=Hz l1;subst hll;generalize zeg g p E L=O at*;have r1:=Reads.later h b0;have r2:=Reads.later h2 b0;clear hg B0 h h2 l1 l2;go_enter Tryz.func49,Tryz.ntmps49
  go_wp2_with (first
   |(go_at_call 84;(with_reducible refine(R1.out _).mono ?_);rintro e w1 ⟨rfl,rfl⟩)
   |(go_at_call 84;(with_reducible refine(R2.out _).mono ?_);rintro e w1 ⟨rfl,rfl⟩))
  clear x0 x1 x2 R1 R2;obtain⟨W0,hW0⟩:∃W,W=w.alloc (.cells #[.int .i64 g,.int .i64 p,.slice A n2 c] 59):=⟨_,rfl⟩;rw[<-hW0] at b0 r1 r2⊢;clear hW0;go_loopw [28] (fun i wr=>∃k:Nat,i= .int .i64 (k:Int)/\k<=n2/\W0=wr/\Hid (∀j,j<k->zvr (L.getD j ([],0,false)).2.1 (E.getD j 0))) (fun i _=>n2-(intOf i).toNat)
  case atStart=>exact⟨0,rfl,by omega,rfl,Hz (fun j hj=>by omega)⟩
  case round=>
   obtain⟨k,rfl,hk,rfl,H⟩:=hrel;by_cases hlt:k<n2
   ·obtain⟨ad,rfl,hb,hc⟩:=r1.int hlt
    obtain⟨ad2,rfl,hb2,hc0,hc1,hc2⟩:=r2.colT hlt;have K2:=Hz (K2.out k hlt);have N:=Hz (show zvr (L.getD k ([],0,false)).2.1 (E.getD k 0)-> ∀j,j<k+1->zvr (L.getD j ([],0,false)).2.1 (E.getD j 0) from fun hh j hj=>by
     by_cases e:j=k
     ·subst e;exact hh
     ·exact H.out j (by omega))
    generalize(L.getD k ([],0,false)).2.1=t at*;generalize E.getD k 0=e at*;generalize(L.getD k ([],0,false)).2.2=x3 at*;generalize(L.getD k ([],0,false)).1=x4 at*;have hiz:(k:Int)<(n2:Int):=by omega
    have F:=Hz (fun W=>zlf t e W);by_cases he:e= -1
    ·have N2:=Hz (N.out (.inl he))
     subst he;go_wp2
     go_roundw
     case rel=>exact⟨k+1,by go_num,by omega,trivial,N2⟩
     case measure=>simp[intOf];omega
    ·have e1:(e != -1)=true:=by simpa using he
     cases hf:fitsV t e
     ·have K3:=Hz (K2.out (fun hh=>by rcases hh with hh|hh;exact he hh;rw[hf] at hh;cases hh))
      rw[hf] at F;clear hf he;go_wp2_with (go_at_call 85;(with_reducible refine(F.out _).mono ?_);rintro e w1 ⟨rfl,rfl⟩)
      go_ret
      exact⟨by rw[K3.out];rfl,b0⟩
     ·have N2:=Hz (N.out (.inr hf))
      rw[hf] at F;clear hf he;go_wp2_with (go_at_call 85;(with_reducible refine(F.out _).mono ?_);rintro e w1 ⟨rfl,rfl⟩)
      go_roundw
      case rel=>exact⟨k+1,by go_num,by omega,trivial,N2⟩
      case measure=>simp[intOf];omega
   ·have K3:=Hz (K1.out (fun i hi=>H.out i (by have:=HL.out;omega)))
    go_wp2
    go_ret
    exact⟨by rw[K3.out];rfl,b0⟩
 ·have K:=Hz (z8q hg)
  generalize zeg g p E L=O at*;by_cases h1:1<=g/\g<=65536;all_goals try(rw[decide_eq_true h1] at R1)
  all_goals try(rw[decide_eq_false h1] at R1)
  all_goals try(by_cases h2:1<=p/\p<=65536)
  all_goals try(rw[decide_eq_true h2] at R2)
  all_goals try(rw[decide_eq_false h2] at R2)
  all_goals try(have d2:((n:Int) != (n2:Int))=true:=by simp;omega)
  all_goals
   clear hg B0 l1 l2 h1;go_enter Tryz.func49,Tryz.ntmps49
   go_wp2_with (first
    |(go_at_call 84;(with_reducible refine(R1.out _).mono ?_);rintro e w1 ⟨rfl,rfl⟩)
    |(go_at_call 84;(with_reducible refine(R2.out _).mono ?_);rintro e w1 ⟨rfl,rfl⟩))
   go_ret
   exact⟨by rw[K.out];rfl,b0⟩
end Go.Proofs.Y
namespace Go.Hm
open Go Go.RowKit
abbrev za6:=Int × Int × zdc
def zhb(p:za6):List Value:= .int .i64 p.1:: .int .i64 p.2.1::zcb p.2.2
abbrev za4:=Int × List (List za6)
structure FootS where
 cols:List zbb
 rows:Int
 groups:List za4
def zh9(t:Int)(nu:Bool)(p:za6)(most:Int):Bool:=
 if p.2.1<1\/most<p.2.1\/p.1<1\/268435456<p.1 then false
 else zcc t p.2.2&&(decide (p.2.2.1<=p.2.1)&&((p.2.2.2.1==decide (p.2.2.1<p.2.1))&&(nu||decide (p.2.2.1=0))))
def zez(t:Int)(nu:Bool):List za6->Int->Int->Int × Bool
 | [],rows,size=>(size,decide (rows=0))
 |p::l,rows,size=>if zh9 t nu p rows then zez t nu l (rows-p.2.1) (size+p.1) else(0,false)
def zco(l:List za6):Int:=(l.map (·.1)).sum
def zmb(l:List za6):Int:=(l.map (·.2.1)).sum
def zee(t:Int)(nu:Bool)(l:List za6)(rows:Int):Prop:=(∀p∈l,zh9 t nu p 65536=true)/\zmb l=rows
theorem zka(p:za6)(l:List za6):zco (p::l)=p.1+zco l:=by simp[zco]
theorem zhc(p:za6)(l:List za6):zmb (p::l)=p.2.1+zmb l:=by simp[zmb]
theorem pageB_most{t:Int}{nu:Bool}{p:za6}{m:Int}:zh9 t nu p m=true↔(1<=p.2.1/\p.2.1<=m/\1<=p.1/\p.1<=268435456)/\(zcc t p.2.2&&(decide (p.2.2.1<=p.2.1)&&((p.2.2.2.1==decide (p.2.2.1<p.2.1))&&(nu||decide (p.2.2.1=0)))))=true:=by
 unfold zh9;split
 ·rename_i h
  constructor
  ·intro e;cases e
  ·rintro⟨e,_⟩;omega
 ·rename_i h
  constructor
  ·intro e;exact⟨by omega,e⟩
  ·exact fun e=>e.2
theorem zru{t:Int}{nu:Bool}{p:za6}{m k:Int}(h:zh9 t nu p m=true)(hk:p.2.1<=k):zh9 t nu p k=true:=by obtain⟨h1,h2⟩:=pageB_most.1 h;exact pageB_most.2 ⟨by omega,h2⟩
theorem zfg{t:Int}{nu:Bool}:∀{l:List za6},(∀p∈l,zh9 t nu p 65536=true)->0<=zmb l/\(l.length:Int)<=zmb l/\0<=zco l/\zco l<=l.length*268435456
 | [],_=>by simp[zmb,zco]
 |p::l,h=>by
  have h1:=(pageB_most.1 (h p (by simp))).1;have:=zfg (l:=l) fun q hq=>h q (by simp[hq])
  rw[zhc,zka,qnu];omega
theorem zrv{t:Int}{nu:Bool}:∀(l:List za6) (rows size:Int),rows<=65536->((zez t nu l rows size).2=true↔zee t nu l rows)/\(zee t nu l rows->(zez t nu l rows size).1=size+zco l)
 | [],rows,size,_=>by
   simp[zez,zee,zmb,zco];omega
 |p::l,rows,size,hr=>by
  unfold zez;by_cases hp:zh9 t nu p rows=true
  ·rw[if_pos hp]
   have h1:=(pageB_most.1 hp).1;have ih:=zrv (t:=t) (nu:=nu) l (rows-p.2.1) (size+p.1) (by omega);have hiff:zee t nu (p::l) rows↔zee t nu l (rows-p.2.1):=by
    unfold zee;rw[zhc];constructor
    ·rintro⟨a,b⟩
     exact⟨fun q hq=>a q (by simp[hq]),by omega⟩
    ·rintro⟨a,b⟩
     refine⟨fun q hq=>?_,by omega⟩;rcases qof.1 hq with rfl|hq
     ·exact zru hp (by omega)
     ·exact a q hq
   refine⟨ih.1.trans hiff.symm,fun hc=>?_⟩;rw[ih.2 (hiff.1 hc),zka];omega
  ·rw[if_neg hp]
   have hno: ¬zee t nu (p::l) rows:=by
    rintro⟨a,b⟩;have h1:=a p (by simp);have h2:=zfg (l:=l) fun q hq=>a q (by simp[hq])
    rw[zhc] at b;exact hp (zru h1 (by omega))
   exact⟨⟨fun h=>by simp at h,fun h=>absurd h hno⟩,fun h=>absurd h hno⟩
def zch(g:za4):Int:=(g.2.map zco).sum
def GroupOk(cols:List zbb)(g:za4):Prop:=
 1<=g.1/\g.2.length=cols.length/\ ∀i,i<cols.length->zee (cols.getD i ([],0,false)).2.1 (cols.getD i ([],0,false)).2.2 (g.2.getD i []) g.1
def zbu(F:FootS):Prop:=
 zph F.cols/\(∀g∈F.groups,GroupOk F.cols g)/\(F.groups.map (·.1)).sum=F.rows/\F.rows<=65536/\(F.groups.map zch).sum<=1073741824
def zfu(t:Int)(p:za6):List Nat:=vp p.1.toNat++vp p.2.1.toNat++Go.Hm.putS [] t p.2.2
def zgt(t:Int)(l:List za6):List Nat:=vp l.length++l.flatMap (zfu t)
def zcd:List zbb->List (List za6)->List Nat
 |c::cs,l::ls=>zgt c.2.1 l++zcd cs ls
 |_,_=>[]
def zc4(cols:List zbb)(g:za4):List Nat:=vp g.1.toNat++zcd cols g.2
def zeu(F:FootS):List Nat:=putC [] F.cols++vp F.rows.toNat++vp F.groups.length++F.groups.flatMap (zc4 F.cols)
open Go Go.RowKit
theorem qeg(k:IntKind)(l:List Int)(i:Nat)(x:Int):(za7 k l).set i (.int k x)=za7 k (l.set i x):=by simp[za7]
theorem zea(k:IntKind)(n:Nat)(x:Int):za7 k (List.replicate n x)=List.replicate n (.int k x):=by simp[za7]
theorem Own.int0{w:World}{base:Nat}{e:TypeId}{g n c i:Nat}{k:IntKind}{l:List Int}(h:Own w base e (.slice (some ⟨g,0,none⟩) n c) (za7 k l))(hi:i<n):
 base<=g/\g<w.heap.size/\w.cell? ⟨g,i,none⟩=some (.int k (l.getD i 0))/\w.frozen? ⟨g,i,none⟩=false/\
  ∀y:Int,Own (w.setCell ⟨g,i,none⟩ (.int k y)) base e (.slice (some ⟨g,0,none⟩) n c) (za7 k (l.set i y)):=by
 have hn:=h.len;rw[zhn] at hn;obtain⟨u,h3,h1,h2,h4,h5,h6⟩:=h.at0 hi;rw[zn9 k l i (by omega)] at h3;injection h3 with h3;subst h3;exact⟨h1,h2,h4,h5,fun y=>by rw[<-qeg];exact h6 _⟩
theorem zlt{P:List Int}{n k:Nat}(q:Int)(hP:P.length=k)(hk:k<n):(P++List.replicate (n-k) 0).set k q=(P++[q])++List.replicate (n-(k+1)) 0:=by rw[qor _ _ (by omega),hP,qos,show n-k=(n-(k+1))+1 by omega,qot,qou,qm5];rfl
theorem zwi{P:List Nat}{n k:Nat}(q:Nat)(hP:P.length=k)(hk:k<n):(P++List.replicate (n-k) 0).set k q=(P++[q])++List.replicate (n-(k+1)) 0:=by rw[qor _ _ (by omega),hP,qos,show n-k=(n-(k+1))+1 by omega,qot,qou,qm5];rfl
end Go.Hm
namespace Go.Proofs.Y
open Go.RowKit Go.Hm
def qeh(l:List Int)(w:World)(e:Ending)(w':World):Prop:=∃A n c,e= .returned (.slice A n c)/\Go.Hm.Own w' w.heap.size 3 (.slice A n c) (za7 .i64 l)/\New w w'
def OptI(o:Option (List Int))(w:World)(e:Ending)(w':World):Prop:=
 match o with
 |none=>e= .returned (.tuple #[.slice none 0 0,.bool false])/\New w w'
 |some l=>∃A n c,e= .returned (.tuple #[.slice A n c,.bool true])/\Go.Hm.Own w' w.heap.size 3 (.slice A n c) (za7 .i64 l)/\New w w'
set_option maxRecDepth 100000 in
theorem qei{w:World}{A:Option Addr}{n c:Nat}{l:List Int}(h:Reads w w.heap.size 1 A n (za7 .i64 l))(h0:0<n)(hn:n<=1000000):
 Calls Tryz.prog 209 #[.slice A n c] w (zdm (.int .i64 (leastD l)) w):=by
 obtain rfl:=h.lenI;obtain⟨ad,rfl,_,c0⟩:=h.int h0;rw[zel] at c0;have t1: ¬(l.length:Int)<1:=by omega
 have t2: ¬l.length<1:=by omega
 have t3:(0:Int)<(l.length:Int):=by omega
 have HR:=Hz h;have L0:Hid (zg9 l 0=l.getD 0 0):=Hz rfl;have LS:Hid (∀j,0<j->zg9 l j=min (zg9 l (j-1)) (l.getD j 0)):=Hz (fun j hj=>by obtain⟨k,rfl⟩:∃k,j=k+1:=⟨j-1,by omega⟩;rfl)
 have LD:Hid (leastD l=zg9 l (l.length-1)):=Hz rfl;clear h;generalize leastD l=LL at*;generalize zg9 l=LK at*;generalize l.getD 0 0=z0 at*;go_enter Tryz.func209,Tryz.ntmps209
 go_wp2_with fail
 go_loop [3,4] (fun v i=>∃j:Nat,0<j/\j<=l.length/\i= .int .i64 (j:Int)/\v= .int .i64 (LK (j-1))) (fun _ i=>l.length+1-(intOf i).toNat)
 case atStart=>exact⟨1,by omega,h0,rfl,by rw[qos,L0.out]⟩
 case round=>
  obtain⟨j,hj0,hj,rfl,rfl⟩:=hrel;clear c0;by_cases hlt:j<l.length
  ·obtain⟨ad',e,_,c1⟩:=HR.out.int hlt
   injection e with e;subst e;have hs:=LS.out j hj0;have HSK:=Hz hs;clear hs;have hki:(j:Int)<(l.length:Int):=by omega
   have hw:IntKind.i64.wrap ((j:Int)+1)=(j:Int)+1:=by rw[IntKind.wrap_i64];omega
   generalize l.getD j 0=x at*;generalize LK (j-1)=y at*;go_wp2_with fail
   go_round
   case rel=>exact⟨j+1,by omega,by omega,by go_num,by first|(rw[Nat.add_sub_cancel,HSK.out];done)|(rw[Nat.add_sub_cancel,HSK.out];exact congrArg (Value.int .i64) (by split<;> omega))⟩
   case measure=>simp[intOf];omega
  ·have hke:j=l.length:=by omega
   have hki: ¬(j:Int)<(l.length:Int):=by omega
   have hv:LK (j-1)=LL:=by rw[LD.out,hke]
   rw[hv];clear hke hv;go_wp2_with fail
   go_ret
   exact⟨rfl,rfl⟩
set_option maxRecDepth 100000 in
theorem z4c{w:World}{A:Option Addr}{n c:Nat}{l:List Int}(h:Reads w w.heap.size 1 A n (za7 .i64 l))(hn:n<=1000000):
 Calls Tryz.prog 195 #[.slice A n c] w (qeh (zd8 l) w):=by
 obtain rfl:=h.lenI;have HR:=Hz h;have SL:=zjb l;have HAT:=Hz (zu2 l);have HS0:Hid (l.length=0->zd8 l=[]):=Hz (fun e=>by rw[qna e];rfl);clear h;generalize zd8 l=S at*;by_cases h0:l.length=0
 ·have e0:((l.length:Int)==0)=true:=by rw[h0];rfl
  have hS:=HS0.out h0;have HS:=Hz hS;have H0:=Hz h0;clear SL h0 hS;go_enter Tryz.func195,Tryz.ntmps195
  go_wp2
  go_ret
  exact⟨none,0,0,rfl,by rw[HS.out];exact Own.nil_,New.refl _⟩
 ·have e0:((l.length:Int)==0)=false:=by rw[beq_eq_false_iff_ne];omega
  obtain⟨m,hm⟩:∃m,m=l.length-1:=⟨_,rfl⟩;rw[<-hm] at SL;have hlm:l.length=m+1:=by omega
  have hw1:IntKind.i64.wrap ((l.length:Int)-1)=(m:Int):=by rw[IntKind.wrap_i64];omega
  have HLM:=Hz hlm;have HSL:=Hz SL;clear hm hlm SL h0;go_enter Tryz.func195,Tryz.ntmps195
  go_wp2_with (refine zca elI rfl (.tmp 10) (.tmp 10) rfl (W:=w) (B:=w.heap.size) m m rfl rfl rfl rfl (qmt _) (Below.refl _ _) (qmt _) rfl (by have:=HLM.out;omega) (by have:=HLM.out;simp only[maxLen];omega) ?_
               intro w1 o1 _ b1 s1)
  clear hw1 e0;go_loopw [14] (fun i wr=>∃k:Nat,k<=m/\i= .int .i64 (k:Int)/\Go.Hm.Own wr w.heap.size 3 (.slice (some ⟨w.heap.size,0,none⟩) m m) (za7 .i64 (S.take k++List.replicate (m-k) 0))/\New w wr) (fun i _=>m-(intOf i).toNat)
  case atStart=>exact⟨0,qmu _,rfl,by simpa[zea] using o1,b1⟩
  case round=>
   clear o1 b1 s1;obtain⟨k,hk,rfl,o,b⟩:=hrel;by_cases hlt:k<m
   ·have hlm:=HLM.out
    obtain⟨ad,rfl,_,c0⟩:=(Reads.later HR.out b).int (i:=k) (by omega);obtain⟨ad',e,_,c1⟩:=(Reads.later HR.out b).int (i:=k+1) (by omega);injection e with e;subst e;have hat:=HAT.out k (by omega);have htk:=zad S k 0 (by have:=HSL.out;omega);obtain⟨hg0,hgl,hc,hf,hset⟩:=o.int0 (i:=k) hlt;have hsl:(S.take k).length=k:=by rw[qmq];have:=HSL.out;omega
    have hs2:=hset (S.getD k 0);rw[zlt _ hsl hlt,<-htk,hat] at hs2;have HSet:=Hz hs2;generalize(S.take k++List.replicate (m-k) 0).getD k 0=z at*;generalize l.getD k 0=x at*;generalize l.getD (k+1) 0=y at*;have hw2:IntKind.i64.wrap (y-x)=wrI (y-x):=rfl;obtain⟨j,hj⟩:∃j,j=k+1:=⟨_,rfl⟩;rw[<-hj] at c1 HSet;have hw3:IntKind.i64.wrap ((k:Int)+1)=(j:Int):=by rw[IntKind.wrap_i64];omega
    have i1:(k:Int)<(m:Int):=by omega
    have i2:(k:Int)<(l.length:Int):=by omega
    have i3:(j:Int)<(l.length:Int):=by omega
    have HJ:=Hz hj;have HB:=Hz (fun q=>(below_drewN b q).setCell (p:=⟨w.heap.size,k,none⟩) (qmt _) (.int .i64 (wrI (y-x))));clear hat htk hset hs2 hsl hlm hj;go_wp2
    go_still_tail 13,(by kernel_rfl)
    go_wp2
    go_roundw
    case rel=>exact⟨j,by have:=HJ.out;omega,rfl,by first|exact HSet.out|exact(HSet.out).drewN _,by first|exact HB.out _|exact HB.out 0⟩
    case measure=>have:=HJ.out;simp[intOf];omega
   ·obtain rfl:k=m:=by omega
    have hS:S.take k=S:=qnn (by have:=HSL.out;omega);rw[hS,qos,qqd,qm3] at o;clear hS;go_wp2
    go_ret
    exact⟨_,_,_,rfl,o,b⟩
theorem z4d(n:Nat)(w:World)(hn:n<=1000000):Calls Tryz.prog 196 #[.int .i64 (n:Int)] w (zdm (.int .i64 (nblk n:Nat)) w):=by
 have h1:IntKind.i64.wrap ((n:Int)+32)=(n:Int)+32:=by rw[IntKind.wrap_i64];omega
 have hq:((n:Int)+31)/32=((nblk n:Nat):Int):=by unfold nblk;omega
 have HQ:=Hz hq;clear hq;generalize nblk n=q at*;go_enter Tryz.func196,Tryz.ntmps196
 go_wp2
 go_ret
 exact⟨congrArg (fun z=>Ending.returned (.int .i64 z)) (by have:=HQ.out;omega),rfl⟩
open Go.RowKit Go.Hm
set_option maxRecDepth 100000 in
theorem zwj{w:World}{A:Option Addr}{n c:Nat}{l:List Int}(h:Reads w w.heap.size 1 A n (za7 .i64 l))(hl:∀x∈l,zja x)(h0:0<n)(hn:n<=65536):
 Calls Tryz.prog 197 #[.slice A n c] w (OptB (some (blockD l)) w):=by
 obtain rfl:=h.lenI;have MN:=Hz (qei (c:=c) h h0 (by omega));have HR:=Hz h;have hll:=zov hl h0;have ZG:=Hz (fun W:World=>zot (leastD l) W hll.1 hll.2);have PT:=Hz (fun W:World=>zc1 none 0 0 [] (zig (leastD l)) W Reads.none_ (by omega) (by have:=zou hll;omega));have hvl:=zap (zou hll);have hmw:=zs5 hl;have hml:=z69 l;have hw:=zoo _ hmw;have PO:=zfz (zfe l) (wid (zfe l)) hw (by rw[hml];exact hn) (qmt _);have hm:(wid (zfe l)*l.length+7)/8<=524288:=by have:=qqn hw hn;omega
 have hlen:(low (pk (wid (zfe l)) (zfe l)) ((wid (zfe l)*l.length+7)/8)).length=(wid (zfe l)*l.length+7)/8:=zbg _ _;rw[hml] at PO;have HAT:Hid (∀k,k<l.length->(zfe l).getD k 0=(l.getD k 0-leastD l).toNat/\zja (l.getD k 0)/\leastD l<=l.getD k 0):=Hz (fun k hk=>by refine⟨?_,hl _ (zim hk),zu5 (zim hk)⟩;unfold zfe;rw[qoa,qpf,qoa,qmm hk];rfl)
 have HB:Hid (blockD l=vp (zig (leastD l))++[wid (zfe l)]++low (pk (wid (zfe l)) (zfe l)) ((wid (zfe l)*l.length+7)/8)):=Hz (by unfold blockD;simp);have HML:=Hz hml;have HMW:=Hz hmw;have HPO:=Hz PO;have HLL:=Hz hll;clear h hl PO hml hmw hll;generalize blockD l=BD at*;generalize low (pk (wid (zfe l)) (zfe l)) ((wid (zfe l)*l.length+7)/8)=PB at*;generalize(wid (zfe l)*l.length+7)/8=pm at*;generalize zfe l=D at*;generalize leastD l=ll at*;subst hlen;go_enter Tryz.func197,Tryz.ntmps197
 go_wp2_with fail
 refine MN.out.mono ?_;rintro e w1 ⟨rfl,rfl⟩;clear MN
 go_wp2_with (refine zca elW rfl (.tmp 15) (.tmp 15) rfl (W:=w) (B:=w.heap.size) l.length l.length rfl rfl rfl rfl (qmt _) (Below.refl _ _) (qmt _) rfl (by omega) (by simp only[maxLen];omega) ?_
              intro w1 o1 _ b1 s1)
 go_loopw [19] (fun i wr=>∃k:Nat,k<=l.length/\i= .int .i64 (k:Int)/\Go.Hm.Own wr w.heap.size 138 (.slice (some ⟨w.heap.size,0,none⟩) l.length l.length) (zan .u64 (D.take k++List.replicate (l.length-k) 0))/\New w wr) (fun i _=>l.length-(intOf i).toNat)
 case atStart=>exact⟨0,qmu _,rfl,by simpa[zb1] using o1,b1⟩
 case round=>
  clear o1 b1 s1;obtain⟨k,hk,rfl,o,b⟩:=hrel;by_cases hlt:k<l.length
  ·obtain⟨ad,rfl,_,c0⟩:=(Reads.later HR.out b).int hlt
   obtain⟨e1,e2,e3⟩:=HAT.out k hlt;have htk:=zad D k 0 (by have:=HML.out;omega);obtain⟨hg0,hgl,hc,hf,hset⟩:=o.num0 (i:=k) hlt;have hsl:(D.take k).length=k:=by rw[qmq];have:=HML.out;omega
   have hs2:=hset (D.getD k 0);rw[zwi _ hsl hlt,<-htk,e1] at hs2;have HSet:=Hz hs2;generalize(D.take k++List.replicate (l.length-k) 0).getD k 0=z at*;generalize l.getD k 0=x at*;have hll:=HLL.out;unfold zja at e2 hll;have hw2:IntKind.u64.wrap (IntKind.u64.wrap x-IntKind.u64.wrap ll)=(((x-ll).toNat:Nat):Int):=by rw[IntKind.wrap_u64,IntKind.wrap_u64,IntKind.wrap_u64];omega
   generalize(x-ll).toNat=d at*;have i1:(k:Int)<(l.length:Int):=by omega
   have HB2:=Hz (fun q=>(below_drewN b q).setCell (p:=⟨w.heap.size,k,none⟩) (qmt _) (.int .u64 (d:Int)));clear e1 e2 e3 hll htk hset hs2 hsl;go_wp2
   go_roundw
   case rel=>exact⟨k+1,by omega,by go_num,by first|exact HSet.out|exact(HSet.out).drewN _,by first|exact HB2.out _|exact HB2.out 0⟩
   case measure=>simp[intOf];omega
  ·obtain rfl:k=l.length:=by omega
   have hS:D.take l.length=D:=qnn (by have:=HML.out;omega);rw[hS,qos,qqd,qm3] at o;have W:=Hz (zkx (c:=l.length) o.reads HMW.out (by omega));have K:=znn (c:=l.length) (wid D:Int) o.reads HMW.out (by omega) (by omega) (by omega);rw[HPO.out] at K;replace K:=Hz K;generalize wid D=q at*;clear hS o;go_wp2_with fail
   refine W.out.mono ?_;rintro e w1 ⟨rfl,rfl⟩;go_wp2_with fail
   refine K.out.mono ?_;rintro e w2 ⟨A2,n2,c2,rfl,o2,b2⟩;obtain rfl:n2=PB.length:=by have:=o2.len;rwa[zaa] at this
   clear W K;have b02:=New.trans b b2;have hwq:IntKind.u8.wrap (q:Int)=(q:Int):=by rw[IntKind.wrap_u8];omega
   go_wp2_with fail
   refine(ZG.out _).mono ?_;rintro e w3 ⟨rfl,rfl⟩;go_wp2_with fail
   refine(PT.out _).mono ?_;rintro e w3 ⟨A3,n3,c3,rfl,o3,b3⟩;rw[qnk] at o3;obtain rfl:n3=(vp (zig ll)).length:=by have:=o3.len;rwa[zaa] at this
   have b03:=New.trans b02 b3;have z3:=b3.size;have h23:=zgb (zhx o3 (o2.base_le (qmu _)));have o2:=o2.later b3;have o3:=o3.base_le (b':=w.heap.size) b02.size;clear ZG PT;go_wp2_with (first
    |(refine zcj elB rfl (.tmp 43) (.tmp 46) rfl (W:=w) (B:=w.heap.size) o3 rfl rfl q rfl b03 (qmt _) b03.size (by omega) (by simp only[maxLen];omega) ?_
      intro A4 c4 w4 _ _ o4 g4 b4 _ d4;have p2:=o2.kept g4 h23;have hz4:=b4.size)
    |(refine zam elB rfl (.tmp 48) (.tmp 49) rfl (W:=w) (B:=w.heap.size) o4 p2.reads rfl rfl b4 (qmt _) hz4 (by omega) (by simp only[maxLen];omega) ?_
      intro A5 c5 w5 _ _ o5 _ b5 _))
   go_ret2
   refine⟨A5,_,c5,rfl,?_,b5⟩;rw[HB.out];exact o5
end Go.Proofs.Y
