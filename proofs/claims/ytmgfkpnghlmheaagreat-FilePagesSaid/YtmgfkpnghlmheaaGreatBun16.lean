/- Merged. -/
import Derived.Test.YtmgfkpnghlmheaaGreatBun15
set_option maxHeartbeats 4000000
namespace Go.Hm
open Go Go.RowKit
def z9q(E:List zab)(c:zab):Option Nat:=if c∈E then some (E.idxOf c) else none
theorem z48{E:List zab}{c d:zab}(h:c∉E):(if d=c then some E.length else z9q E d)=z9q (E++[c]) d:=by
 unfold z9q;by_cases e:d=c
 ·subst e
  rw[if_pos rfl,if_pos (by simp),List.idxOf_append,if_neg h];simp
 ·rw[if_neg e]
  by_cases hd:d∈E
  ·rw[if_pos hd,if_pos (by simp[hd]),List.idxOf_append,if_pos hd]
  ·rw[if_neg hd,if_neg (by simp[hd,e])]
theorem zze{P:List Nat}{n k q:Nat}(hP:P.length=k)(hk:k<n):(P++List.replicate (n-k) 0).set k q=(P++[q])++List.replicate (n-(k+1)) 0:=by rw[List.set_append_right _ _ (by omega),hP,Nat.sub_self,show n-k=(n-(k+1))+1 by omega,List.replicate_succ,List.set_cons_zero,List.append_assoc];rfl
end Go.Hm
namespace Go.Proofs.Y
open Go.RowKit Go.Hm
theorem z1s(W:World):(Instr.makeMap 222 none).run Tryz.prog W= .ok (.map (some W.heap.size)) (W.alloc (.map #[] 0)):=by simp[Instr.makeMap,Result.andThen]
theorem qi6:ElT Tryz.prog 71 61 (.agg #[.bool false,.int .i64 0,.string ⟨#[]⟩,.int .i64 0,.int .i64 0]) 5 48:=⟨by kernel_rfl,by kernel_rfl,rfl,by omega⟩
def z49(L:List zab)(w:World)(e:Ending)(w':World):Prop:=
 ∃A1 n1 c1 A2 c2,e= .returned (.tuple #[.slice A1 n1 c1,.slice A2 L.length c2])/\w'.ownsRow w.heap.size 61 5 (.slice A1 n1 c1) n1 (recs zan (zgf L).1)/\Go.Hm.Own w' w.heap.size 87 (.slice A2 L.length c2) (za2 .u64 (zgf L).2)/\New w w'
theorem qe9{c:zab}(h:CellFine c):∃kl,keyOf Tryz.prog 61 (zca c)=some kl:=qaq h.1.1 h.2.1 h.2.2.1 h.2.2.2
set_option maxRecDepth 100000 in
theorem zn2{w:World}{A:Option Addr}{n c:Nat}{L:List zab}(h:Reads w w.heap.size 5 A n (recs zan L))(hL:∀y∈L,CellFine y)(hn:n<=100000):
 Calls Tryz.prog 205 #[.slice A n c] w (z49 L w):=by
 obtain rfl:=h.lenCell;have HR:=Hz h;have HL:=Hz hL;clear h hL;have hmm:=z1s;have b0:New w (w.alloc (.map #[] 0)):=(Below.refl _ _).alloc (Nat.le_refl _) _;have M0:=MapC.made (P:=Tryz.prog) (k:=61) w;go_enter Tryz.func205,Tryz.ntmps205
 go_wp2_with (first
  |(refine zcf elW rfl (.tmp 13) (.tmp 13) rfl (W:=w) (B:=w.heap.size) L.length L.length rfl rfl rfl rfl (by omega) b0 (by simp) rfl (by omega) (by simp only[maxLen];omega) ?_
    intro w3 hown3 hg3 hb3 hs3))
 have M3:=M0.kept hg3 (by simp);simp only[World.size_alloc] at hown3 hs3;clear M0 b0 hg3 hmm;go_loopw [5,17] (fun v i wr=>∃(k cE:Nat) (AE:Option Addr),k<=L.length/\i= .int .i64 (k:Int)/\v= .slice AE (zgf (L.take k)).1.length cE
  /\wr.ownsRow (w.heap.size+2) 61 5 (.slice AE (zgf (L.take k)).1.length cE) (zgf (L.take k)).1.length (recs zan (zgf (L.take k)).1)
  /\MapC Tryz.prog 61 wr w.heap.size (zgf (L.take k)).1.length (z9q (zgf (L.take k)).1)
  /\Go.Hm.Own wr (w.heap.size+1) 87 (.slice (some ⟨w.heap.size+1,0,none⟩) L.length L.length) (za2 .u64 ((zgf (L.take k)).2++List.replicate (L.length-k) 0))
  /\New w wr/\w.heap.size+2<=wr.heap.size) (fun _ i _=>L.length-(intOf i).toNat)
 case atStart=>exact⟨0,0,none,Nat.zero_le _,rfl,rfl,by simpa[recs,zgf] using zcp,by simpa[zgf] using M3.eqf (f':=z9q []) (fun c _=>by simp[z9q]),by simpa[zbt,zgf] using hown3,hb3,by omega⟩
 case round=>
  obtain⟨k,cE,AE,hk,rfl,rfl,oE,M,oP,b,hz2⟩:=hrel;clear M3 hown3 hb3 hs3;by_cases hlt:k<L.length
  ·have htk:=zae L k (false,0,[],0,0) hlt
   have hst:=zg2 (L.take k) (L.getD k (false,0,[],0,0));rw[<-htk] at hst;have hI:=zk9 (L.take k);have hle:=zla (L.take k);have hPl:=hI.len;rw[List.length_take,Nat.min_eq_left (by omega)] at hPl hle;have hfine:=HL.out _ (zc5 (false,0,[],0,0) hlt);obtain⟨ad,rfl,hb,d0,d1,d2,d3,d4⟩:=(Reads.later HR.out b).cell5 hlt;generalize zgf (L.take k)=EP at*;obtain⟨E,P⟩:=EP;dsimp only at*;generalize L.getD k (false,0,[],0,0)=y at*;have hkey:=qe9 hfine;have hbok:Bok y:=hfine.1.2;unfold zgs at hst;try dsimp only at hst
   have hidx:y∈E->E.idxOf y<E.length:=fun hm=>List.idxOf_lt_length_iff.2 hm
   obtain⟨y0,y1,y2,y3,y4⟩:=y;dsimp only at d0 d1 d2 d3 d4;have ha:New wr (wr.alloc (.cells #[.bool y0,.int .i64 y1,.string (zac y2),.int .i64 y3,.int .i64 y4] 61)):=(Below.refl _ _).alloc (Nat.le_refl _) _;have BC:=Blk.new wr 61 #[.bool y0,.int .i64 y1,.string (zac y2),.int .i64 y3,.int .i64 y4];obtain⟨q0,q1,q2,q3,q4⟩:=zcb BC;have M1:=M.kept (row:=none) ⟨ha.os,ha.tape,ha.output,ha.size,fun j hj _=>ha.block j hj⟩ (by simp);have oE1:=zav oE ha;have oP1:=oP.later ha;have b1:=New.trans b ha;have HF:=Hz hfine;clear oE M oP hfine hb;by_cases hm:(y0,y1,y2,y3,y4)∈E
   ·rw[if_pos hm] at hst
    have hq:=hidx hm;have hix:z9q E (y0,y1,y2,y3,y4)=some (E.idxOf (y0,y1,y2,y3,y4)):=by unfold z9q;rw[if_pos hm]
    generalize E.idxOf (y0,y1,y2,y3,y4)=q at*;obtain⟨hg0,hgl,hc,hf,hs⟩:=oP1.num0 (i:=k) hlt;have hs:=hs q;rw[zze hPl hlt] at hs;have gS:(wr.alloc (.cells #[.bool y0,.int .i64 y1,.string (zac y2),.int .i64 y3,.int .i64 y4] 61)).grownBy ((wr.alloc (.cells #[.bool y0,.int .i64 y1,.string (zac y2),.int .i64 y3,.int .i64 y4] 61)).setCell ⟨w.heap.size+1,k,none⟩ (.int .u64 (q:Int))) (some (w.heap.size+1)):=zb0;have HS:=Hz hs;have HM:=Hz (M1.kept gS (by simp));have HE:=Hz (oE1.kept gS (.inr (fun e=>by have:=(World.ownsRow.lt oE1 _ e).1;omega)));have HB:=Hz (b1.setCell (p:=⟨w.heap.size+1,k,none⟩) (by simp) (.int .u64 (q:Int)));have HST:=Hz hst;have HX:=Hz hix;clear hst hix hs oE1 gS hidx;go_wp2_with (first
     |(refine zl0 rfl (.tmp 23) (.tmp 24) 222 rfl z42 qe6 (qg4 _) M1 hbok hkey rfl rfl ?_
       rw[HX.out];simp only[Option.getD_some,Option.isSome_some,z9p]))
    go_roundw
    case rel=>exact⟨k+1,cE,AE,by omega,by go_num,by rw[HST.out],by rw[HST.out];exact HE.out,by rw[HST.out];exact HM.out,by rw[HST.out];exact HS.out,HB.out,by simp;omega⟩
    case measure=>simp[intOf];omega
   ·rw[if_neg hm] at hst
    have hix:z9q E (y0,y1,y2,y3,y4)=none:=by unfold z9q;rw[if_neg hm]
    have hwr:IntKind.u64.wrap (E.length:Int)=(E.length:Int):=by rw[IntKind.wrap_u64];omega
    have HST:=Hz hst;have HX:=Hz hix;have HN:=Hz hm;clear hst hix hidx hm;go_wp2_with (first
     |(refine zl0 rfl (.tmp 23) (.tmp 24) 222 rfl z42 qe6 (qg4 _) M1 hbok hkey rfl rfl ?_
       rw[HX.out];simp only[Option.getD_none,Option.isSome_none,z9p])
     |(refine zw4 rfl (.tmp 33) (.tmp 34) (.tmp 35) 222 rfl z42 qe6 M1 (by simp only[maxLen];omega) hbok hkey E.length rfl rfl rfl ?_
       intro w4 M4 g4;have hz4:=g4.size;have BC4:=BC.grown g4 (by intro e;injection e with e;omega);obtain⟨q0,q1,q2,q3,q4⟩:=zcb BC4;have oE4:=oE1.kept g4 (.inr (fun e=>by have:=(World.ownsRow.lt oE1 _ e).1;omega));have oP4:=oP1.kept g4 (.inr (by simp[Value.ownBlock]));have b4:=Far.below b1 g4 (Nat.le_refl _) (Nat.le_refl _);simp only[World.size_alloc] at hz4;clear M1 oE1 oP1 BC g4)
     |(refine zdc qi6 rfl (.tmp 36) (.tmp 38) rfl (W:=w) (B:=w.heap.size) (base:=w.heap.size+2) (n:=E.length) oE4 rfl rfl b4 (by omega) (by omega) rfl (by simp[Value.oneCell']) (by omega) (by simp only[maxLen];omega) ?_
       intro A5 c5 w5 hc5 _ o5 g5 b5 hz5 _;have M5:=M4.kept g5 (fun e=>by have:=(World.ownsRow.lt oE4 _ e.symm).1;omega)
       have oP5:=oP4.kept g5 (.inr (fun e=>by have:=(World.ownsRow.lt oE4 _ (show _=some (w.heap.size+1) by rw[<-e];rfl)).1;omega))
       obtain⟨hg0,hgl,hc,hf,hs⟩:=oP5.num0 (i:=k) hlt;have hs:=hs E.length;rw[zze hPl hlt] at hs;have gS:w5.grownBy (w5.setCell ⟨w.heap.size+1,k,none⟩ (.int .u64 (E.length:Int))) (some (w.heap.size+1)):=zb0;have HS:=Hz hs;have HM:=Hz ((M5.kept gS (by simp)).eqf (fun d _=>z48 HN.out));have HE:=Hz (o5.kept gS (.inr (fun e=>by have:=(World.ownsRow.lt o5 _ e).1;omega)));have HB:=Hz (b5.setCell (p:=⟨w.heap.size+1,k,none⟩) (by simp) (.int .u64 (E.length:Int)));clear hs M4 oE4 oP4 M5 oP5 o5 gS g5 q0 q1 q2 q3 q4))
    go_roundw
    case rel=>exact⟨k+1,c5,A5,by omega,by go_num,by rw[HST.out];simp,by rw[HST.out];simpa[zas,recs,zan] using HE.out,by rw[HST.out];simpa using HM.out,by rw[HST.out];exact HS.out,HB.out,by simp;omega⟩
    case measure=>simp[intOf];omega
  ·obtain rfl:k=L.length:=by omega
   rw[List.take_length] at oE oP;rw[Nat.sub_self,List.replicate_zero,List.append_nil] at oP;have oE:=zbg oE (show w.heap.size<=w.heap.size+2 by omega);have oP:=oP.base_le (show w.heap.size<=w.heap.size+1 by omega);have HE:=Hz oE;have HP:=Hz oP;clear oE oP M;go_wp2_with fail
   go_ret2
   refine⟨_,_,_,_,_,rfl,?_,HP.out,b⟩;rw[List.take_length];exact HE.out
end Go.Proofs.Y
namespace Go.Hm
open Go.RowKit
def fitsV(typ enc:Int):Bool:=decide ((enc=0\/enc=1)/\0<=typ/\typ<=3\/enc=2/\(typ=0\/typ=1)\/enc=3/\(typ=0\/typ=3)\/enc=4/\typ=2)
def zuv(t e:Int):Prop:=e= -1\/fitsV t e=true
instance(t e:Int):Decidable (zuv t e):=by unfold zuv;exact inferInstance
def zdv(g p:Int)(encs:List Int)(cols:List za1):Int:=
 if¬(1<=g/\g<=65536/\1<=p/\p<=65536/\encs.length=cols.length) then 1 else if∀i,i<encs.length->zuv (cols.getD i ([],0,false)).2.1 (encs.getD i 0) then 0 else 3
end Go.Hm
namespace Go.Proofs.Y
open Go.RowKit Go.Hm
theorem zii(t e:Int)(w:World):Calls Tryz.prog 54 #[.int .i64 t,.int .i64 e] w (zdk (.bool (fitsV t e)) w):=by
 generalize hO:fitsV t e=O;have HO:=Hz hO;clear hO;go_enter Tryz.func54,Tryz.ntmps54
 go_wp2
 all_goals go_ret
 all_goals
  simp only[beq_iff_eq,beq_eq_false_iff_ne,ne_eq] at*;rw[<-HO.out];refine⟨congrArg (fun b=>Ending.returned (.bool b)) ?_,rfl⟩;rw[Bool.eq_iff_iff];simp only[fitsV,decide_eq_true_eq,Bool.or_eq_true,beq_iff_eq,Bool.false_eq_true,false_iff,true_iff];omega
theorem zuw(n:Int)(w:World):Calls Tryz.prog 53 #[.int .i64 n] w (zdk (.bool (decide (1<=n/\n<=65536))) w):=by
 generalize hO:decide (1<=n/\n<=65536)=O;have HO:=Hz hO;clear hO;go_enter Tryz.func53,Tryz.ntmps53
 go_wp2
 all_goals go_ret
 all_goals
  rw[<-HO.out];refine⟨congrArg (fun b=>Ending.returned (.bool b)) ?_,rfl⟩;rw[Bool.eq_iff_iff];simp only[decide_eq_true_eq,Bool.false_eq_true,false_iff];omega
abbrev Cv(g p:Int)(A:Option Addr)(n c:Nat):Value:= .agg #[.int .i64 g,.int .i64 p,.slice A n c]
theorem z6t{g p:Int}{E:List Int}{L:List za1}(hg:1<=g/\g<=65536/\1<=p/\p<=65536/\E.length=L.length)(h:∀i,i<E.length->zuv (L.getD i ([],0,false)).2.1 (E.getD i 0)):zdv g p E L=0:=by unfold zdv;rw[if_neg (by simpa using hg),if_pos h]
theorem z2k{g p:Int}{E:List Int}{L:List za1}(hg:1<=g/\g<=65536/\1<=p/\p<=65536/\E.length=L.length){i:Nat}(hi:i<E.length)(h: ¬zuv (L.getD i ([],0,false)).2.1 (E.getD i 0)):zdv g p E L=3:=by unfold zdv;rw[if_neg (by simpa using hg),if_neg (fun hh=>h (hh i hi))]
theorem z6u{g p:Int}{E:List Int}{L:List za1}(hg: ¬(1<=g/\g<=65536/\1<=p/\p<=65536/\E.length=L.length)):zdv g p E L=1:=by unfold zdv;rw[if_pos hg]
set_option maxRecDepth 100000 in
theorem z2l{w:World}{A A2:Option Addr}{n c n2 c2:Nat}{g p:Int}{E:List Int}{L:List za1}(h:Reads w w.heap.size 1 A n (zeq .i64 E))(h2:Reads w w.heap.size 3 A2 n2 (recs zhq L))(hn:n<=4611686018427387903):
 Calls Tryz.prog 20 #[Cv g p A n c,.slice A2 n2 c2] w (zak (.int .i64 (zdv g p E L)) w):=by
 have l1:=h.lenI;have l2:=h2.lenC;have b0:New w (w.alloc (.cells #[.int .i64 g,.int .i64 p,.slice A n c] 28)):=(Below.refl _ _).alloc (Nat.le_refl _) _;have B0:=Blk.new w 28 #[.int .i64 g,.int .i64 p,.slice A n c];obtain⟨x0,x1,x2⟩:=zad B0;have R1:=Hz (fun W=>zuw g W);have R2:=Hz (fun W=>zuw p W);by_cases hg:1<=g/\g<=65536/\1<=p/\p<=65536/\E.length=L.length
 ·rw[decide_eq_true (show 1<=g/\g<=65536 by omega)] at R1
  rw[decide_eq_true (show 1<=p/\p<=65536 by omega)] at R2;have K1:=Hz (fun hh=>z6t hg hh);have K2:=Hz (fun(i:Nat) (hi:i<n) hh=>z2k hg (i:=i) (by omega) hh);have hll:n2=n:=by omega
  have HL:=Hz l1;subst hll;generalize zdv g p E L=O at*;have r1:=Reads.later h b0;have r2:=Reads.later h2 b0;clear hg B0 h h2 l1 l2;go_enter Tryz.func20,Tryz.ntmps20
  go_wp2_with (first
   |(go_at_call 53;(with_reducible refine(R1.out _).mono ?_);rintro e w1 ⟨rfl,rfl⟩)
   |(go_at_call 53;(with_reducible refine(R2.out _).mono ?_);rintro e w1 ⟨rfl,rfl⟩))
  clear x0 x1 x2 R1 R2;obtain⟨W0,hW0⟩:∃W,W=w.alloc (.cells #[.int .i64 g,.int .i64 p,.slice A n2 c] 28):=⟨_,rfl⟩;rw[<-hW0] at b0 r1 r2⊢;clear hW0;go_loopw [28] (fun i wr=>∃k:Nat,i= .int .i64 (k:Int)/\k<=n2/\W0=wr/\Hid (∀j,j<k->zuv (L.getD j ([],0,false)).2.1 (E.getD j 0))) (fun i _=>n2-(intOf i).toNat)
  case atStart=>exact⟨0,rfl,by omega,rfl,Hz (fun j hj=>by omega)⟩
  case round=>
   obtain⟨k,rfl,hk,rfl,H⟩:=hrel;by_cases hlt:k<n2
   ·obtain⟨ad,rfl,hb,hc⟩:=r1.int hlt
    obtain⟨ad2,rfl,hb2,hc0,hc1,hc2⟩:=r2.colT hlt;have K2:=Hz (K2.out k hlt);have N:=Hz (show zuv (L.getD k ([],0,false)).2.1 (E.getD k 0)-> ∀j,j<k+1->zuv (L.getD j ([],0,false)).2.1 (E.getD j 0) from fun hh j hj=>by
     by_cases e:j=k
     ·subst e;exact hh
     ·exact H.out j (by omega))
    generalize(L.getD k ([],0,false)).2.1=t at*;generalize E.getD k 0=e at*;generalize(L.getD k ([],0,false)).2.2=x3 at*;generalize(L.getD k ([],0,false)).1=x4 at*;have hiz:(k:Int)<(n2:Int):=by omega
    have F:=Hz (fun W=>zii t e W);by_cases he:e= -1
    ·have N2:=Hz (N.out (.inl he))
     subst he;go_wp2
     go_roundw
     case rel=>exact⟨k+1,by go_num,by omega,trivial,N2⟩
     case measure=>simp[intOf];omega
    ·have e1:(e != -1)=true:=by simpa using he
     cases hf:fitsV t e
     ·have K3:=Hz (K2.out (fun hh=>by rcases hh with hh|hh;exact he hh;rw[hf] at hh;cases hh))
      rw[hf] at F;clear hf he;go_wp2_with (go_at_call 54;(with_reducible refine(F.out _).mono ?_);rintro e w1 ⟨rfl,rfl⟩)
      go_ret
      exact⟨by rw[K3.out];rfl,b0⟩
     ·have N2:=Hz (N.out (.inr hf))
      rw[hf] at F;clear hf he;go_wp2_with (go_at_call 54;(with_reducible refine(F.out _).mono ?_);rintro e w1 ⟨rfl,rfl⟩)
      go_roundw
      case rel=>exact⟨k+1,by go_num,by omega,trivial,N2⟩
      case measure=>simp[intOf];omega
   ·have K3:=Hz (K1.out (fun i hi=>H.out i (by have:=HL.out;omega)))
    go_wp2
    go_ret
    exact⟨by rw[K3.out];rfl,b0⟩
 ·have K:=Hz (z6u hg)
  generalize zdv g p E L=O at*;by_cases h1:1<=g/\g<=65536;all_goals try(rw[decide_eq_true h1] at R1)
  all_goals try(rw[decide_eq_false h1] at R1)
  all_goals try(by_cases h2:1<=p/\p<=65536)
  all_goals try(rw[decide_eq_true h2] at R2)
  all_goals try(rw[decide_eq_false h2] at R2)
  all_goals try(have d2:((n:Int) != (n2:Int))=true:=by simp;omega)
  all_goals
   clear hg B0 l1 l2 h1;go_enter Tryz.func20,Tryz.ntmps20
   go_wp2_with (first
    |(go_at_call 53;(with_reducible refine(R1.out _).mono ?_);rintro e w1 ⟨rfl,rfl⟩)
    |(go_at_call 53;(with_reducible refine(R2.out _).mono ?_);rintro e w1 ⟨rfl,rfl⟩))
   go_ret
   exact⟨by rw[K.out];rfl,b0⟩
end Go.Proofs.Y
namespace Go.Hm
open Go Go.RowKit
theorem IsStat.near{t:Int}{l:List zab}{s:zc7}(h:IsStat t l s)(hl:∀c∈l,near c):near s.2.2.1/\near s.2.2.2:=by
 cases hh:s.2.1 with
 |false=>
  obtain⟨e1,e2⟩:=h.none hh;rw[e1,e2];exact⟨qhi,qhi⟩
 |true=>exact⟨hl _ (h.least hh).1.1,hl _ (h.most hh).1.1⟩
end Go.Hm
namespace Go.Proofs.Y
open Go.RowKit Go.Hm
def qcw(t:Int)(L:List zab)(w:World)(e:Ending)(w':World):Prop:=∃s,e= .returned (zbz s)/\IsStat t L s/\New w w'
set_option maxRecDepth 100000 in
theorem qd8{w:World}{t:Int}{A:Option Addr}{n c:Nat}{L:List zab}(h:Reads w w.heap.size 5 A n (recs zan L))(hL:∀y∈L,near y)(hn:n<=100000):
 Calls Tryz.prog 98 #[.int .i64 t,.slice A n c] w (qcw t L w):=by
 obtain rfl:=h.lenCell;have HR:=Hz h;have HN:=Hz hL;clear h hL;have B0:Blk ((w.alloc (.cells (zb3 zbs).toArray 63)).alloc (.cells (zb3 zbs).toArray 63)) w.heap.size 63 (zb3 zbs).toArray:=(Blk.new _ _ _).alloc _;have B1:Blk ((w.alloc (.cells (zb3 zbs).toArray 63)).alloc (.cells (zb3 zbs).toArray 63)) (w.heap.size+1) 63 (zb3 zbs).toArray:=by have:=Blk.new (w.alloc (.cells (zb3 zbs).toArray 63)) 63 (zb3 zbs).toArray;simpa using this
 have hb0:=zqo w (.cells (zb3 zbs).toArray 63) (.cells (zb3 zbs).toArray 63);have HB0:=Hz B0;have HB1:=Hz B1;have Hb0:=Hz hb0;clear B0 B1 hb0;go_enter Tryz.func98,Tryz.ntmps98
 go_wp2_with fail
 go_loopw [10] (fun i wr=>∃(k:Nat) (s:zc7),k<=L.length/\i= .int .i64 (k:Int)/\Blk wr (w.heap.size+1) 63 (zb3 s).toArray/\Blk wr w.heap.size 63 (zb3 zbs).toArray/\New w wr/\Hid (IsStat t (L.take k) s)) (fun i _=>L.length-(intOf i).toNat)
 case atStart=>exact⟨0,zbs,Nat.zero_le _,rfl,HB1.out,HB0.out,Hb0.out,Hz (zqx t)⟩
 case round=>
  obtain⟨k,s,hk,rfl,B1,B0,hW,hs⟩:=hrel;clear HB0 HB1 Hb0;by_cases hlt:k<L.length
  ·obtain⟨ad,rfl,hb,d0,d1,d2,d3,d4⟩:=(Reads.later HR.out hW).cell5 hlt
   have hst:=hs.out;have htk:=zae L k (false,0,[],0,0) hlt;have hnr:=hst.near (fun c hc=>HN.out c (List.mem_of_mem_take hc));have hnl:=hst.nulls;have hnl2:=zih (L.take k);rw[List.length_take] at hnl2;have hy:near (L.getD k (false,0,[],0,0)):=HN.out _ (by rw[List.getD_eq_getElem?_getD,List.getElem?_eq_getElem hlt];exact List.getElem_mem hlt);have hone:=zqy t (L.getD k (false,0,[],0,0));have hnx:=hst.merge hone;rw[<-htk] at hnx;have hnr2:=hone.near (fun c hc=>by rw[List.mem_singleton.1 hc];exact hy);have hno:=hone.nulls;have hno2:=zih [L.getD k (false,0,[],0,0)];rw[List.length_singleton] at hno2;have M:=fun(W:World)=>z6h (w:=W) (t:=t) hnr.1 hnr.2 hnr2.1 hnr2.2 (by omega) (by omega)
   clear htk hy hone hnl hnl2 hno hno2 hnr hnr2 hst hs;generalize L.getD k (false,0,[],0,0)=y at*;obtain⟨y0,y1,y2,y3,y4⟩:=y;dsimp only at d0 d1 d2 d3 d4;obtain⟨V1,hV⟩:∃V,V=zbz (zjt (y0,y1,y2,y3,y4)):=⟨_,rfl⟩;have S1:Hid (∀W,Calls Tryz.prog 129 #[.agg #[.bool y0,.int .i64 y1,.string (zac y2),.int .i64 y3,.int .i64 y4]] W (zak V1 W)):=Hz fun W=>by rw[hV];exact z2e (y0,y1,y2,y3,y4)
   rw[<-hV] at M;generalize zl5 t s (zjt (y0,y1,y2,y3,y4))=s2 at*;obtain⟨n,b,⟨p1,p2,p3,p4,p5⟩,⟨q1,q2,q3,q4,q5⟩⟩:=s;obtain⟨n',b',⟨p1',p2',p3',p4',p5'⟩,⟨q1',q2',q3',q4',q5'⟩⟩:=s2;have M1:Hid (∀W,Calls Tryz.prog 128 #[.int .i64 t,.agg #[.int .i64 n,.bool b,.bool p1,.int .i64 p2,.string (zac p3),.int .i64 p4,.int .i64 p5,.bool q1,.int .i64 q2,.string (zac q3),.int .i64 q4,.int .i64 q5],V1] W
    (zak (.agg #[.int .i64 n',.bool b',.bool p1',.int .i64 p2',.string (zac p3'),.int .i64 p4',.int .i64 p5',.bool q1',.int .i64 q2',.string (zac q3'),.int .i64 q4',.int .i64 q5']) W)):=Hz M
   clear M hV;have HNX:=Hz hnx;clear hnx;have hsz:=hW.size;have F:Hid (∀W,New (wr.alloc (.cells #[.bool y0,.int .i64 y1,.string (zac y2),.int .i64 y3,.int .i64 y4] 61)) W->Blk W (w.heap.size+1) 63 #[.int .i64 n,.bool b,.bool p1,.int .i64 p2,.string (zac p3),.int .i64 p4,.int .i64 p5,.bool q1,.int .i64 q2,.string (zac q3),.int .i64 q4,.int .i64 q5]
    /\Blk W w.heap.size 63 (zb3 zbs).toArray/\New w W/\Blk W wr.heap.size 61 #[.bool y0,.int .i64 y1,.string (zac y2),.int .i64 y3,.int .i64 y4]):=Hz fun W hN=>
    ⟨(B1.alloc _).below hN (by have:=B1.lt;simp;omega),(B0.alloc _).below hN (by have:=B0.lt;simp;omega),New.trans hW (New.trans ((Below.refl _ _).alloc (Nat.le_refl _) _) hN),(Blk.new _ _ _).below hN (by simp)⟩
   clear B0 B1;go_wp2_with fail
   refine zdy New 5 [(1,0),(0,1),(0,2),(2,3),(2,4),(2,5)] New.refl New.trans (by kernel_rfl) (by kernel_rfl) (by kernel_rfl) (by kernel_rfl) ?_;have hU:=New.drew (wr.alloc (.cells #[.bool y0,.int .i64 y1,.string (zac y2),.int .i64 y3,.int .i64 y4] 61));repeat(first
    |(refine zbl rfl rfl (fun K hK=>?_);go_simp
      (with_reducible refine(S1.out _).mono ?_);rintro e w6 ⟨rfl,b6⟩
      refine hK _ _ (.inr (.inr b6)) ?_;clear hK;replace hU:=New.trans hU b6)
    |(refine zbl rfl rfl (fun K hK=>?_);go_simp
      (with_reducible refine(M1.out _).mono ?_);rintro e w7 ⟨rfl,b7⟩
      refine hK _ _ (.inr (.inr b7)) ?_;clear hK;replace hU:=New.trans hU b7)
    |(refine zbl rfl rfl (fun K hK=>?_)
      obtain⟨B1,B0,hl,-⟩:=F.out _ hU;refine z44 63 (.tmp 5) (.tmp 18) rfl (w.heap.size+1) _ rfl rfl B1 (by kernel_rfl) (by simp) (by simp[Value.oneCell']) ?_;intro W5 B1 hlow hfar;replace B0:=hfar _ _ _ (by omega) B0;replace hl:=hlow _ _ hl (by omega);refine hK _ _ (.inr (.inl rfl)) ?_;clear hK hlow hfar)
    |(refine zcv rfl rfl (v:=?_) (fun W=>?_) ?_;rotate_left;(go_simp<;> with_reducible rfl);simp only[Act.put,List.setIfInBounds_toArray,List.set_cons_zero,List.set_cons_succ])
    |(refine zd7 rfl rfl (v:=?_) (fun W hQ=>?_) ?_;rotate_left;(obtain⟨B1,-,-,BY⟩:=F.out W (New.trans hU hQ);obtain⟨x0,x1,x2,x3,x4,x5,x6,x7,x8,x9,x10,x11⟩:=za6 B1;obtain⟨z0,z1,z2,z3,z4⟩:=zcb BY;clear B1 BY;go_simp<;> with_reducible rfl);simp only[Act.put,List.setIfInBounds_toArray,List.set_cons_zero,List.set_cons_succ]))
   refine zht ?_;go_wp2_with fail
   go_roundw
   case rel=>exact⟨k+1,(n',b',(p1',p2',p3',p4',p5'),(q1',q2',q3',q4',q5')),by omega,by go_num,B1,B0,hl,HNX⟩
   case measure=>simp[intOf];omega
  ·obtain rfl:k=L.length:=by omega
   have hs2:=hs.out;rw[List.take_length] at hs2;have HS:=Hz hs2;clear hs hs2;obtain⟨n,b,⟨p1,p2,p3,p4,p5⟩,⟨q1,q2,q3,q4,q5⟩⟩:=s;obtain⟨x0,x1,x2,x3,x4,x5,x6,x7,x8,x9,x10,x11⟩:=za6 B1
   go_wp2_with (refine zhr rfl 63 (.tmp 4) (.tmp 20) rfl w.heap.size _ rfl rfl B0 (by kernel_rfl) (by simp[zb3,zbs,zan]) (by simp[Value.oneCell']) ?_
                intro W5 BR hlow hfar;have hl:=hlow _ _ hW (Nat.le_refl _);clear hfar hlow;obtain⟨s0,s1,s2,s3,s4,s5,s6,s7,s8,s9,s10,s11⟩:=za6 BR)
   exact bodyPost_ret (v:=zbz (n,b,(p1,p2,p3,p4,p5),(q1,q2,q3,q4,q5))) (by simp[results,Tryz.results98,go_sem,s0,s1,s2,s3,s4,s5,s6,s7,s8,s9,s10,s11,zbz,zb3,zan]) rfl ⟨_,rfl,HS.out,hl⟩
end Go.Proofs.Y
