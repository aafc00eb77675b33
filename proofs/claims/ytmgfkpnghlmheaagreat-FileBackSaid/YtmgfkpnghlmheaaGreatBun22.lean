/- Texts merged and made short: OpenSt, FooPd, Front, PtR, AppX, OpenTb, Few07. -/
import Derived.BigQuiet
import Derived.Deep.QuietTactic
import Derived.Outline
import Derived.Test.YtmgfkpnghlmheaaGreatBun1
import Derived.Test.YtmgfkpnghlmheaaGreatBun12
import Derived.Test.YtmgfkpnghlmheaaGreatBun13
import Derived.Test.YtmgfkpnghlmheaaGreatBun14
import Derived.Test.YtmgfkpnghlmheaaGreatBun16
import Derived.Test.YtmgfkpnghlmheaaGreatBun4
import Derived.Test.YtmgfkpnghlmheaaGreatBun5
import Derived.Test.YtmgfkpnghlmheaaGreatBun7
import Derived.Test.YtmgfkpnghlmheaaGreatBun9
set_option maxHeartbeats 2000000
namespace Go.Proofs.YtmgfkpnghlmheaaGreat
open Go.RowKit Go.Hm Go.WideShapes Go.ChangeShapes Go.Deep
theorem CellFine.data{c:zab}(h:CellFine c):zai c:=⟨h.1,h.2.1⟩
section
variable{H:Type}{enc:TypeId × Value→H}{W:World}{base:Nat}{v:Value}{d:DataW H}{ps:List MemPlace}
end
open Go.RowKit Go.Hm
def zgl(F:FootS):Prop:=(∀c∈F.cols,∀z∈c.1,z<256)∧∀g∈F.groups,∀l∈g.2,∀p∈l,statData p.2.2
open Go.RowKit Go.Hm
theorem zri(a b:List Nat)(ha:∀x∈a,x<256)(hb:∀x∈b,x<256)(hla:a.length≤9223372036854775806)(hlb:b.length≤9223372036854775806)(w:World):
 Calls Tryz.prog 234 #[.string (zae a),.string (zae b)] w (DrewPost (.int .i64 (shr a b)) w):=by
 have z1:=zbf a;have z2:=zbf b
 go_enter Tryz.func234,Tryz.ntmps234
 go_wp2
 go_loopw [5] (fun n wr=>∃k m:Nat,n= .int .i64 (k:Int)∧k≤a.length∧k≤b.length∧a.take k=b.take k∧wr=w.drewN m) (fun n _=>a.length-(intOf n).toNat)
 case atStart=>exact⟨0,0,rfl,by omega,by omega,rfl,rfl⟩
 case round=>
  obtain⟨k,m,rfl,h1,h2,h3,rfl⟩:=hrel;have S0:=qdq a b k h1 h2 h3;have H3:=Hz h3;clear h3;by_cases ka:k=a.length
  ·have S:=Hz (S0 (.inl ka))
   have d1:decide (k<a.length)=false:=by simp;omega
   clear ka S0
   go_wp2
   go_quiet (fail)
   go_wp2
   go_ret
   exact⟨by rw[S.out];rfl,_,znp _ _ _⟩
  ·by_cases kb:k=b.length
   ·have S:=Hz (S0 (.inr (.inl kb)))
    have d1:decide (k<a.length)=true:=by simp;omega
    have d2:decide (k<b.length)=false:=by simp;omega
    clear ka kb S0
    go_wp2
    go_quiet (fail)
    go_wp2
    go_ret
    exact⟨by rw[S.out];rfl,_,znp _ _ _⟩
   ·have i1:=z34 qdl a ha k (by omega)
    have i2:=z34 qdl b hb k (by omega)
    have d1:decide (k<a.length)=true:=by simp;omega
    have d2:decide (k<b.length)=true:=by simp;omega
    have t1:=zad a k 0 (by omega);have t2:=zad b k 0 (by omega);by_cases e:a.getD k 0=b.getD k 0
    ·have H4:=Hz (show a.take (k+1)=b.take (k+1) by rw[t1,t2,H3.out,e])
     rw[e] at i1;clear t1 t2 e S0;generalize b.getD k 0=y at*
     go_wp2
     go_quiet (fail)
     go_wp2
     go_roundw
     case rel=>exact⟨k+1,_,by go_num,by omega,by omega,H4.out,rfl⟩
     case measure=>simp[intOf];omega
    ·have S:=Hz (S0 (.inr (.inr e)))
     have d3:(((a.getD k 0:Nat):Int)==((b.getD k 0:Nat):Int))=false:=by rw[beq_eq_false_iff_ne];omega
     clear t1 t2 e S0;generalize a.getD k 0=x at*;generalize b.getD k 0=y at*
     go_wp2
     go_quiet (fail)
     go_wp2
     go_ret
     exact⟨by rw[S.out];rfl,_,znp _ _ _⟩
theorem z7d{w:World}{A:Option Addr}{n c:Nat}{L:List (List Nat)}(h:Reads w w.heap.size 1 A n (zmu L))(hL:∀s∈L,s.length≤140737488351232)(hn:n≤9223372036854775806):
 Calls Tryz.prog 233 #[.slice A n c] w (zdx (.bool (z5j L)) w):=by
 obtain rfl:=h.lenT;by_cases h0:65536<L.length
 ·have F:=Hz (qa2 h0)
  go_enter Tryz.func233,Tryz.ntmps233
  go_wp2
  go_ret
  exact⟨by rw[F.out];rfl,rfl⟩
 ·have d0:decide (65536<(L.length:Int))=false:=by simp;omega
  go_enter Tryz.func233,Tryz.ntmps233
  go_wp2
  go_loop [3,11] (fun a i=>∃k q:Nat,k≤L.length∧i= .int .i64 (k:Int)∧a= .int .i64 (q:Int)∧q≤16777216∧Hid (q=fsum (L.take k)∧∀s∈L.take k,s.length≤65536)) (fun _ i=>L.length-(intOf i).toNat)
  case atStart=>exact⟨0,0,by omega,rfl,rfl,by omega,Hz ⟨rfl,by simp⟩⟩
  case round=>
   obtain⟨k,q,hk,rfl,rfl,hq,H⟩:=hrel;by_cases hlt:k<L.length
   ·obtain⟨ad,rfl,hb,hcell⟩:=h.str hlt
    have hs:=znr hL hlt;have T:=zad L k [] hlt;have F1:=Hz (qa3 hlt);have F2:=Hz (qa4 (l:=L) (k:=k+1));rw[T] at F2;have HT:=Hz T;clear T;generalize L.getD k []=s at*;have z:=zbf s;generalize hls:s.length=ls at*;have HL:=Hz hls;clear hls;by_cases h1:65536<ls
    ·have F:=Hz (F1.out h1)
     clear F1 F2
     go_wp2
     go_ret
     exact⟨by rw[F.out];rfl,rfl⟩
    ·have d1:decide (65536<(ls:Int))=false:=by simp;omega
     by_cases h2:16777216<q+ls
     ·have F:=Hz (F2.out (by rw[zuf,←H.out.1,HL.out];exact h2))
      clear F1 F2
      go_wp2
      go_ret
      exact⟨by rw[F.out];rfl,rfl⟩
     ·have d2:decide (16777216<(q:Int)+(ls:Int))=false:=by simp;omega
      go_wp2
      go_round
      case rel=>exact⟨k+1,q+ls,by omega,by go_num,by go_num,by omega,Hz ⟨by rw[HT.out,zuf,←H.out.1,HL.out],fun x hx=>by
       rw[HT.out,List.mem_append,List.mem_singleton] at hx;rcases hx with hx|rfl
       ·exact H.out.2 x hx
       ·rw[HL.out];omega⟩⟩
      case measure=>simp[intOf];omega
   ·obtain rfl:k=L.length:=by omega
    have F:=Hz (qa5 (l:=L) (by omega) (by have:=H.out.2;rwa[List.take_length] at this) (by have:=H.out.1;rw[List.take_length] at this;omega))
    go_wp2
    go_ret
    exact⟨by rw[F.out];rfl,rfl⟩
theorem z7e{w:World}{A:Option Addr}{n c:Nat}{L:List (List Nat)}(h:Reads w w.heap.size 1 A n (zmu L))(h8:∀s∈L,∀x∈s,x<256)(hf:z5j L=true):
 Calls Tryz.prog 216 #[.slice A n c] w (OptB (some (zmv [] L)) w):=by
 obtain rfl:=h.lenT;obtain⟨hn,hl,hsum⟩:=(zel L).1 hf;have F:=Hz (z7d (c:=c) h (fun s hs=>by have:=hl s hs;omega) (by omega));rw[hf] at F;have HSUM:=Hz hsum;have HF:=Hz hf;clear hf hsum
 go_enter Tryz.func216,Tryz.ntmps216
 go_wp2_with (go_at_call 233;refine F.out.mono ?_;rintro e w1 ⟨rfl,rfl⟩)
 go_loopw [4,5,14] (fun v a i wr=>∃(k:Nat) (A:Option Addr) (m c:Nat),i= .int .i64 (k:Int)∧k≤L.length∧a= .string (zae (zp0 [] (L.take k)))∧v= .slice A m c∧Own wr w.heap.size 5 (.slice A m c) (za3 .u8 (zmv [] (L.take k)))∧Below w.heap.size w wr) (fun _ _ i _=>L.length-(intOf i).toNat)
 case atStart=>exact⟨0,_,_,_,rfl,by omega,rfl,rfl,Own.nil_,Below.refl _ _⟩
 case round=>
  obtain⟨k,A5,m5,c5,rfl,hk,rfl,rfl,o5,b5⟩:=hrel;have z5:=b5.size;by_cases hlt:k<L.length
  ·obtain⟨ad,rfl,hb,hcell⟩:=(h.below b5).str hlt
   have q5:=o5.len;rw[zaa] at q5;have q6:=zsg [] (L.take k) (fun s hs=>hl s (List.mem_of_mem_take hs));have q7:=zue L k;have q8:=HSUM.out;rw[←q5,List.length_take] at q6
   have qm:m5≤20*65536+16777216:=by omega
   have T:=Hz (zad L k [] hlt);have a8:=zug (Q:=fun s=>∀x∈s,x<256) (a:=[]) (L.take k) (by simp) (fun s hs=>h8 s (List.mem_of_mem_take hs));have al:=zug (Q:=fun s=>s.length≤65536) (a:=[]) (L.take k) (by simp) (fun s hs=>hl s (List.mem_of_mem_take hs));have s8:=znr (Q:=fun s=>∀x∈s,x<256) h8 hlt;have sl:=znr (Q:=fun s=>s.length≤65536) hl hlt;have SN:=Hz (z5k [] (L.getD k []) (L.take k));have LS:=Hz (z1s [] (L.getD k []) (L.take k));clear q5 q6 q7 q8;generalize L.getD k []=s at*;generalize zp0 [] (L.take k)=a at*;have k1:=zjw a s;have k2:=zgf a s;have z1:=zbf s;have SH:=Hz (zri a s a8 s8 (by omega) (by omega) wr);have FP:=Hz (show fpiece a s=vp (shr a s)++vp (s.length-shr a s)++s.drop (shr a s) from rfl);have i3:=z9y qdl s (shr a s) k2
   have d8:∀x∈s.drop (shr a s),x<256:=fun x hx=>s8 x (List.mem_of_mem_drop hx)
   have dl:(s.drop (shr a s)).length≤65536:=by rw[List.length_drop];omega
   have v1:=zaj (n:=shr a s) (by omega);have v2:=zaj (n:=s.length-shr a s) (by omega)
   have hq:(s.length:Int)-(shr a s:Int)=((s.length-shr a s:Nat):Int):=by omega
   generalize shr a s=j at*;generalize s.length-j=p at*;generalize s.drop j=r at*;have V1:=Hz v1;have V2:=Hz v2;have DL:=Hz dl;clear v1 v2 dl
   go_wp2_with (first
    |(go_at_call 234;refine SH.out.mono ?_;intro e w6 hh;obtain⟨rfl,b6⟩:=hh.new;clear hh
      have b06:=zgr b5 b6 (Nat.le_refl _);have o6:=o5.later b6
      have P6:=Hz (zcx none 0 0 [] j w6 Reads.none_ (by omega) (by omega)))
    |(go_at_call 93;(with_reducible refine P6.out.mono ?_);rintro e w7 ⟨A7,n7,c7,rfl,k7,b7⟩
      rw[List.nil_append] at k7;have b07:=zgr b06 b7 (Nat.le_refl _);have o7:=o6.later b7
      have q7:n7≤10:=by have:=k7.len;rw[zaa] at this;have:=V1.out;omega
      have r7:=k7.reads)
    |(refine zas elB rfl (.tmp 21) (.tmp 24) rfl (W:=w) (B:=w.heap.size) o7 r7 rfl rfl b07 (Nat.le_refl _) (by have:=b07.size;omega) (by omega) (by simp only[maxLen];omega) ?_
      intro A8 c8 w8 _ _ o8 _ b08 _
      have P8:=Hz (zcx none 0 0 [] p w8 Reads.none_ (by omega) (by omega)))
    |(go_at_call 93;(with_reducible refine P8.out.mono ?_);rintro e w9 ⟨A9,n9,c9,rfl,k9,b9⟩
      rw[List.nil_append] at k9;have b09:=zgr b08 b9 (Nat.le_refl _);have o9:=o8.later b9
      have q9:n9≤10:=by have:=k9.len;rw[zaa] at this;have:=V2.out;omega
      have r9:=k9.reads)
    |(refine zas elB rfl (.tmp 26) (.tmp 32) rfl (W:=w) (B:=w.heap.size) o9 r9 rfl rfl b09 (Nat.le_refl _) (by have:=b09.size;omega) (by omega) (by simp only[maxLen];omega) ?_
      intro A10 c10 w10 _ _ o10 _ b010 _)
    |(refine zew elB qdl rfl (.tmp 34) (.tmp 37) rfl (W:=w) (B:=w.heap.size) o10 d8 rfl rfl b010 (Nat.le_refl _) (by have:=b010.size;omega) (by have:=DL.out;omega) ?_
      intro A11 c11 w11 _ _ o11 _ b011))
   go_roundw
   case rel=>exact⟨k+1,_,_,_,by go_num,by omega,by rw[T.out,LS.out],rfl,by rw[T.out,SN.out,FP.out,←List.append_assoc,←List.append_assoc];exact o11,b011⟩
   case measure=>simp[intOf];omega
  ·obtain rfl:k=L.length:=by omega
   rw[List.take_length] at o5
   go_wp2
   go_ret2
   exact⟨_,_,_,rfl,o5,b5⟩
theorem qb6{w:World}{A:Option Addr}{n c:Nat}{L:List (List Nat)}(h:Reads w w.heap.size 1 A n (zmu L))(h8:∀s∈L,∀x∈s,x<256)(hL:∀s∈L,s.length≤140737488351232)(hn:n≤9223372036854775806):
 Calls Tryz.prog 216 #[.slice A n c] w (OptB (zuh L) w):=by
 unfold zuh;by_cases hf:z5j L=true
 ·rw[if_pos hf]
  exact z7e h h8 hf
 ·rw[if_neg hf]
  have F:=Hz (z7d (c:=c) h hL hn);rw[Bool.eq_false_iff.2 hf] at F;clear hf
  go_enter Tryz.func216,Tryz.ntmps216
  go_wp2_with (go_at_call 233;refine F.out.mono ?_;rintro e w1 ⟨rfl,rfl⟩)
  go_ret2
  exact⟨rfl,Below.refl _ _⟩
end Go.Proofs.YtmgfkpnghlmheaaGreat
namespace Go.Hm
end Go.Hm
namespace Go.Proofs.YtmgfkpnghlmheaaGreat
open Go.RowKit Go.Hm
set_option maxRecDepth 100000 in
theorem zxx{w:World}(x y:Int):
 Calls Tryz.prog 116 #[.agg #[.int .i64 x,.int .i64 y],.int .i64 2097152] w (zap (.bool (nearB x y)) w):=by
 obtain⟨W0,hW0⟩:∃W,W=w.alloc (.cells #[.int .i64 x,.int .i64 y] 59):=⟨_,rfl⟩
 have b0:New w W0:=by rw[hW0];exact(Below.refl _ _).alloc (Nat.le_refl _) _
 have B0:Blk W0 w.heap.size 59 #[.int .i64 x,.int .i64 y]:=by rw[hW0];exact Blk.new _ _ _
 obtain⟨x0,x1⟩:=zbe B0;have HO:=Hz (show nearB x y=(decide (-2097152≤x)&&decide (x≤2097152)&&decide (-2097152≤y)&&decide (y≤2097152)) from rfl);generalize nearB x y=O at*;rw[hW0] at x0 x1;clear B0;cases h1:decide (-2097152≤x)<;> cases h2:decide (x≤2097152)<;> cases h3:decide (-2097152≤y)<;> cases h4:decide (y≤2097152)
 all_goals
  rw[h1,h2,h3,h4] at HO
  go_enter Tryz.func116,Tryz.ntmps116
  go_wp2
  go_ret
  exact⟨by rw[HO.out];rfl,by rw[←hW0];exact b0⟩
end Go.Proofs.YtmgfkpnghlmheaaGreat
namespace Go.Hm
open Go Go.RowKit
section
variable{P:Program}{o:Oper}{a:Act}{Q:Exit→Act→World→Prop}{K:Act→World→Prop}
theorem z0l{w:World}{t e:TypeId}{z:Value}{sz bytes:Nat}(E:ElT P t e z sz bytes)(s x:Operand)
 (ho:o.op= .call {callee:= .builtin .append,args:= #[s,x],argTypes:= #[t,t]})
 {W:World}{B base n m c:Nat}{v:Value}{xs news:List Value}{A:Option Addr}(hown:w.ownsRow base e sz v n xs)(hr:Reads w w.heap.size sz A m news)(hs:a.eval s=v)(hx:a.eval x= .slice A m c)
 (hb:Below B W w)(hbB:B≤base)(hbase:base≤w.heap.size)(h1:∀u∈news,u.oneCell'=true)
 (hn:(n+m)*bytes≤140737488355328)(hm:n+m≤maxLen)
 (h:∀A' c' w',n+m≤c'→c'≤maxLen→w'.ownsRow base e sz (.slice A' (n+m) c') (n+m) (xs++news)→w.grownBy w' v.ownBlock→Below B W w'→(Value.ownBlock (.slice A' (n+m) c')=v.ownBlock∨∃g,Value.ownBlock (.slice A' (n+m) c')=some g∧w.heap.size≤g)→K (a.put o.dst (.slice A' (n+m) c')) w'):
 Oper.wp P o a w K Q:=by
 obtain⟨i,hi,hz0,hz1,hz2⟩:=info_parts E.hi;rcases A with _|ad
 ·have hm0:m=0:=by
   rcases Nat.eq_zero_or_pos m with h0|h0
   ·exact h0
   ·obtain⟨ad,h',_⟩:=hr.2 h0
    cases h'
  subst hm0;have hn0:news=[]:=List.eq_nil_of_length_eq_zero (by have:=hr.1;omega);subst hn0
  have hrun:∀ty,(Builtin.append_ #[t,t] ty #[v,.slice none 0 c]).run P w= .ok v w:=by
   intro ty;rcases hown.2 with⟨rfl,hx0⟩|⟨g,cap,cur,rfl,_,_,hnc,_⟩
   ·simp[Builtin.append_,run_underlying E.ht,sizeOf,typeInfo,hi,Builtin.lenOf,Builtin.firstCells]
   ·simp[Builtin.append_,run_underlying E.ht,sizeOf,typeInfo,hi,Builtin.lenOf,Builtin.firstCells,hnc,storeCells]
  obtain⟨A',c',rfl,hc1,hc2⟩:=zcg hown;unfold Oper.wp execOp;simp only[ho,resolve,invoke,builtin,Sem.run_bind,Sem.run_pure,Result.andThen_ok,List.map_toArray,List.map_cons,List.map_nil,hs,hx,hrun];exact h A' c' w hc1 hc2 (by simpa using hown) (World.grownBy.refl w _) hb (.inl rfl)
 ·have hl:news.length=m*sz:=hr.1
  have hcells:∀j u,news[j]? =some u→w.cell? (ad.add j)=some u:=by
   intro j u hu;rcases Nat.eq_zero_or_pos m with h0|h0
   ·subst h0
    have hn:news=[]:=List.eq_nil_of_length_eq_zero (by omega);subst hn;simp at hu
   ·obtain⟨ad',h',_,hc⟩:=hr.2 h0
    injection h' with h';subst h';exact hc j u hu
  obtain⟨v',w',hr',hown',hg,_,hat⟩:=run_append_own_at (P:=P) w base t o.type e i z sz bytes E.ht hi hz0 hz1 hz2 E.hz E.hs v n xs hown ad m c news hl hcells h1 hm hn hbase;obtain⟨A',c',rfl,hc1,hc2⟩:=zcg hown';unfold Oper.wp execOp;simp only[ho,resolve,invoke,builtin,Sem.run_bind,Sem.run_pure,Result.andThen_ok,List.map_toArray,List.map_cons,List.map_nil,hs,hx,hr'];exact h A' c' w' hc1 hc2 hown' hg (hb.grown hg (Nat.le_trans hbB hbase) (fun k hk=>by have:=(World.ownsRow.lt hown k hk).1;omega)) (hat.imp id (fun e=>⟨_,e,Nat.le_refl _⟩))
end
end Go.Hm
set_option maxRecDepth 100000
namespace Go.Hm
structure TabIn(w:World)(Ac:Option Addr)(cc:Nat)(L:List za0)(Ad:Option Addr)(D:List zdo):Prop where
 cols:Reads w w.heap.size 3 Ac L.length (recs zh4 L)
 fine:∀x∈L,(∀z∈x.1,z<256)∧x.1.length≤140737488351232
 cap:L.length≤cc
 few:L.length≤4611686018427387903
 data:Reads w w.heap.size 1 Ad D.length (recs zf4 D)
 few2:D.length≤4611686018427387903
 within:DataIn w w.heap.size D
theorem TabIn.later{w w':World}{Ac:Option Addr}{cc:Nat}{L:List za0}{Ad:Option Addr}{D:List zdo}(h:TabIn w Ac cc L Ad D)(hb:New w w'):TabIn w' Ac cc L Ad D:=
 ⟨Reads.later h.cols hb,h.fine,h.cap,h.few,Reads.later h.data hb,h.few2,h.within.later hb⟩
end Go.Hm
namespace Go.Proofs.YtmgfkpnghlmheaaGreat
open Go.RowKit Go.Hm Go.WideShapes Go.ChangeShapes
section
variable{H:Type}{enc:TypeId × Value→H}{W:World}{base:Nat}{v:Value}{d:DataW H}{ps:List MemPlace}
theorem z8h{cs:List Value}(h:Held enc Tryz.prog W 23 cs):∃(A:Option Addr) (c:Nat) (D:List zdo),cs=[.slice A D.length c]∧D.length≤4611686018427387903∧Reads W W.heap.size 1 A D.length (recs zf4 D)∧DataIn W W.heap.size D∧∀d∈D,∀y∈d.2.2,CellFine y:=by
 have ht:Tryz.prog.underlying 23=some (.slice 71):=by kernel_rfl
 obtain⟨A,c,l,h1,h2,_,h4,h5,h6⟩:=h.recs (f:=zf4) (sz:=1) (by_:=24) (Q:=fun x=>(Reads W W.heap.size 5 x.1 x.2.2.length (recs zak x.2.2)∧(∀y∈x.2.2,CellFine y)∧x.2.2.length≤x.2.1∧x.2.1≤9223372036854775807∧(x.1=none→x.2.1=0))) (none,0,[]) ht (by kernel_rfl) (by kernel_rfl) (fun _=>rfl) (by omega) (fun cs hh=>z1b hh);exact⟨A,c,l,h1,by unfold reachBytes at h4;omega,h5,fun d hd=>⟨(h6 d hd).1,fun y hy=>((h6 d hd).2.1 y hy).1,(h6 d hd).2.2⟩,fun d hd=>(h6 d hd).2.1⟩
theorem qgc(hval:Value.okWide Tryz.prog W .any base 25 v)(h:DataW.Trod enc Tryz.prog W 0 (fun _=>true) true 25 v d ps)(hlt:∀p∈ps,p.block<W.heap.size)(hw:∀n∈d.weights Tryz.prog 25,n≤reachBytes):
 ∃(Ac:Option Addr) (cc:Nat) (L:List za0) (r:Int) (Ad:Option Addr) (cd:Nat) (D:List zdo),v= .agg #[.slice Ac L.length cc,.int .i64 r,.slice Ad D.length cd]∧TabIn W Ac cc L Ad D∧(-9223372036854775808≤r∧r≤9223372036854775807)∧∀d∈D,∀y∈d.2.2,CellFine y:=by
 have ht:Tryz.prog.underlying 25=some (.struct (zdd Tryz.prog 25)):=by kernel_rfl
 have he:Tryz.prog.underlying 70=some (.struct (zdd Tryz.prog 70)):=by kernel_rfl
 have hc:Tryz.prog.underlying 22=some (.slice 70):=by kernel_rfl
 obtain⟨⟨cs⟩,rfl,hsz⟩:=okWide_struct ht hval;have hh:=Held.of h hlt hw;simp only[Value.cells] at hh;obtain⟨x0,x1,x2,rfl⟩:=qe1 (hh.partLen ht (n:=3) (by kernel_rfl));have p0:=hh.part ht 0 0 1 (ft:=22) (by kernel_rfl) (by kernel_rfl);have p1:=hh.part ht 1 1 1 (ft:=3) (by kernel_rfl) (by kernel_rfl);have p2:=hh.part ht 2 2 1 (ft:=23) (by kernel_rfl) (by kernel_rfl)
 obtain⟨Ac,cc,L,h1,h2,_,h4,h5,h6⟩:=p0.recs (f:=zh4) (sz:=3) (by_:=32) (Q:=fun x=>(∀z∈x.1,z<256)∧x.1.length≤140737488351232) ([],0,false) hc (by kernel_rfl) (by kernel_rfl) (fun _=>rfl) (by omega) (fun cs hh=>by
  obtain⟨x0,x1,x2,rfl⟩:=qe1 (hh.partLen he (n:=3) (by kernel_rfl));have p0:=hh.part he 0 0 1 (ft:=9) (by kernel_rfl) (by kernel_rfl);have p1:=hh.part he 1 1 1 (ft:=3) (by kernel_rfl) (by kernel_rfl);have p2:=hh.part he 2 2 1 (ft:=4) (by kernel_rfl) (by kernel_rfl);obtain⟨nm,e1,e2,e3⟩:=p0.string (by kernel_rfl);obtain⟨ty,e4,e5,e6⟩:=p1.i64 (by kernel_rfl);obtain⟨nu,e7⟩:=p2.bool (by kernel_rfl);simp only[List.drop_succ_cons,List.drop_zero,List.take_succ_cons,List.take_zero,List.cons.injEq,and_true] at e1 e4 e7;subst e1 e4 e7
  exact⟨(nm,ty,nu),rfl,e2,e3⟩)
 obtain⟨r,h7,h8,h9⟩:=p1.i64 (by kernel_rfl);obtain⟨Ad,cd,D,g1,g2,g3,g4,g5⟩:=z8h p2;simp only[List.drop_succ_cons,List.drop_zero,List.take_succ_cons,List.take_zero,List.cons.injEq,and_true] at h1 h7 g1;subst h1 h7 g1;exact⟨Ac,cc,L,r,Ad,cd,D,rfl,⟨h5,h6,h2,by unfold reachBytes at h4;omega,g3,g2,g4⟩,⟨h8,h9⟩,g5⟩
end
open Go.RowKit Go.Hm
theorem zps{α:Type}{l:List α}{k:Nat}(d:α)(h:k<l.length):l.getD k d∈l:=by
 rw[List.getD_eq_getElem?_getD,List.getElem?_eq_getElem h];exact List.getElem_mem h
end Go.Proofs.YtmgfkpnghlmheaaGreat
