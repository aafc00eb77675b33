/- Merged. -/
import Derived.Test.YtmgfkpnghlmheaaGreatBun7
set_option maxHeartbeats 2000000
namespace Go.Hm
open Go Go.RowKit
theorem zgg{W1 W2:World}{base:Nat}{e e':TypeId}{u v:Value}{xs ys:List Value}(h2:Own W2 W1.heap.size e u xs)(h1:Own W1 base e' v ys):u.ownBlock=none\/u.ownBlock≠v.ownBlock:=by
 rcases hu:u.ownBlock with _|k
 ·exact .inl rfl
 ·refine .inr fun e=>?_
  have a:=(h2.lt k hu).1;have b:=(h1.lt k e.symm).2;omega
theorem zik{W:World}{base:Nat}{e:TypeId}{u v v':Value}{xs:List Value}(h:u.ownBlock=none\/u.ownBlock≠v.ownBlock)(d:v'.ownBlock=v.ownBlock\/ ∃g,v'.ownBlock=some g/\W.heap.size<=g)(k:Own W base e u xs):u.ownBlock=none\/u.ownBlock≠v'.ownBlock:=by
 rcases hu:u.ownBlock with _|g
 ·exact .inl rfl
 ·right
  rcases d with d|⟨g',d,hg⟩
  ·rw[d,<-hu]
   rcases h with h|h
   ·rw[hu] at h;cases h
   ·exact h
  ·rw[d]
   intro e;injection e with e;have:=(k.lt g hu).2;omega
theorem zfv{u v:Value}(h:u.ownBlock=none\/u.ownBlock≠v.ownBlock):v.ownBlock=none\/v.ownBlock≠u.ownBlock:=by
 rcases hv:v.ownBlock with _|k
 ·exact .inl rfl
 ·refine .inr fun e=>?_
  rcases h with h|h
  ·rw[h] at e;cases e
  ·exact h (by rw[hv,e])
open Go.RowKit
def fitsV(typ enc:Int):Bool:=decide ((enc=0\/enc=1)/\0<=typ/\typ<=3\/enc=2/\(typ=0\/typ=1)\/enc=3/\(typ=0\/typ=3)\/enc=4/\typ=2)
def zot(t e:Int):Prop:=e= -1\/fitsV t e=true
instance(t e:Int):Decidable (zot t e):=by unfold zot;exact inferInstance
def zdg(g p:Int)(encs:List Int)(cols:List za2):Int:=
 if¬(1<=g/\g<=65536/\1<=p/\p<=65536/\encs.length=cols.length) then 1 else if∀i,i<encs.length->zot (cols.getD i ([],0,false)).2.1 (encs.getD i 0) then 0 else 3
end Go.Hm
namespace Go.Proofs.Y
open Go.RowKit Go.Hm
theorem zim(t e:Int)(w:World):Calls Tryz.prog 54 #[.int .i64 t,.int .i64 e] w (zdw (.bool (fitsV t e)) w):=by
 generalize hO:fitsV t e=O;have HO:=Hz hO;clear hO;go_enter Tryz.func54,Tryz.ntmps54
 go_wp2
 all_goals go_ret
 all_goals
  simp only[beq_iff_eq,beq_eq_false_iff_ne,ne_eq] at*;rw[<-HO.out];refine⟨congrArg (fun b=>Ending.returned (.bool b)) ?_,rfl⟩;rw[Bool.eq_iff_iff];simp only[fitsV,decide_eq_true_eq,Bool.or_eq_true,beq_iff_eq,Bool.false_eq_true,false_iff,true_iff];omega
theorem zux(n:Int)(w:World):Calls Tryz.prog 53 #[.int .i64 n] w (zdw (.bool (decide (1<=n/\n<=65536))) w):=by
 generalize hO:decide (1<=n/\n<=65536)=O;have HO:=Hz hO;clear hO;go_enter Tryz.func53,Tryz.ntmps53
 go_wp2
 all_goals go_ret
 all_goals
  rw[<-HO.out];refine⟨congrArg (fun b=>Ending.returned (.bool b)) ?_,rfl⟩;rw[Bool.eq_iff_iff];simp only[decide_eq_true_eq,Bool.false_eq_true,false_iff];omega
abbrev Cv(g p:Int)(A:Option Addr)(n c:Nat):Value:= .agg #[.int .i64 g,.int .i64 p,.slice A n c]
theorem z6f{g p:Int}{E:List Int}{L:List za2}(hg:1<=g/\g<=65536/\1<=p/\p<=65536/\E.length=L.length)(h:∀i,i<E.length->zot (L.getD i ([],0,false)).2.1 (E.getD i 0)):zdg g p E L=0:=by unfold zdg;rw[if_neg (by simpa using hg),if_pos h]
theorem z15{g p:Int}{E:List Int}{L:List za2}(hg:1<=g/\g<=65536/\1<=p/\p<=65536/\E.length=L.length){i:Nat}(hi:i<E.length)(h: ¬zot (L.getD i ([],0,false)).2.1 (E.getD i 0)):zdg g p E L=3:=by unfold zdg;rw[if_neg (by simpa using hg),if_neg (fun hh=>h (hh i hi))]
theorem z6g{g p:Int}{E:List Int}{L:List za2}(hg: ¬(1<=g/\g<=65536/\1<=p/\p<=65536/\E.length=L.length)):zdg g p E L=1:=by unfold zdg;rw[if_pos hg]
set_option maxRecDepth 100000 in
theorem z16{w:World}{A A2:Option Addr}{n c n2 c2:Nat}{g p:Int}{E:List Int}{L:List za2}(h:Reads w w.heap.size 1 A n (zep .i64 E))(h2:Reads w w.heap.size 3 A2 n2 (recs zh8 L))(hn:n<=4611686018427387903):
 Calls Tryz.prog 20 #[Cv g p A n c,.slice A2 n2 c2] w (zap (.int .i64 (zdg g p E L)) w):=by
 have l1:=h.lenI;have l2:=h2.lenC;have b0:New w (w.alloc (.cells #[.int .i64 g,.int .i64 p,.slice A n c] 28)):=(Below.refl _ _).alloc (Nat.le_refl _) _;have B0:=Blk.new w 28 #[.int .i64 g,.int .i64 p,.slice A n c];obtain⟨x0,x1,x2⟩:=zaf B0;have R1:=Hz (fun W=>zux g W);have R2:=Hz (fun W=>zux p W);by_cases hg:1<=g/\g<=65536/\1<=p/\p<=65536/\E.length=L.length
 ·rw[decide_eq_true (show 1<=g/\g<=65536 by omega)] at R1
  rw[decide_eq_true (show 1<=p/\p<=65536 by omega)] at R2;have K1:=Hz (fun hh=>z6f hg hh);have K2:=Hz (fun(i:Nat) (hi:i<n) hh=>z15 hg (i:=i) (by omega) hh);have hll:n2=n:=by omega
  have HL:=Hz l1;subst hll;generalize zdg g p E L=O at*;have r1:=Reads.later h b0;have r2:=Reads.later h2 b0;clear hg B0 h h2 l1 l2;go_enter Tryz.func20,Tryz.ntmps20
  go_wp2_with (first
   |(go_at_call 53;(with_reducible refine(R1.out _).mono ?_);rintro e w1 ⟨rfl,rfl⟩)
   |(go_at_call 53;(with_reducible refine(R2.out _).mono ?_);rintro e w1 ⟨rfl,rfl⟩))
  clear x0 x1 x2 R1 R2;obtain⟨W0,hW0⟩:∃W,W=w.alloc (.cells #[.int .i64 g,.int .i64 p,.slice A n2 c] 28):=⟨_,rfl⟩;rw[<-hW0] at b0 r1 r2⊢;clear hW0;go_loopw [28] (fun i wr=>∃k:Nat,i= .int .i64 (k:Int)/\k<=n2/\W0=wr/\Hid (∀j,j<k->zot (L.getD j ([],0,false)).2.1 (E.getD j 0))) (fun i _=>n2-(intOf i).toNat)
  case atStart=>exact⟨0,rfl,by omega,rfl,Hz (fun j hj=>by omega)⟩
  case round=>
   obtain⟨k,rfl,hk,rfl,H⟩:=hrel;by_cases hlt:k<n2
   ·obtain⟨ad,rfl,hb,hc⟩:=r1.int hlt
    obtain⟨ad2,rfl,hb2,hc0,hc1,hc2⟩:=r2.colT hlt;have K2:=Hz (K2.out k hlt);have N:=Hz (show zot (L.getD k ([],0,false)).2.1 (E.getD k 0)-> ∀j,j<k+1->zot (L.getD j ([],0,false)).2.1 (E.getD j 0) from fun hh j hj=>by
     by_cases e:j=k
     ·subst e;exact hh
     ·exact H.out j (by omega))
    generalize(L.getD k ([],0,false)).2.1=t at*;generalize E.getD k 0=e at*;generalize(L.getD k ([],0,false)).2.2=x3 at*;generalize(L.getD k ([],0,false)).1=x4 at*;have hiz:(k:Int)<(n2:Int):=by omega
    have F:=Hz (fun W=>zim t e W);by_cases he:e= -1
    ·have N2:=Hz (N.out (.inl he))
     subst he;go_wp2
     go_roundw
     case rel=>exact⟨k+1,by go_num,by omega,trivial,N2⟩
     case measure=>simp[intOf];omega
    ·have e1:(e != -1)=true:=by simpa using he
     cases hf:fitsV t e
     ·have K3:=Hz (K2.out (fun hh=>by rcases hh with hh|hh;exact he hh;rw[hf] at hh;cases hh))
      rw[hf] at F;clear hf he;go_wp2_with (go_at_call 54;(with_reducible refine(F.out _).mono ?_);rintro e w1 ⟨rfl,rfl⟩)
      go_ret
      exact⟨by rw[K3.out];rfl,b0⟩
     ·have N2:=Hz (N.out (.inr hf))
      rw[hf] at F;clear hf he;go_wp2_with (go_at_call 54;(with_reducible refine(F.out _).mono ?_);rintro e w1 ⟨rfl,rfl⟩)
      go_roundw
      case rel=>exact⟨k+1,by go_num,by omega,trivial,N2⟩
      case measure=>simp[intOf];omega
   ·have K3:=Hz (K1.out (fun i hi=>H.out i (by have:=HL.out;omega)))
    go_wp2
    go_ret
    exact⟨by rw[K3.out];rfl,b0⟩
 ·have K:=Hz (z6g hg)
  generalize zdg g p E L=O at*;by_cases h1:1<=g/\g<=65536;all_goals try(rw[decide_eq_true h1] at R1)
  all_goals try(rw[decide_eq_false h1] at R1)
  all_goals try(by_cases h2:1<=p/\p<=65536)
  all_goals try(rw[decide_eq_true h2] at R2)
  all_goals try(rw[decide_eq_false h2] at R2)
  all_goals try(have d2:((n:Int) != (n2:Int))=true:=by simp;omega)
  all_goals
   clear hg B0 l1 l2 h1;go_enter Tryz.func20,Tryz.ntmps20
   go_wp2_with (first
    |(go_at_call 53;(with_reducible refine(R1.out _).mono ?_);rintro e w1 ⟨rfl,rfl⟩)
    |(go_at_call 53;(with_reducible refine(R2.out _).mono ?_);rintro e w1 ⟨rfl,rfl⟩))
   go_ret
   exact⟨by rw[K.out];rfl,b0⟩
end Go.Proofs.Y
namespace Go.Hm
open Go Go.RowKit
section
variable{P:Program}{o:Oper}{a:Act}{Q:Exit->Act->World->Prop}{K:Act->World->Prop}
theorem z69{w:World}{t e:TypeId}{z:Value}{sz bytes:Nat}(E:ElT P t e z sz bytes)(s x:Operand)
 (ho:o.op= .call {callee:= .builtin .append,args:= #[s,x],argTypes:= #[t,t]})
 {W:World}{B base n m c:Nat}{v:Value}{xs news:List Value}{A:Option Addr}(hown:w.ownsRow base e sz v n xs)(hr:Reads w w.heap.size sz A m news)(hs:a.eval s=v)(hx:a.eval x= .slice A m c)
 (hb:Below B W w)(hbB:B<=base)(hbase:base<=w.heap.size)(h1:∀u∈news,u.oneCell'=true)
 (hn:(n+m)*bytes<=140737488355328)(hm:n+m<=maxLen)
 (h:∀A' c' w',n+m<=c'->c'<=maxLen->w'.ownsRow base e sz (.slice A' (n+m) c') (n+m) (xs++news)->w.grownBy w' v.ownBlock->Below B W w'->K (a.put o.dst (.slice A' (n+m) c')) w'):
 Oper.wp P o a w K Q:=by
 obtain⟨i,hi,hz0,hz1,hz2⟩:=info_parts E.hi;rcases A with _|ad
 ·have hm0:m=0:=by
   rcases Nat.eq_zero_or_pos m with h0|h0
   ·exact h0
   ·obtain⟨ad,h',_⟩:=hr.2 h0
    cases h'
  subst hm0;have hn0:news=[]:=List.eq_nil_of_length_eq_zero (by have:=hr.1;omega);subst hn0;have hrun:∀ty,(Builtin.append_ #[t,t] ty #[v,.slice none 0 c]).run P w= .ok v w:=by
   intro ty;rcases hown.2 with⟨rfl,hx0⟩|⟨g,cap,cur,rfl,_,_,hnc,_⟩
   ·simp[Builtin.append_,run_underlying E.ht,sizeOf,typeInfo,hi,Builtin.lenOf,Builtin.firstCells]
   ·simp[Builtin.append_,run_underlying E.ht,sizeOf,typeInfo,hi,Builtin.lenOf,Builtin.firstCells,hnc,storeCells]
  obtain⟨A',c',rfl,hc1,hc2⟩:=zcg hown;unfold Oper.wp execOp;simp only[ho,resolve,invoke,builtin,Sem.run_bind,Sem.run_pure,Result.andThen_ok,List.map_toArray,List.map_cons,List.map_nil,hs,hx,hrun];exact h A' c' w hc1 hc2 (by simpa using hown) (World.grownBy.refl w _) hb
 ·have hl:news.length=m*sz:=hr.1
  have hcells:∀j u,news[j]? =some u->w.cell? (ad.add j)=some u:=by
   intro j u hu;rcases Nat.eq_zero_or_pos m with h0|h0
   ·subst h0
    have hn:news=[]:=List.eq_nil_of_length_eq_zero (by omega);subst hn;simp at hu
   ·obtain⟨ad',h',_,hc⟩:=hr.2 h0
    injection h' with h';subst h';exact hc j u hu
  obtain⟨v',w',hr',hown',hg,_,_⟩:=run_append_own_at (P:=P) w base t o.type e i z sz bytes E.ht hi hz0 hz1 hz2 E.hz E.hs v n xs hown ad m c news hl hcells h1 hm hn hbase;obtain⟨A',c',rfl,hc1,hc2⟩:=zcg hown';unfold Oper.wp execOp;simp only[ho,resolve,invoke,builtin,Sem.run_bind,Sem.run_pure,Result.andThen_ok,List.map_toArray,List.map_cons,List.map_nil,hs,hx,hr'];exact h A' c' w' hc1 hc2 hown' hg (hb.grown hg (Nat.le_trans hbB hbase) (fun k hk=>by have:=(World.ownsRow.lt hown k hk).1;omega))
end
def zm2(v:Value):List Nat:=match v.ownBlock with|some g=>[g]|none=>[]
theorem Turns.row{w w':World}{v:Value}(h:w.grownBy w' v.ownBlock):Turns (zm2 v) w w':=by
 unfold zm2;cases e:v.ownBlock with
 |none=>rw[e] at h;exact Turns.of_none h
 |some g=>rw[e] at h;exact Turns.of_far h (by simp)
theorem z7a{w:World}{base sz n:Nat}{e:TypeId}{v:Value}{xs:List Value}(h:w.ownsRow base e sz v n xs):∀x∈zm2 v,base<=x/\x<w.heap.size:=by
 intro x hx;unfold zm2 at hx;cases e:v.ownBlock with
 |none=>rw[e] at hx;simp at hx
 |some g=>rw[e] at hx;simp at hx;subst hx;exact World.ownsRow.lt h _ e
theorem ziv{w:World}{base sz n:Nat}{e t:TypeId}{v:Value}{xs:List Value}{g:Nat}{cs:Array Value}(h:w.ownsRow base e sz v n xs)(hg:Blk w g t cs)(hne:e≠t):g∉zm2 v:=by
 intro hx;unfold zm2 at hx;cases e':v.ownBlock with
 |none=>rw[e'] at hx;simp at hx
 |some g'=>rw[e'] at hx;simp at hx;subst hx;exact zal h hg hne e'
theorem z7b{w w':World}{base sz n:Nat}{e:TypeId}{v:Value}{xs:List Value}{T:List Nat}(h:w.ownsRow base e sz v n xs)(k:Turns T w w')(hT:∀x∈T,v.ownBlock≠some x):w'.ownsRow base e sz v n xs:=by
 refine⟨h.1,?_⟩;rcases h.2 with hn|⟨g,cap,cur,rfl,hbg,hgg,rest⟩
 ·exact .inl hn
 ·refine .inr ⟨g,cap,cur,rfl,hbg,?_,rest⟩
  rw[k.block g (Array.getElem?_eq_some_iff.1 hgg).1 (fun hm=>hT g hm rfl)];exact hgg
theorem z7c{w:World}{base base2 sz sz2 n n2:Nat}{e e2:TypeId}{v v2:Value}{xs xs2:List Value}(h:w.ownsRow base e sz v n xs)(h2:w.ownsRow base2 e2 sz2 v2 n2 xs2)(hne:e≠e2):∀x∈zm2 v2,v.ownBlock≠some x:=by
 intro x hx;unfold zm2 at hx;cases e':v2.ownBlock with
 |none=>rw[e'] at hx;simp at hx
 |some g=>
  rw[e'] at hx;simp at hx;subst hx;rcases h2.2 with⟨rfl,_⟩|⟨g',cap,cur,rfl,_,hh,_⟩
  ·simp[Value.ownBlock] at e'
  ·have:g'=x:=by simpa[Value.ownBlock] using e'
   subst this;exact zal h hh hne
open Go Go.RowKit
theorem zz6{w:World}{g:Nat}{ty:TypeId}{x y a b:Value}(h:Blk w g ty #[x,y]):Blk ((w.setCell ⟨g,0,none⟩ a).setCell ⟨g,1,none⟩ b) g ty #[a,b]:=by simpa using((h.set_ 0 a).set_ 1 b)
theorem zpk{g i:Nat}(u:Value)(w:World):Far g w (w.setCell ⟨g,i,none⟩ u):=
 ⟨rfl,rfl,rfl,by simp[World.setCell],fun k _ hne=>Below.heap_setCell _ _ _ _ (by rintro rfl;exact hne rfl)⟩
theorem znv{g:Nat}(a b:Value)(w:World):Far g w ((w.setCell ⟨g,0,none⟩ a).setCell ⟨g,1,none⟩ b):=Far.trans (zpk a w) (zpk b _)
end Go.Hm
namespace Go.Proofs.Y
open Go.RowKit Go.Hm
set_option maxRecDepth 100000 in
theorem qd4{w:World}{x y:Int}{a b:Nat}(h:ztv x y a b)(hx: -9223372036854775808<=x/\x<=9223372036854775807)(hy: -9223372036854775808<=y/\y<=9223372036854775807):
 Calls Tryz.prog 244 #[.complex .f64 a b] w (zap (.agg #[.int .i64 x,.int .i64 y]) w):=by
 have f1:=fun w:World=>run_convert_float_int (P:=Tryz.prog) w 220 3 .f64 .i64 a _ (by kernel_rfl) (by kernel_rfl) (zxf h.1 hx)
 have f2:=fun w:World=>run_convert_float_int (P:=Tryz.prog) w 220 3 .f64 .i64 b _ (by kernel_rfl) (by kernel_rfl) (zxf h.2 hy)
 have b0:New w (w.alloc (.cells #[.int .i64 x,.int .i64 y] 59)):=(Below.refl _ _).alloc (Nat.le_refl _) _;obtain⟨s0,s1⟩:=zbe (Blk.new w 59 #[.int .i64 x,.int .i64 y]);clear h hx hy;go_enter Tryz.func244,Tryz.ntmps244
 go_wp2
 exact bodyPost_ret (v:= .agg #[.int .i64 x,.int .i64 y]) (by simp[results,Tryz.results244,go_sem,s0,s1]) rfl ⟨rfl,b0⟩
set_option maxRecDepth 100000 in
theorem qcc{w:World}{x y u v:Int}(hx: -2097152<=x/\x<=2097152)(hy: -2097152<=y/\y<=2097152)(hu: -2097152<=u/\u<=2097152)(hv: -2097152<=v/\v<=2097152):
 Calls Tryz.prog 242 #[.agg #[.int .i64 x,.int .i64 y],.agg #[.int .i64 u,.int .i64 v]] w (zap (.agg #[.int .i64 (x+u),.int .i64 (y+v)]) w):=by
 obtain⟨W0,hW0⟩:∃W,W=((w.alloc (.cells #[.int .i64 x,.int .i64 y] 59)).alloc (.cells #[.int .i64 u,.int .i64 v] 59)).alloc (.cells #[.int .i64 0,.int .i64 0] 59):=⟨_,rfl⟩;have b0:New w W0:=by rw[hW0];exact(((Below.refl _ _).alloc (Nat.le_refl _) _).alloc (by simp) _).alloc (by simp;omega) _
 have e1:(w.alloc (.cells #[.int .i64 x,.int .i64 y] 59)).heap.size=w.heap.size+1:=by simp
 have e2:((w.alloc (.cells #[.int .i64 x,.int .i64 y] 59)).alloc (.cells #[.int .i64 u,.int .i64 v] 59)).heap.size=w.heap.size+1+1:=by simp
 have A0:Blk W0 w.heap.size 59 #[.int .i64 x,.int .i64 y]:=by rw[hW0];exact((Blk.new _ _ _).alloc _).alloc _
 have B0:Blk W0 (w.heap.size+1) 59 #[.int .i64 u,.int .i64 v]:=by rw[hW0,<-e1];exact(Blk.new _ _ _).alloc _
 have C0:Blk W0 (w.heap.size+1+1) 59 #[.int .i64 0,.int .i64 0]:=by rw[hW0,<-e2];exact Blk.new _ _ _
 have F:=Hz (fun(W:World) (hW:Far (w.heap.size+1+1) W0 W)=>And.intro (zbe (A0.grown hW (by simp;omega))) (zbe (B0.grown hW (by simp))));have HC:=Hz C0;have HW:=Hz hW0;have HB:=Hz b0;have P1:=Hz (fun(W:World)=>zg4 (w:=W) (x:=x) (y:=y) (by omega) (by omega));have P2:=Hz (fun(W:World)=>zg4 (w:=W) (x:=u) (y:=v) (by omega) (by omega));have P3:=Hz (fun(W:World) (a b c d:Nat) (h1:ztv x y a b) (h2:ztv u v c d)=>show∃re im,cSumBits .add .f64 a b c d=some (re,im)/\ ∀W:World,Calls Tryz.prog 244 #[.complex .f64 re im] W (zap (.agg #[.int .i64 (x+u),.int .i64 (y+v)]) W) by obtain⟨re,im,k1,k2⟩:=qbe h1 h2 (by omega) (by omega);exact⟨re,im,k1,fun W=>qd4 k2 (by omega) (by omega)⟩)
 generalize x+u=rx at*;generalize y+v=ry at*;clear A0 B0 C0 hW0 b0 e1 e2 hx hy hu hv;go_enter Tryz.func242,Tryz.ntmps242
 go_wp2_with fail
 rw[<-HW.out];refine zat (Far (w.heap.size+1+1)) [(true,0),(true,2),(false,1),(false,3),(true,4),(false,5),(false,6)]
  (Far.refl _) Far.trans (by kernel_rfl) (by kernel_rfl) (by kernel_rfl) (by kernel_rfl) ?_
 have hN:=New.drew W0;iterate 2 (
  refine za1 rfl rfl (v:=?_) (fun W hW=>?_) ?_;rotate_left
  ·obtain⟨⟨x0,x1⟩,⟨y0,y1⟩⟩:=F.out W (Far.trans (Far.of_new hN) hW)
   go_simp<;> with_reducible rfl
  simp only[Act.put,List.setIfInBounds_toArray,List.set_cons_zero,List.set_cons_succ])
 refine zbb rfl rfl (fun K hK=>?_);go_simp
 (with_reducible refine(P1.out _).mono ?_)
 rintro e w1 ⟨a,b,rfl,hr1,c1⟩;refine hK _ _ (Far.of_new c1) ?_;clear hK;replace hN:=New.trans hN c1;refine zbb rfl rfl (fun K hK=>?_);go_simp
 (with_reducible refine(P2.out _).mono ?_)
 rintro e w2 ⟨c,d,rfl,hr2,c2⟩;refine hK _ _ (Far.of_new c2) ?_;clear hK;replace hN:=New.trans hN c2;obtain⟨re,im,k1,k2⟩:=P3.out w2 a b c d hr1 hr2;have K2:=Hz k2;have m:=fun w:World=>run_complex_sum (P:=Tryz.prog) w .add (.inl rfl) 218 .f64 a b c d re im k1
 clear k1 k2 hr1 hr2 P1 P2 P3;refine za1 rfl rfl (v:=?_) (fun W hW=>?_) ?_;rotate_left
 ·go_simp<;> with_reducible rfl
 simp only[Act.put,List.setIfInBounds_toArray,List.set_cons_zero,List.set_cons_succ];clear m;refine zbb rfl rfl (fun K hK=>?_);go_simp
 (with_reducible refine(K2.out _).mono ?_)
 rintro e w3 ⟨rfl,c3⟩;refine hK _ _ (Far.of_new c3) ?_;clear hK;replace hN:=New.trans hN c3;have C3:=HC.out.below hN HC.out.lt;obtain⟨z0,z1⟩:=zbe C3;have f0:=C3.frozen 0;have f1:=C3.frozen 1;have S3:=Hz (zz6 C3 (a:= .int .i64 rx) (b:= .int .i64 ry));have hF:=znv (g:=w.heap.size+1+1) (.int .i64 rx) (.int .i64 ry) w3;clear C3;refine zbb rfl rfl (fun K hK=>?_);go_simp
 refine hK _ _ hF ?_;clear hK z0 z1 f0 f1;refine zc3 ?_;obtain⟨s0,s1⟩:=zbe S3.out;have bE:=New.far HB.out (Far.trans (Far.of_new hN) hF) (by omega);clear hF S3;go_wp2
 exact bodyPost_ret (v:= .agg #[.int .i64 rx,.int .i64 ry]) (by simp[results,Tryz.results242,go_sem,s0,s1]) rfl ⟨rfl,bE⟩
set_option maxRecDepth 100000 in
theorem qcd{w:World}{x y u v:Int}(hx: -2097152<=x/\x<=2097152)(hy: -2097152<=y/\y<=2097152)(hu: -2097152<=u/\u<=2097152)(hv: -2097152<=v/\v<=2097152):
 Calls Tryz.prog 240 #[.agg #[.int .i64 x,.int .i64 y],.agg #[.int .i64 u,.int .i64 v]] w (zap (.agg #[.int .i64 (x-u),.int .i64 (y-v)]) w):=by
 obtain⟨W0,hW0⟩:∃W,W=((w.alloc (.cells #[.int .i64 x,.int .i64 y] 59)).alloc (.cells #[.int .i64 u,.int .i64 v] 59)).alloc (.cells #[.int .i64 0,.int .i64 0] 59):=⟨_,rfl⟩;have b0:New w W0:=by rw[hW0];exact(((Below.refl _ _).alloc (Nat.le_refl _) _).alloc (by simp) _).alloc (by simp;omega) _
 have e1:(w.alloc (.cells #[.int .i64 x,.int .i64 y] 59)).heap.size=w.heap.size+1:=by simp
 have e2:((w.alloc (.cells #[.int .i64 x,.int .i64 y] 59)).alloc (.cells #[.int .i64 u,.int .i64 v] 59)).heap.size=w.heap.size+1+1:=by simp
 have A0:Blk W0 w.heap.size 59 #[.int .i64 x,.int .i64 y]:=by rw[hW0];exact((Blk.new _ _ _).alloc _).alloc _
 have B0:Blk W0 (w.heap.size+1) 59 #[.int .i64 u,.int .i64 v]:=by rw[hW0,<-e1];exact(Blk.new _ _ _).alloc _
 have C0:Blk W0 (w.heap.size+1+1) 59 #[.int .i64 0,.int .i64 0]:=by rw[hW0,<-e2];exact Blk.new _ _ _
 have F:=Hz (fun(W:World) (hW:Far (w.heap.size+1+1) W0 W)=>And.intro (zbe (A0.grown hW (by simp;omega))) (zbe (B0.grown hW (by simp))));have HC:=Hz C0;have HW:=Hz hW0;have HB:=Hz b0;have P1:=Hz (fun(W:World)=>zg4 (w:=W) (x:=x) (y:=y) (by omega) (by omega));have P2:=Hz (fun(W:World)=>zg4 (w:=W) (x:=u) (y:=v) (by omega) (by omega));have P3:=Hz (fun(W:World) (a b c d:Nat) (h1:ztv x y a b) (h2:ztv u v c d)=>show∃re im,cSumBits .sub .f64 a b c d=some (re,im)/\ ∀W:World,Calls Tryz.prog 244 #[.complex .f64 re im] W (zap (.agg #[.int .i64 (x-u),.int .i64 (y-v)]) W) by obtain⟨re,im,k1,k2⟩:=qbf h1 h2 (by omega) (by omega);exact⟨re,im,k1,fun W=>qd4 k2 (by omega) (by omega)⟩)
 generalize x-u=rx at*;generalize y-v=ry at*;clear A0 B0 C0 hW0 b0 e1 e2 hx hy hu hv;go_enter Tryz.func240,Tryz.ntmps240
 go_wp2_with fail
 rw[<-HW.out];refine zat (Far (w.heap.size+1+1)) [(true,0),(true,2),(false,1),(false,3),(true,4),(false,5),(false,6)]
  (Far.refl _) Far.trans (by kernel_rfl) (by kernel_rfl) (by kernel_rfl) (by kernel_rfl) ?_
 have hN:=New.drew W0;iterate 2 (
  refine za1 rfl rfl (v:=?_) (fun W hW=>?_) ?_;rotate_left
  ·obtain⟨⟨x0,x1⟩,⟨y0,y1⟩⟩:=F.out W (Far.trans (Far.of_new hN) hW)
   go_simp<;> with_reducible rfl
  simp only[Act.put,List.setIfInBounds_toArray,List.set_cons_zero,List.set_cons_succ])
 refine zbb rfl rfl (fun K hK=>?_);go_simp
 (with_reducible refine(P1.out _).mono ?_)
 rintro e w1 ⟨a,b,rfl,hr1,c1⟩;refine hK _ _ (Far.of_new c1) ?_;clear hK;replace hN:=New.trans hN c1;refine zbb rfl rfl (fun K hK=>?_);go_simp
 (with_reducible refine(P2.out _).mono ?_)
 rintro e w2 ⟨c,d,rfl,hr2,c2⟩;refine hK _ _ (Far.of_new c2) ?_;clear hK;replace hN:=New.trans hN c2;obtain⟨re,im,k1,k2⟩:=P3.out w2 a b c d hr1 hr2;have K2:=Hz k2;have m:=fun w:World=>run_complex_sum (P:=Tryz.prog) w .sub (.inr rfl) 218 .f64 a b c d re im k1
 clear k1 k2 hr1 hr2 P1 P2 P3;refine za1 rfl rfl (v:=?_) (fun W hW=>?_) ?_;rotate_left
 ·go_simp<;> with_reducible rfl
 simp only[Act.put,List.setIfInBounds_toArray,List.set_cons_zero,List.set_cons_succ];clear m;refine zbb rfl rfl (fun K hK=>?_);go_simp
 (with_reducible refine(K2.out _).mono ?_)
 rintro e w3 ⟨rfl,c3⟩;refine hK _ _ (Far.of_new c3) ?_;clear hK;replace hN:=New.trans hN c3;have C3:=HC.out.below hN HC.out.lt;obtain⟨z0,z1⟩:=zbe C3;have f0:=C3.frozen 0;have f1:=C3.frozen 1;have S3:=Hz (zz6 C3 (a:= .int .i64 rx) (b:= .int .i64 ry));have hF:=znv (g:=w.heap.size+1+1) (.int .i64 rx) (.int .i64 ry) w3;clear C3;refine zbb rfl rfl (fun K hK=>?_);go_simp
 refine hK _ _ hF ?_;clear hK z0 z1 f0 f1;refine zc3 ?_;obtain⟨s0,s1⟩:=zbe S3.out;have bE:=New.far HB.out (Far.trans (Far.of_new hN) hF) (by omega);clear hF S3;go_wp2
 exact bodyPost_ret (v:= .agg #[.int .i64 rx,.int .i64 ry]) (by simp[results,Tryz.results240,go_sem,s0,s1]) rfl ⟨rfl,bE⟩
end Go.Proofs.Y
set_option maxRecDepth 100000
namespace Go.Hm
structure TabIn(w:World)(Ac:Option Addr)(cc:Nat)(L:List za2)(Ad:Option Addr)(D:List zdy):Prop where
 cols:Reads w w.heap.size 3 Ac L.length (recs zh8 L)
 fine:∀x∈L,(∀z∈x.1,z<256)/\x.1.length<=140737488351232
 cap:L.length<=cc
 few:L.length<=4611686018427387903
 data:Reads w w.heap.size 1 Ad D.length (recs zhu D)
 few2:D.length<=4611686018427387903
 within:DataIn w w.heap.size D
theorem TabIn.later{w w':World}{Ac:Option Addr}{cc:Nat}{L:List za2}{Ad:Option Addr}{D:List zdy}(h:TabIn w Ac cc L Ad D)(hb:New w w'):TabIn w' Ac cc L Ad D:=
 ⟨Reads.later h.cols hb,h.fine,h.cap,h.few,Reads.later h.data hb,h.few2,h.within.later hb⟩
end Go.Hm
namespace Go.Proofs.Y
open Go.RowKit Go.Hm Go.WideShapes Go.ChangeShapes
section
variable{H:Type}{enc:TypeId × Value->H}{W:World}{base:Nat}{v:Value}{d:DataW H}{ps:List MemPlace}
end
end Go.Proofs.Y
namespace Go.Hm
open Go Go.RowKit
section
variable{α:Type}{t:TypeId}{sz:Nat}{f:α->List Value}
abbrev z3r(α:Type):=Option Addr × Nat × List α
def zl8(d:z3r α):Value:= .slice d.1 d.2.2.length d.2.1
theorem zny{D:List (z3r α)}{j:Nat}{d x:z3r α}(h:j<D.length):(D.set j x).getD j d=x:=by rw[List.getD_eq_getElem?_getD,List.getElem?_set_self h];rfl
theorem zwd{D:List (z3r α)}{i j:Nat}{d x:z3r α}(h:i≠j):(D.set j x).getD i d=D.getD i d:=by rw[List.getD_eq_getElem?_getD,List.getElem?_set_ne (by omega),List.getD_eq_getElem?_getD]
structure RowsAp(t:TypeId)(sz:Nat)(f:α->List Value)(w:World)(B:Nat)(D:List (z3r α)):Prop where
 rows:∀d∈D,w.ownsRow B t sz (zl8 d) d.2.2.length (recs f d.2.2)
 apart:∀i j,i<D.length->j<D.length->i≠j->(zl8 (D.getD i (none,0,[]))).ownBlock=none\/(zl8 (D.getD i (none,0,[]))).ownBlock≠(zl8 (D.getD j (none,0,[]))).ownBlock
theorem RowsAp.later{w w':World}{B:Nat}{D:List (z3r α)}(h:RowsAp t sz f w B D)(hb:New w w'):RowsAp t sz f w' B D:=⟨fun d hd=>zau (h.rows d hd) hb,h.apart⟩
theorem RowsAp.keepT{w w':World}{B g:Nat}{t':TypeId}{cs:Array Value}{D:List (z3r α)}(h:RowsAp t sz f w B D)(hT:Blk w g t' cs)(hne:t≠t')(hg:w.grownBy w' (some g)):RowsAp t sz f w' B D:=
 ⟨fun d hd=>World.ownsRow.kept (h.rows d hd) hg (.inr (zal (h.rows d hd) hT hne)),h.apart⟩
theorem RowsAp.nil{w:World}{B n:Nat}:RowsAp t sz f w B (List.replicate n (none,0,[])):=by
 refine⟨fun d hd=>?_,fun i j hi hj hne=>?_⟩
 ·rw[List.eq_of_mem_replicate hd]
  exact zcn
 ·rw[List.length_replicate] at hi
  left;rw[List.getD_eq_getElem?_getD,List.getElem?_replicate,if_pos hi];rfl
theorem z8s{D:List (z3r α)}{j:Nat}(h:j<D.length):D.getD j (none,0,[])∈D:=by rw[List.getD_eq_getElem?_getD,List.getElem?_eq_getElem h];exact List.getElem_mem h
theorem RowsAp.at_{w:World}{B j:Nat}{D:List (z3r α)}(h:RowsAp t sz f w B D)(hj:j<D.length):w.ownsRow B t sz (zl8 (D.getD j (none,0,[]))) (D.getD j (none,0,[])).2.2.length (recs f (D.getD j (none,0,[])).2.2):=h.rows _ (z8s hj)
theorem RowsAp.put{w w':World}{B j:Nat}{D:List (z3r α)}{d:z3r α}(h:RowsAp t sz f w B D)(hj:j<D.length)(hd:w'.ownsRow B t sz (zl8 d) d.2.2.length (recs f d.2.2))(hg:w.grownBy w' (zl8 (D.getD j (none,0,[]))).ownBlock)
 (hat:(zl8 d).ownBlock=(zl8 (D.getD j (none,0,[]))).ownBlock\/ ∃g,(zl8 d).ownBlock=some g/\w.heap.size<=g):RowsAp t sz f w' B (D.set j d):=by
 have hap:∀i,i<D.length->i≠j->(zl8 (D.getD i (none,0,[]))).ownBlock=none\/(zl8 (D.getD i (none,0,[]))).ownBlock≠(zl8 d).ownBlock:=by
  intro i hi hne;rcases hat with hat|⟨g,hat,hgg⟩
  ·rw[hat]
   exact h.apart i j hi hj hne
  ·rcases hu:(zl8 (D.getD i (none,0,[]))).ownBlock with _|k
   ·exact .inl rfl
   ·right
    rw[hat];intro e;injection e with e;have:=(World.ownsRow.lt (h.at_ hi) _ hu).2;omega
 refine⟨fun x hx=>?_,fun i k hi hk hne=>?_⟩
 ·obtain⟨i,hi,rfl⟩:=List.getElem_of_mem hx
  have e:(D.set j d)[i]'hi=(D.set j d).getD i (none,0,[]):=by rw[List.getD_eq_getElem?_getD,List.getElem?_eq_getElem hi];rfl
  have hi:i<D.length:=by simpa using hi
  rw[e];by_cases hij:i=j
  ·subst hij
   rw[zny hj];exact hd
  ·rw[zwd hij]
   exact World.ownsRow.kept (h.at_ hi) hg (h.apart i j hi hj hij)
 ·rw[List.length_set] at hi hk
  by_cases hij:i=j
  ·subst hij
   rw[zny hi,zwd (fun e=>hne e.symm)];exact zfv (hap k hk (fun e=>hne e.symm))
  ·rw[zwd hij]
   by_cases hkj:k=j
   ·subst hkj
    rw[zny hk];exact hap i hi hij
   ·rw[zwd hkj]
    exact h.apart i k hi hk hne
end
end Go.Hm
