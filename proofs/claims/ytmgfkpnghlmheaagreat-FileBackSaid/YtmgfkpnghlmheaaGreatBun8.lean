/- Texts merged and made short: DicM, Stores, Cols, ColsOk, ColsR. -/
import Derived.BigQuiet
import Derived.Deep.MidRow
import Derived.Deep.QuietTactic
import Derived.Outline
import Derived.Test.YtmgfkpnghlmheaaGreatBun1
import Derived.Test.YtmgfkpnghlmheaaGreatBun2
import Derived.Test.YtmgfkpnghlmheaaGreatBun3
import Derived.Test.YtmgfkpnghlmheaaGreatBun4
import Derived.Test.YtmgfkpnghlmheaaGreatBun5
set_option maxHeartbeats 2000000
namespace Go.Hm
open Go Go.RowKit
abbrev zfo:zab:=(false,0,[],0,0)
def zfp(s:List zab × List Nat)(c:zab):List zab × List Nat:=
 if c∈s.1 then(s.1,s.2++[s.1.idxOf c]) else(s.1++[c],s.2++[s.1.length])
def ze8(l:List zab):List zab × List Nat:=l.foldl zfp ([],[])
theorem zfq(l:List zab)(c:zab):ze8 (l++[c])=zfp (ze8 l) c:=by simp[ze8]
def zek(s:Option Nat)(p:Nat):Option Nat:=
 match s with
 |none=>none
 |some k=>if k<p then none else if p=k then some (k+1) else some k
def ordL(l:List Nat):Option Nat:=l.foldl zek (some 0)
theorem ze1(l:List Nat)(p:Nat):ordL (l++[p])=zek (ordL l) p:=by simp[ordL]
theorem zgb{α:Type}{C:List α→Prop}(h0:C [])(h1:∀l x,C l→C (l++[x])):∀l,C l:=fun l=>by
 have:∀k,∀l:List α,l.length=k→C l:=by
  intro k
  induction k with
  |zero=>intro l hl;rw[List.length_eq_zero_iff.1 hl];exact h0
  |succ k ih=>
   intro l hl
   have hne:l≠ []:=by intro e;subst e;simp at hl
   rw[←List.dropLast_concat_getLast hne];exact h1 _ _ (ih _ (by simp[hl]))
 exact this _ l rfl
theorem z4i{l:List Nat}{m:Nat}(h:ordL l=some m)(k:Nat):∃j,ordL (l.take k)=some j:=by
 have key:∀l:List Nat,∀m,ordL l=some m→∀k,∃j,ordL (l.take k)=some j:=by
  refine zgb ?_ ?_
  ·intro m h k;exact⟨m,by simpa using h⟩
  ·intro l x ih m h k
   by_cases hk:k≤l.length
   ·rw[List.take_append_of_le_length hk]
    rw[ze1] at h
    cases hl:ordL l with
    |none=>rw[hl] at h;simp[zek] at h
    |some j=>exact ih j hl k
   ·rw[List.take_of_length_le (by simp;omega)]
    exact⟨m,h⟩
 exact key l m h k
theorem zr4:∀(l:List Nat) (m:Nat),ordL l=some m→∀p∈l,p<m:=by
 refine zgb ?_ ?_
 ·intro m _ p hp;simp at hp
 ·intro l x ih m h p hp
  rw[ze1] at h
  cases hl:ordL l with
  |none=>rw[hl] at h;simp[zek] at h
  |some j=>
   rw[hl] at h;have hi:=ih j hl;unfold zek at h;dsimp only at h;split at h
   ·cases h
   ·split at h
    all_goals
     injection h with h;rcases List.mem_append.1 hp with hp|hp
     ·have:=hi p hp;omega
     ·rw[List.mem_singleton.1 hp];omega
structure IsEnt(l E:List zab)(P:List Nat):Prop where
 nodup:E.Nodup
 map:P.map (fun p=>E.getD p zfo)=l
 ord:ordL P=some E.length
theorem IsEnt.lt{l E:List zab}{P:List Nat}(h:IsEnt l E P):∀p∈P,p<E.length:=zr4 P _ h.ord
theorem IsEnt.len{l E:List zab}{P:List Nat}(h:IsEnt l E P):P.length=l.length:=by rw[←h.map,List.length_map]
theorem zt5{α:Type}{E:List α}{c d:α}{p:Nat}(h:p<E.length):(E++[c]).getD p d=E.getD p d:=by
 rw[List.getD_eq_getElem?_getD,List.getD_eq_getElem?_getD,List.getElem?_append_left h]
theorem zjt:∀l,IsEnt l (ze8 l).1 (ze8 l).2:=by
 refine zgb ?_ ?_
 ·exact⟨by simp[ze8],by simp[ze8],by simp[ze8,ordL]⟩
 ·intro l c h
  rw[zfq];obtain⟨h1,h2,h3⟩:=h;have hlt:=zr4 _ _ h3;generalize ze8 l=s at*;obtain⟨E,P⟩:=s;dsimp only at h1 h2 h3 hlt;unfold zfp;dsimp only;split
  ·rename_i hc
   have hi:E.idxOf c<E.length:=List.idxOf_lt_length_iff.2 hc;refine⟨h1,?_,?_⟩
   ·rw[List.map_append,h2]
    congr 1
    simp only[List.map_cons,List.map_nil];rw[List.getD_eq_getElem?_getD,List.getElem?_eq_getElem hi,List.getElem_idxOf hi];rfl
   ·rw[ze1,h3]
    unfold zek;dsimp only;rw[if_neg (by omega),if_neg (by omega)]
  ·rename_i hc
   refine⟨?_,?_,?_⟩
   ·rw[List.nodup_append]
    refine⟨h1,by simp,?_⟩;intro a ha b hb e;rw[List.mem_singleton.1 hb] at e;exact hc (e▸ha)
   ·rw[List.map_append]
    congr 1
    ·rw[←h2]
     exact List.map_congr_left fun p hp=>zt5 (hlt p hp)
    ·simp
   ·rw[ze1,h3]
    unfold zek;dsimp only;rw[if_neg (by omega),if_pos rfl];simp
theorem z07{E:List zab}(h:E.Nodup){p:Nat}(hp:p<E.length):E.idxOf (E.getD p zfo)=p:=by
 rw[List.getD_eq_getElem?_getD,List.getElem?_eq_getElem hp,Option.getD_some];have hi:E.idxOf E[p]<E.length:=List.idxOf_lt_length_iff.2 (List.getElem_mem hp);have:=List.getElem_idxOf hi;have hp':=List.pairwise_iff_getElem.1 h;rcases Nat.lt_trichotomy (E.idxOf E[p]) p with hlt|heq|hgt
 ·exact absurd this (hp' _ _ hi hp hlt)
 ·exact heq
 ·exact absurd this.symm (hp' _ _ hp hi hgt)
theorem IsEnt.uniq:∀{l E:List zab} {P:List Nat},IsEnt l E P→ze8 l=(E,P):=by
 have key:∀P:List Nat,∀l E,IsEnt l E P→ze8 l=(E,P):=by
  refine zgb ?_ ?_
  ·intro l E h
   have h1:=h.map;have h2:=h.ord;simp only[List.map_nil] at h1;subst h1;simp[ordL] at h2;have:E=[]:=List.length_eq_zero_iff.1 (by omega);subst this;rfl
  ·intro P p ih l E h
   obtain⟨h1,h2,h3⟩:=h;rw[List.map_append] at h2;simp only[List.map_cons,List.map_nil] at h2;rw[ze1] at h3;subst h2
   cases hk:ordL P with
   |none=>rw[hk] at h3;simp[zek] at h3
   |some k=>
    rw[hk] at h3;have hlt:=zr4 _ _ hk;unfold zek at h3;dsimp only at h3;rw[zfq];split at h3
    ·cases h3
    ·split at h3
     ·rename_i hpk
      injection h3 with h3;subst hpk
      have e1:E=E.take p++[E.getD p zfo]:=by
       have hp:p<E.length:=by omega
       conv=>lhs;rw[←List.take_append_drop p E,List.drop_eq_getElem_cons hp,List.drop_of_length_le (by omega)]
       rw[List.getD_eq_getElem?_getD,List.getElem?_eq_getElem hp];rfl
      have hl:(E.take p).length=p:=by rw[List.length_take];omega
      have hm:(P.map fun p=>E.getD p zfo)=P.map fun q=>(E.take p).getD q zfo:=by
       refine List.map_congr_left fun q hq=>?_
       have:=hlt q hq
       conv=>lhs;rw[e1]
       exact zt5 (by omega)
      have hi:=ih (P.map fun p=>E.getD p zfo) (E.take p) ⟨h1.sublist (List.take_sublist _ _),hm.symm,by rw[hk,hl]⟩;rw[hi]
      have hn:E.getD p zfo∉E.take p:=by
       rw[e1,List.nodup_append] at h1;intro hm;exact h1.2.2 _ hm _ (by simp) rfl
      unfold zfp;dsimp only;rw[if_neg hn,hl,←e1]
     ·rename_i h4 h5
      injection h3 with h3
      have hp:p<E.length:=by omega
      have hi:=ih (P.map fun p=>E.getD p zfo) E ⟨h1,rfl,by rw[hk,h3]⟩;rw[hi]
      have hm:E.getD p zfo∈E:=by
       rw[List.getD_eq_getElem?_getD,List.getElem?_eq_getElem hp];exact List.getElem_mem hp
      unfold zfp;dsimp only;rw[if_pos hm,z07 h1 hp]
 intro l E P h;exact key P l E h
theorem zhr:∀l:List zab,∀c,c∈(ze8 l).1↔c∈l:=by
 refine zgb ?_ ?_
 ·intro c;simp[ze8]
 ·intro l x ih c
  rw[zfq];unfold zfp;split
  ·rename_i hx
   have:=(ih x).1 hx;rw[ih c,List.mem_append,List.mem_singleton];constructor
   ·exact fun h=> .inl h
   ·rintro(h|rfl)
    ·exact h
    ·exact this
  ·dsimp only
   rw[List.mem_append,List.mem_append,ih c]
theorem zif:∀l:List zab,(ze8 l).1.length≤l.length:=by
 refine zgb ?_ ?_
 ·simp[ze8]
 ·intro l x ih
  rw[zfq];unfold zfp;split
  ·simp;omega
  ·simp;omega
theorem z08:∀l:List zab,(ze8 l).1.length=l.length↔l.Nodup:=by
 refine zgb ?_ ?_
 ·simp[ze8]
 ·intro l x ih
  have hle:=zif l;rw[zfq];unfold zfp;split
  ·rename_i hx
   have hx:=(zhr l x).1 hx;constructor
   ·intro h
    simp only[List.length_append,List.length_cons,List.length_nil] at h;omega
   ·intro h
    rw[List.nodup_append] at h;exact absurd rfl (h.2.2 x hx x (by simp))
  ·rename_i hx
   have hx: ¬x∈l:=fun h=>hx ((zhr l x).2 h)
   simp only[List.length_append,List.length_cons,List.length_nil,Nat.add_right_cancel_iff];rw[ih,List.nodup_append];constructor
   ·intro h
    refine⟨h,by simp,?_⟩;intro a ha b hb e;rw[List.mem_singleton.1 hb] at e;exact hx (e▸ha)
   ·exact fun h=>h.1
end Go.Hm
namespace Go.Hm
open Go Go.RowKit
theorem zaq{w:World}{g i:Nat}{x:Value}:w.grownBy (w.setCell ⟨g,i,none⟩ x) (some g):=
 ⟨rfl,rfl,rfl,by simp[World.setCell],fun k _ hne=>Below.heap_setCell _ _ _ _ (fun e=>hne (by rw[e]))⟩
variable{P:Program}
theorem zkh{ops:Array Oper}{rest:List Oper}{op:Oper}{a:Act}{w:World}{Q:Exit→Act→World→Prop}(hgd:op.guard=none)(ty:TypeId)(x y:Operand)(ho:op.op= .store ty x y)
 (g o:Nat){v0 v1 v2 v3 v4:Value}(hx:a.eval x= .pointer (some ⟨g,o,none⟩))(hy:a.eval y= .agg #[v0,v1,v2,v3,v4]){t:TypeId}{cs:Array Value}(hB:Blk w g t cs)(hsz:o+5≤cs.size)
 (hi:(P.info? ty).map (·.size)=some 5)(h1:(#[v0,v1,v2,v3,v4]:Array Value).all (·.oneCell')=true)
 (h:∀W,Blk W g t (((((cs.setIfInBounds o v0).setIfInBounds (o+1) v1).setIfInBounds (o+1+1) v2).setIfInBounds (o+1+1+1) v3).setIfInBounds (o+1+1+1+1) v4)→
  (∀B w0,Below B w0 w→B≤g→Below B w0 W)→(∀g' t' cs',g'≠g→Blk w g' t' cs'→Blk W g' t' cs')→wpList P ops Q rest (a.put op.dst undef) W):wpList P ops Q (op::rest) a w:=by
 have ht:w.there g o (#[v0,v1,v2,v3,v4]:Array Value).size:=by
  intro j hj;have hj:j<5:=hj;refine⟨?_,hB.frozen _⟩;rw[hB.cell,Array.getElem?_eq_getElem (by omega)];rfl
 refine wpList_store_mid hgd ty x y ho g o #[v0,v1,v2,v3,v4] hx hy ht hi h1 ?_;refine h _ (((((hB.set_ o v0).set_ (o+1) v1).set_ (o+1+1) v2).set_ (o+1+1+1) v3).set_ (o+1+1+1+1) v4) (fun B w0 hb hg=>?_) (fun g' t' cs' hne k=>?_)
 ·exact((((hb.setCell (p:=⟨g,o,none⟩) hg v0).setCell (p:=⟨g,o+1,none⟩) hg v1).setCell (p:=⟨g,o+1+1,none⟩) hg v2).setCell (p:=⟨g,o+1+1+1,none⟩) hg v3).setCell (p:=⟨g,o+1+1+1+1,none⟩) hg v4
 ·exact((((k.far (p:=⟨g,o,none⟩) hne v0).far (p:=⟨g,o+1,none⟩) hne v1).far (p:=⟨g,o+1+1,none⟩) hne v2).far (p:=⟨g,o+1+1+1,none⟩) hne v3).far (p:=⟨g,o+1+1+1+1,none⟩) hne v4
theorem zht{ops:Array Oper}{rest:List Oper}{o:Oper}{a:Act}{w:World}{Q:Exit→Act→World→Prop}(hgd:o.guard=none)(ty:TypeId)(x y:Operand)(ho:o.op= .store ty x y)
 (g:Nat)(cells:Array Value)(hx:a.eval x= .pointer (some ⟨g,0,none⟩))(hy:a.eval y= .agg cells){t:TypeId}{old:Array Value}(hB:Blk w g t old)(hi:(P.info? ty).map (·.size)=some cells.size)
 (hold:old.size=cells.size)(h1:cells.all (·.oneCell')=true)
 (h:∀W,Blk W g t cells→(∀B w0,Below B w0 w→B≤g→Below B w0 W)→(∀g' t' cs',g'≠g→Blk w g' t' cs'→Blk W g' t' cs')→wpList P ops Q rest (a.put o.dst undef) W):wpList P ops Q (o::rest) a w:=by
 refine wpList_store_row hgd ty x y ho g cells hx hy t old hB hi hold h1 ?_
 have hfar:∀k,k≠g→(w.setRow g cells).heap[k]? =w.heap[k]? :=fun k hne=>by
  simp[World.setRow,Array.getElem?_modify];intro e;exact absurd e.symm hne
 refine h _ ?_ (fun B w0 hb hg=>⟨hb.os,hb.tape,hb.output,by simpa[World.setRow] using hb.size,fun k hk=>?_⟩) (fun g' t' cs' hne k=>(hfar g' hne).trans k)
 ·unfold Blk at hB⊢
  simp[World.setRow,Array.getElem?_modify,hB]
 ·rw[hfar k (by omega)]
  exact hb.block k hk
theorem z4n{o:Oper}{a:Act}{w:World}{K:Act→World→Prop}{Q:Exit→Act→World→Prop}(ty:TypeId)(x y:Operand)(ho:o.op= .store ty x y)
 (g:Nat)(cells:Array Value)(hx:a.eval x= .pointer (some ⟨g,0,none⟩))(hy:a.eval y= .agg cells){t:TypeId}{old:Array Value}(hB:Blk w g t old)(hi:(P.info? ty).map (·.size)=some cells.size)
 (hold:old.size=cells.size)(h1:cells.all (·.oneCell')=true)
 (h:∀W,Blk W g t cells→(∀B w0,Below B w0 w→B≤g→Below B w0 W)→(∀g' t' cs',g'≠g→Blk w g' t' cs'→Blk W g' t' cs')→K (a.put o.dst undef) W):o.wp P a w K Q:=by
 refine wp_store_row ty x y ho g cells hx hy t old hB hi hold h1 ?_
 have hfar:∀k,k≠g→(w.setRow g cells).heap[k]? =w.heap[k]? :=fun k hne=>by
  simp[World.setRow,Array.getElem?_modify];intro e;exact absurd e.symm hne
 refine h _ ?_ (fun B w0 hb hg=>⟨hb.os,hb.tape,hb.output,by simpa[World.setRow] using hb.size,fun k hk=>?_⟩) (fun g' t' cs' hne k=>(hfar g' hne).trans k)
 ·unfold Blk at hB⊢
  simp[World.setRow,Array.getElem?_modify,hB]
 ·rw[hfar k (by omega)]
  exact hb.block k hk
theorem za6{w:World}{g:Nat}{ty:TypeId}{a0 a1 a2 a3 a4 a5 a6 a7 a8 a9 aa ab:Value}(h:Blk w g ty #[a0,a1,a2,a3,a4,a5,a6,a7,a8,a9,aa,ab]):
 w.cell? ⟨g,0,none⟩=some a0∧w.cell? ⟨g,1,none⟩=some a1∧w.cell? ⟨g,2,none⟩=some a2∧w.cell? ⟨g,3,none⟩=some a3∧w.cell? ⟨g,4,none⟩=some a4∧w.cell? ⟨g,5,none⟩=some a5
  ∧w.cell? ⟨g,6,none⟩=some a6∧w.cell? ⟨g,7,none⟩=some a7∧w.cell? ⟨g,8,none⟩=some a8∧w.cell? ⟨g,9,none⟩=some a9∧w.cell? ⟨g,10,none⟩=some aa∧w.cell? ⟨g,11,none⟩=some ab:=by
 have h0:=h.cell 0;have h1:=h.cell 1;have h2:=h.cell 2;have h3:=h.cell 3;have h4:=h.cell 4;have h5:=h.cell 5;have h6:=h.cell 6;have h7:=h.cell 7;have h8:=h.cell 8;have h9:=h.cell 9;have h10:=h.cell 10;have h11:=h.cell 11;simp at h0 h1 h2 h3 h4 h5 h6 h7 h8 h9 h10 h11;exact⟨h0,h1,h2,h3,h4,h5,h6,h7,h8,h9,h10,h11⟩
theorem zah{ops:Array Oper}{rest:List Oper}{o:Oper}{a:Act}{w:World}{Q:Exit→Act→World→Prop}(hgd:o.guard=none)(ty:TypeId)(x y:Operand)(ho:o.op= .store ty x y)
 (g:Nat)(cells:Array Value)(hx:a.eval x= .pointer (some ⟨g,0,none⟩))(hy:a.eval y= .agg cells){t:TypeId}{old:Array Value}(hB:Blk w g t old)(hi:(P.info? ty).map (·.size)=some cells.size)
 (hold:old.size=cells.size)(h1:cells.all (·.oneCell')=true)
 (h:∀W,Blk W g t cells→w.grownBy W (some g)→wpList P ops Q rest (a.put o.dst undef) W):wpList P ops Q (o::rest) a w:=by
 refine wpList_store_row hgd ty x y ho g cells hx hy t old hB hi hold h1 ?_;refine h _ ?_ ⟨rfl,rfl,rfl,by simp[World.setRow],fun k _ hne=>?_⟩
 ·unfold Blk at hB⊢
  simp[World.setRow,Array.getElem?_modify,hB]
 ·simp[World.setRow,Array.getElem?_modify]
  intro e;exact absurd (by rw[e]) hne
theorem zle{w w':World}{row:Option Nat}(h:w.grownBy w' row):Below 0 w w':=⟨h.os,h.tape,h.output,h.size,fun k hk=>by omega⟩
theorem ze2{w w3 W:World}{g:Nat}{row:Option Nat}(G:w.grownBy w3 (some g))(k:w3.grownBy W row)(hb:∀b,row=some b→w.heap.size≤b):w.grownBy W (some g):=
 ⟨k.os.trans G.os,k.tape.trans G.tape,k.output.trans G.output,Nat.le_trans G.size k.size,fun i hi hne=>(k.block i (Nat.lt_of_lt_of_le hi G.size) (fun e=>by have:=hb i e.symm;omega)).trans (G.block i hi hne)⟩
theorem za8{w w3 W:World}{g b:Nat}(G:w.grownBy w3 (some g))(k:w3.grownBy W (some b))(hb:w.heap.size≤b):w.grownBy W (some g):=
 ⟨k.os.trans G.os,k.tape.trans G.tape,k.output.trans G.output,Nat.le_trans G.size k.size,fun i hi hne=>(k.block i (Nat.lt_of_lt_of_le hi G.size) (fun e=>by injection e with e;omega)).trans (G.block i hi hne)⟩
theorem zjj{ops:Array Oper}{rest:List Oper}{op:Oper}{a:Act}{w:World}{Q:Exit→Act→World→Prop}(hgd:op.guard=none)(ty:TypeId)(x y:Operand)(ho:op.op= .store ty x y)
 (g o:Nat){v0 v1 v2 v3 v4:Value}(hx:a.eval x= .pointer (some ⟨g,o,none⟩))(hy:a.eval y= .agg #[v0,v1,v2,v3,v4]){t:TypeId}{cs:Array Value}(hB:Blk w g t cs)(hsz:o+5≤cs.size)
 (hi:(P.info? ty).map (·.size)=some 5)(h1:(#[v0,v1,v2,v3,v4]:Array Value).all (·.oneCell')=true)
 (h:∀W,Blk W g t (((((cs.setIfInBounds o v0).setIfInBounds (o+1) v1).setIfInBounds (o+1+1) v2).setIfInBounds (o+1+1+1) v3).setIfInBounds (o+1+1+1+1) v4)→
  w.grownBy W (some g)→wpList P ops Q rest (a.put op.dst undef) W):wpList P ops Q (op::rest) a w:=by
 have ht:w.there g o (#[v0,v1,v2,v3,v4]:Array Value).size:=by
  intro j hj;have hj:j<5:=hj;refine⟨?_,hB.frozen _⟩;rw[hB.cell,Array.getElem?_eq_getElem (by omega)];rfl
 refine wpList_store_mid hgd ty x y ho g o #[v0,v1,v2,v3,v4] hx hy ht hi h1 ?_
 exact h _ (((((hB.set_ o v0).set_ (o+1) v1).set_ (o+1+1) v2).set_ (o+1+1+1) v3).set_ (o+1+1+1+1) v4)
  (((((zaq (w:=w) (g:=g) (i:=o) (x:=v0)).trans zaq).trans zaq).trans zaq).trans zaq)
end Go.Hm
namespace Go.Hm
open Go Go.RowKit
abbrev nm(l:List za0)(i:Nat):List Nat:=(l.getD i ([],0,false)).1
def zlr(a:List za0)(s:List Nat):Prop:=s.length=0∨100<s.length∨s∈a.map (·.1)
instance(a:List za0)(s:List Nat):Decidable (zlr a s):=by unfold zlr;exact inferInstance
def zkt(a:List za0)(s:List Nat)(t:Int):Int:=if zlr a s then 1 else if 0≤t∧t≤3 then 0 else 3
def zgj(a:List za0):List za0→Int
 | []=>0
 |c::l=>if zkt a c.1 c.2.1=0 then zgj (a++[c]) l else zkt a c.1 c.2.1
def zch(l:List za0):Int:=if 64<l.length then 4 else zgj [] l
theorem zxf{l:List za0}(h:64<l.length):zch l=4:=by rw[zch,if_pos h]
theorem z19{l:List za0}(h: ¬64<l.length):zch l=zgj (l.take 0) (l.drop 0):=by rw[zch,if_neg h];rfl
theorem zxg(l:List za0)(k:Nat)(h:k<l.length):zgj (l.take k) (l.drop k)=if zkt (l.take k) (nm l k) (l.getD k ([],0,false)).2.1=0 then zgj (l.take (k+1)) (l.drop (k+1)) else zkt (l.take k) (nm l k) (l.getD k ([],0,false)).2.1:=by
 rw[zd0 l k ([],0,false) h,zgj,zad l k ([],0,false) h]
theorem z2a(l:List za0):zgj (l.take l.length) (l.drop l.length)=0:=by rw[List.drop_length];rfl
theorem zu2{l:List za0}{s:List Nat}{k:Nat}(hk:k<l.length):s∈(l.take (k+1)).map (·.1)↔s∈(l.take k).map (·.1)∨nm l k=s:=by
 rw[zad l k ([],0,false) hk,List.map_append,List.mem_append];simp[eq_comm,nm]
end Go.Hm
namespace Go.Proofs.YtmgfkpnghlmheaaGreat
open Go.RowKit Go.Hm
theorem qi6(a b:List Nat)(ha:∀x∈a,x<256)(hb:∀x∈b,x<256):((zae a).toList==(zae b).toList)=decide (a=b):=zhg ha hb
set_option maxRecDepth 100000 in
theorem zu3{w:World}{A:Option Addr}{n c:Nat}{L:List za0}{s:List Nat}{t:Int}{nu:Bool}(h:Reads w w.heap.size 3 A n (recs zh4 L))(hL:∀x∈L,∀z∈x.1,z<256)(hs:∀z∈s,z<256)(hsl:s.length≤140737488351232)(hn:n≤4611686018427387903):
 Calls Tryz.prog 90 #[.slice A n c,.agg #[.string (zae s),.int .i64 t,.bool nu]] w (zap (.int .i64 (zkt L s t)) w):=by
 obtain rfl:=h.lenC;have z1:=zbf s;have K1:=Hz (fun(hh:zlr L s)=>show zkt L s t=1 by rw[zkt,if_pos hh]);have K2:=Hz (fun(hh: ¬zlr L s)=>show zkt L s t=if 0≤t∧t≤3 then 0 else 3 by rw[zkt,if_neg hh]);generalize zkt L s t=O at*;obtain⟨W0,hW0⟩:∃W,W=w.alloc (.cells #[.string (zae s),.int .i64 t,.bool nu] 70):=⟨_,rfl⟩
 have b0:New w W0:=by rw[hW0];exact(Below.refl _ _).alloc (Nat.le_refl _) _
 have B0:Blk W0 w.heap.size 70 #[.string (zae s),.int .i64 t,.bool nu]:=by rw[hW0];exact Blk.new _ _ _
 obtain⟨x0,x1,x2⟩:=zaf B0;rw[hW0] at x0 x1 x2;by_cases h0:s.length=0
 ·have O1:=Hz (K1.out (.inl h0))
  have e1:((s.length:Int)==0)=true:=by simp[h0]
  clear h0 K1 K2 B0 h
  go_enter Tryz.func90,Tryz.ntmps90
  go_wp2
  go_ret
  exact⟨by rw[O1.out];rfl,by rw[←hW0];exact b0⟩
 ·have e1:((s.length:Int)==0)=false:=beq_eq_false_iff_ne.2 (by omega)
  by_cases h1:100<s.length
  ·have O1:=Hz (K1.out (.inr (.inl h1)))
   have e2:decide (100<(s.length:Int))=true:=by simp;omega
   clear h0 K1 K2 B0 h
   go_enter Tryz.func90,Tryz.ntmps90
   go_wp2
   go_ret
   exact⟨by rw[O1.out];rfl,by rw[←hW0];exact b0⟩
  ·have e2:decide (100<(s.length:Int))=false:=by simp;omega
   have K1:=Hz (fun(hh:s∈L.map (·.1))=>K1.out (.inr (.inr hh)));have K2:=Hz (fun(hh:s∉L.map (·.1))=>K2.out (fun h'=>by rcases h' with h'|h'|h';exact h0 h';exact h1 h';exact hh h'));have r0:=Reads.later h b0;clear h0 h1 h
   go_enter Tryz.func90,Tryz.ntmps90
   go_wp2
   rw[←hW0];clear x0 x1 x2 hW0
   go_loopw [19] (fun i wr=>∃k:Nat,i= .int .i64 (k:Int)∧k≤L.length∧New W0 wr∧Hid (s∉(L.take k).map (·.1))) (fun i _=>L.length-(intOf i).toNat)
   case atStart=>exact⟨0,rfl,by omega,New.refl _,Hz (by simp)⟩
   case round=>
    obtain⟨k,rfl,hk,hb,H⟩:=hrel;have B1:=B0.below hb B0.lt;obtain⟨x0,x1,x2⟩:=zaf B1;by_cases hlt:k<L.length
    ·obtain⟨ad,rfl,hbk,c0,c1,c2⟩:=(Reads.later r0 hb).colT hlt
     have M:=Hz (zu2 (s:=s) hlt);have hq:=qi6 (nm L k) s (by rw[nm,List.getD_eq_getElem?_getD,List.getElem?_eq_getElem hlt];exact hL _ (List.getElem_mem hlt)) hs
     have MM:=Hz (show nm L k=s→s∈L.map (·.1) from fun e=>by
      have:=(zu2 (s:=s) hlt).2 (.inr e)
      exact List.mem_of_mem_take (by rwa[List.map_take] at this))
     unfold nm at*;generalize(L.getD k ([],0,false)).1=s2 at*;generalize(L.getD k ([],0,false)).2.1=t2 at*;generalize(L.getD k ([],0,false)).2.2=n2 at*;have X:=Hz (zaf (B1.alloc (.cells #[.string (zae s2),.int .i64 t2,.bool n2] 70)));have Y:=Hz (zaf (Blk.new wr 70 #[.string (zae s2),.int .i64 t2,.bool n2]))
     have hiz:(k:Int)<(L.length:Int):=by omega
     have b1:New W0 (wr.alloc (.cells #[.string (zae s2),.int .i64 t2,.bool n2] 70)):=Below.alloc hb hb.size _;obtain⟨q0,q1,q2⟩:=X.out;obtain⟨p0,p1,p2⟩:=Y.out;by_cases he:s2=s
     ·rw[decide_eq_true he] at hq
      have O1:=Hz (K1.out (MM.out he));clear he x0 x1 x2
      go_wp2
      go_ret
      exact⟨by rw[O1.out];rfl,New.trans b0 b1⟩
     ·rw[decide_eq_false he] at hq
      have H2:=Hz (show s∉(L.take (k+1)).map (·.1) from fun hh=>by
       rcases M.out.1 hh with hh|hh
       ·exact H.out hh
       ·exact he hh)
      clear he x0 x1 x2
      go_wp2
      go_roundw
      case rel=>exact⟨k+1,by go_num,by omega,b1,H2⟩
      case measure=>simp[intOf];omega
    ·obtain rfl:k=L.length:=by omega
     have H2:=H.out;rw[List.take_length] at H2;have O1:=Hz (K2.out H2);clear H H2 K1 K2
     go_wp2
     all_goals go_ret
     all_goals
      simp only[beq_iff_eq,beq_eq_false_iff_ne,ne_eq] at*;refine⟨?_,New.trans b0 hb⟩;rw[O1.out]
      first
       |(rw[if_pos (by omega)];rfl)
       |(rw[if_neg (by omega)];rfl)
set_option maxRecDepth 100000 in
theorem znd{w:World}{A:Option Addr}{n c:Nat}{L:List za0}(h:Reads w w.heap.size 3 A n (recs zh4 L))(hL:∀x∈L,(∀z∈x.1,z<256)∧x.1.length≤140737488351232)(hc:n≤c)(hn:n≤4611686018427387903):
 Calls Tryz.prog 50 #[.slice A n c] w (zap (.int .i64 (zch L)) w):=by
 obtain rfl:=h.lenC;by_cases hm:64<L.length
 ·rw[zxf hm]
  go_enter Tryz.func50,Tryz.ntmps50
  go_wp2
  go_ret
  exact⟨rfl,New.refl _⟩
 ·have HO:=Hz (z19 hm)
  generalize zch L=O at*
  go_enter Tryz.func50,Tryz.ntmps50
  go_wp2
  go_loopw [11] (fun i wr=>∃k:Nat,i= .int .i64 (k:Int)∧k≤L.length∧New w wr∧Hid (O=zgj (L.take k) (L.drop k))) (fun i _=>L.length-(intOf i).toNat)
  case atStart=>exact⟨0,rfl,by omega,New.refl _,HO⟩
  case round=>
   obtain⟨k,rfl,hk,hb,H⟩:=hrel;by_cases hlt:k<L.length
   ·have r1:=Reads.later h hb
    obtain⟨ad,rfl,hbk,c0,c1,c2⟩:=r1.colT hlt
    have hx:(L.getD k ([],0,false))∈L:=by rw[List.getD_eq_getElem?_getD,List.getElem?_eq_getElem hlt];exact List.getElem_mem hlt
    obtain⟨y1,y2⟩:=hL _ hx;have r2:=r1.take (k:=k) (by omega);rw[zt4 (f:=zh4) (sz:=3) (fun _=>rfl) L k (by omega)] at r2;have S:=H.out;rw[zxg L k hlt] at S
    have P:=fun(W:World) (hW:New wr W)=>zu3 (c:=c) (t:=(L.getD k ([],0,false)).2.1) (nu:=(L.getD k ([],0,false)).2.2) (Reads.later r2 hW) (fun x hx=>(hL x (List.mem_of_mem_take hx)).1) y1 y2 (by omega)
    have P:=Hz P;generalize hck:zkt (L.take k) (L.getD k ([],0,false)).1 (L.getD k ([],0,false)).2.1=ck at*;have HS:=Hz S;generalize(L.getD k ([],0,false)).1=s2 at*;generalize(L.getD k ([],0,false)).2.1=t2 at*;generalize(L.getD k ([],0,false)).2.2=n2 at*;clear S hck H hx y1 y2 r1 r2
    have hiz:(k:Int)<(L.length:Int):=by omega
    have hiz2:(k:Int)≤(c:Int):=by omega
    obtain⟨W1,hW1⟩:∃W,W=wr.alloc (.cells #[.string (zae s2),.int .i64 t2,.bool n2] 70):=⟨_,rfl⟩
    have b1:New wr W1:=by rw[hW1];exact(Below.refl _ _).alloc (Nat.le_refl _) _
    have Y:Blk W1 wr.heap.size 70 #[.string (zae s2),.int .i64 t2,.bool n2]:=by rw[hW1];exact Blk.new _ _ _
    go_wp2_with fail
    rw[←hW1];clear hW1
    refine zat New [(true,0),(true,1),(true,2),(true,3),(false,4),(true,5)]
     New.refl New.trans (by kernel_rfl) (by kernel_rfl) (by kernel_rfl) (by kernel_rfl) ?_
    have hU:=New.trans b1 (New.drew W1);have hV:=New.refl W1.drew
    repeat(first
     |(refine zba rfl rfl (fun K hK=>?_);go_simp
       (with_reducible refine(P.out _ hU).mono ?_)
       rintro e w9 ⟨rfl,b9⟩;refine hK _ _ b9 ?_;clear hK;replace hU:=New.trans hU b9
       replace hV:=New.trans hV b9)
     |(refine za2 rfl rfl (v:=?_) (fun W hW=>?_) ?_;rotate_left;(obtain⟨x0,x1,x2⟩:=zaf (Y.below (New.trans (New.drew W1) (New.trans hV hW)) Y.lt);go_simp<;> with_reducible rfl);simp only[Act.put,List.setIfInBounds_toArray,List.set_cons_zero,List.set_cons_succ]))
    refine zc2 ?_;clear Y b1 P;by_cases hz:ck=0
    ·have HS2:=Hz (show O=zgj (L.take (k+1)) (L.drop (k+1)) by rw[HS.out,if_pos hz])
     subst hz
     go_wp2
     go_roundw
     case rel=>exact⟨k+1,by go_num,by omega,New.trans hb hU,HS2⟩
     case measure=>simp[intOf];omega
    ·have HS2:=Hz (show O=ck by rw[HS.out,if_neg hz])
     have e1:(ck != 0)=true:=by simpa using hz
     clear hz
     go_wp2
     go_ret
     exact⟨by rw[HS2.out];rfl,New.trans hb hU⟩
   ·obtain rfl:k=L.length:=by omega
    have HS2:=Hz (show O=0 by rw[H.out,z2a])
    go_wp2
    go_ret
    exact⟨by rw[HS2.out];rfl,hb⟩
end Go.Proofs.YtmgfkpnghlmheaaGreat
namespace Go.Hm
open Go Go.RowKit
def zoo(l:List za0):Prop:=l.length≤64∧(∀x∈l,0<x.1.length∧x.1.length≤100∧0≤x.2.1∧x.2.1≤3)∧(l.map (·.1)).Nodup
theorem zq3:∀(l a:List za0),zgj a l=0↔(∀x∈l,0<x.1.length∧x.1.length≤100∧0≤x.2.1∧x.2.1≤3)∧(l.map (·.1)).Nodup∧∀x∈l,x.1∉a.map (·.1)
 | [],a=>by simp[zgj]
 |c::l,a=>by
  have key:zkt a c.1 c.2.1=0↔(0<c.1.length∧c.1.length≤100∧0≤c.2.1∧c.2.1≤3)∧c.1∉a.map (·.1):=by
   unfold zkt;by_cases h:zlr a c.1
   ·rw[if_pos h]
    refine⟨fun hh=>by omega,fun hh=>?_⟩;rcases h with h|h|h
    ·omega
    ·omega
    ·exact absurd h hh.2
   ·rw[if_neg h]
    by_cases h2:0≤c.2.1∧c.2.1≤3
    ·rw[if_pos h2]
     refine⟨fun _=>⟨⟨?_,?_,h2.1,h2.2⟩,fun hh=>h (.inr (.inr hh))⟩,fun _=>rfl⟩
     ·have: ¬c.1.length=0:=fun hh=>h (.inl hh)
      omega
     ·have: ¬100<c.1.length:=fun hh=>h (.inr (.inl hh))
      omega
    ·rw[if_neg h2]
     exact⟨fun hh=>by omega,fun hh=>by omega⟩
  have ih:=zq3 l (a++[c])
  have e:zgj a (c::l)=0↔zkt a c.1 c.2.1=0∧zgj (a++[c]) l=0:=by
   rw[zgj];split
   ·rename_i h;exact⟨fun hh=>⟨h,hh⟩,fun hh=>hh.2⟩
   ·rename_i h;exact⟨fun hh=>absurd hh h,fun hh=>absurd hh.1 h⟩
  rw[e,key,ih];simp only[List.forall_mem_cons,List.map_cons,List.nodup_cons,List.map_append,List.map_nil,List.mem_append,List.mem_singleton];constructor
  ·rintro⟨⟨h1,h2⟩,h3,h4,h5⟩
   refine⟨⟨h1,h3⟩,⟨fun hh=>?_,h4⟩,h2,fun x hx hh=>h5 x hx (.inl hh)⟩;obtain⟨x,hx,hxe⟩:=List.mem_map.1 hh;exact h5 x hx (.inr hxe)
  ·rintro⟨⟨h1,h3⟩,⟨h4,h5⟩,h2,h6⟩
   refine⟨⟨h1,h2⟩,h3,h5,fun x hx hh=>?_⟩;rcases hh with hh|hh
   ·exact h6 x hx hh
   ·exact h4 (List.mem_map.2 ⟨x,hx,hh⟩)
theorem zdg(l:List za0):zch l=0↔zoo l:=by
 unfold zch zoo;split
 ·exact⟨fun hh=>by omega,fun hh=>by omega⟩
 ·rename_i h
  rw[zq3];simp only[List.map_nil,List.not_mem_nil,not_false_eq_true,implies_true,and_true];exact⟨fun hh=>⟨by omega,hh⟩,fun hh=>hh.2⟩
end Go.Hm
namespace Go.Proofs.YtmgfkpnghlmheaaGreat
open Go.RowKit Go.Hm
theorem zv4{w:World}{A A2:Option Addr}{n c n2 c2:Nat}{l:List za0}(h:Reads w w.heap.size 3 A n (recs zh4 l))(h2:Reads w w.heap.size 3 A2 n2 (recs zh4 l))(hn:n≤4611686018427387903):
 Calls Tryz.prog 22 #[.slice A n c,.slice A2 n2 c2] w (zap (.bool true) w):=by
 obtain rfl:=h.lenC;obtain rfl:=h2.lenC
 go_enter Tryz.func22,Tryz.ntmps22
 go_wp2
 go_loopw [5] (fun z wr=>∃(k q:Nat),z= .int .i64 (k:Int)∧k≤l.length∧wr=w.drewN q) (fun z _=>l.length-(intOf z).toNat)
 case atStart=>exact⟨0,0,rfl,by omega,rfl⟩
 case round=>
  obtain⟨k,q,rfl,hk,rfl⟩:=hrel;by_cases hlt:k<l.length
  ·obtain⟨ad,rfl,hb,h3,h4,h5⟩:=(h.drewN q).colT hlt
   obtain⟨ad2,rfl,hb2,h6,h7,h8⟩:=(h2.drewN q).colT hlt;generalize(l.getD k ([],0,false)).1=y1 at*;generalize(l.getD k ([],0,false)).2.1=y2 at*;generalize(l.getD k ([],0,false)).2.2=y3 at*
   have hiz:(k:Int)<(l.length:Int):=by omega
   have hbb:(ad.add (k*3)).block<(w.drewN q).drew.heap.size:=by rw[za1];exact hb
   have hbb2:(ad2.add (k*3)).block<(w.drewN q).drew.heap.size:=by rw[za1];exact hb2
   have C1:=Hz (zga h3 hbb);have C2:=Hz (zga h4 hbb);have C3:=Hz (zga h5 hbb);have C4:=Hz (zga h6 hbb2);have C5:=Hz (zga h7 hbb2);have C6:=Hz (zga h8 hbb2)
   go_wp2_with fail
   refine zat New [(true,0),(true,1),(true,2),(true,3),(true,4),(true,5),(true,6),(true,7),(true,8)]
    New.refl New.trans (by kernel_rfl) (by kernel_rfl) (by kernel_rfl) (by kernel_rfl) ?_
   repeat(first
    |(refine za2 rfl rfl (v:=?_) (fun W hW=>?_) ?_;rotate_left;(have g1:=C1.out W hW;have g2:=C2.out W hW;have g3:=C3.out W hW;have g4:=C4.out W hW;have g5:=C5.out W hW;have g6:=C6.out W hW;go_simp<;> with_reducible rfl);simp only[Act.put,List.setIfInBounds_toArray,List.set_cons_zero,List.set_cons_succ]))
   refine zc2 ?_
   go_wp2
   go_roundw
   case rel=>exact⟨k+1,q+1,by go_num,by omega,rfl⟩
   case measure=>simp[intOf];omega
  ·go_wp2
   go_ret
   exact⟨rfl,zib _ _⟩
end Go.Proofs.YtmgfkpnghlmheaaGreat
