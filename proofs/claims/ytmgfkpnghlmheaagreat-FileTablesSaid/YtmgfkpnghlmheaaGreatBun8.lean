/- Merged. -/
import Derived.Deep.LoopGhost
import Derived.Test.YtmgfkpnghlmheaaGreatBun7
set_option maxHeartbeats 1000000
namespace Go.Hm
open Go Go.RowKit
theorem zaq{w:World}{g i:Nat}{x:Value}:w.grownBy (w.setCell ⟨g,i,none⟩ x) (some g):=
 ⟨rfl,rfl,rfl,by simp[World.setCell],fun k _ hne=>Below.heap_setCell _ _ _ _ (fun e=>hne (by rw[e]))⟩
variable{P:Program}
theorem zkp{ops:Array Oper}{rest:List Oper}{op:Oper}{a:Act}{w:World}{Q:Exit->Act->World->Prop}(hgd:op.guard=none)(ty:TypeId)(x y:Operand)(ho:op.op= .store ty x y)
 (g o:Nat){v0 v1 v2 v3 v4:Value}(hx:a.eval x= .pointer (some ⟨g,o,none⟩))(hy:a.eval y= .agg #[v0,v1,v2,v3,v4]){t:TypeId}{cs:Array Value}(hB:Blk w g t cs)(hsz:o+5<=cs.size)
 (hi:(P.info? ty).map (·.size)=some 5)(h1:(#[v0,v1,v2,v3,v4]:Array Value).all (·.oneCell')=true)
 (h:∀W,Blk W g t (((((cs.setIfInBounds o v0).setIfInBounds (o+1) v1).setIfInBounds (o+1+1) v2).setIfInBounds (o+1+1+1) v3).setIfInBounds (o+1+1+1+1) v4)->
  (∀B w0,Below B w0 w->B<=g->Below B w0 W)->(∀g' t' cs',g'≠g->Blk w g' t' cs'->Blk W g' t' cs')->wpList P ops Q rest (a.put op.dst undef) W):wpList P ops Q (op::rest) a w:=by
 have ht:w.there g o (#[v0,v1,v2,v3,v4]:Array Value).size:=by intro j hj;have hj:j<5:=hj;refine⟨?_,hB.frozen _⟩;rw[hB.cell,Array.getElem?_eq_getElem (by omega)];rfl
 refine wpList_store_mid hgd ty x y ho g o #[v0,v1,v2,v3,v4] hx hy ht hi h1 ?_;refine h _ (((((hB.set_ o v0).set_ (o+1) v1).set_ (o+1+1) v2).set_ (o+1+1+1) v3).set_ (o+1+1+1+1) v4) (fun B w0 hb hg=>?_) (fun g' t' cs' hne k=>?_)
 ·exact((((hb.setCell (p:=⟨g,o,none⟩) hg v0).setCell (p:=⟨g,o+1,none⟩) hg v1).setCell (p:=⟨g,o+1+1,none⟩) hg v2).setCell (p:=⟨g,o+1+1+1,none⟩) hg v3).setCell (p:=⟨g,o+1+1+1+1,none⟩) hg v4
 ·exact((((k.far (p:=⟨g,o,none⟩) hne v0).far (p:=⟨g,o+1,none⟩) hne v1).far (p:=⟨g,o+1+1,none⟩) hne v2).far (p:=⟨g,o+1+1+1,none⟩) hne v3).far (p:=⟨g,o+1+1+1+1,none⟩) hne v4
theorem zht{ops:Array Oper}{rest:List Oper}{o:Oper}{a:Act}{w:World}{Q:Exit->Act->World->Prop}(hgd:o.guard=none)(ty:TypeId)(x y:Operand)(ho:o.op= .store ty x y)
 (g:Nat)(cells:Array Value)(hx:a.eval x= .pointer (some ⟨g,0,none⟩))(hy:a.eval y= .agg cells){t:TypeId}{old:Array Value}(hB:Blk w g t old)(hi:(P.info? ty).map (·.size)=some cells.size)
 (hold:old.size=cells.size)(h1:cells.all (·.oneCell')=true)
 (h:∀W,Blk W g t cells->(∀B w0,Below B w0 w->B<=g->Below B w0 W)->(∀g' t' cs',g'≠g->Blk w g' t' cs'->Blk W g' t' cs')->wpList P ops Q rest (a.put o.dst undef) W):wpList P ops Q (o::rest) a w:=by
 refine wpList_store_row hgd ty x y ho g cells hx hy t old hB hi hold h1 ?_;have hfar:∀k,k≠g->(w.setRow g cells).heap[k]? =w.heap[k]? :=fun k hne=>by simp[World.setRow,Array.getElem?_modify];intro e;exact absurd e.symm hne
 refine h _ ?_ (fun B w0 hb hg=>⟨hb.os,hb.tape,hb.output,by simpa[World.setRow] using hb.size,fun k hk=>?_⟩) (fun g' t' cs' hne k=>(hfar g' hne).trans k)
 ·unfold Blk at hB⊢
  simp[World.setRow,Array.getElem?_modify,hB]
 ·rw[hfar k (by omega)]
  exact hb.block k hk
theorem z4s{o:Oper}{a:Act}{w:World}{K:Act->World->Prop}{Q:Exit->Act->World->Prop}(ty:TypeId)(x y:Operand)(ho:o.op= .store ty x y)
 (g:Nat)(cells:Array Value)(hx:a.eval x= .pointer (some ⟨g,0,none⟩))(hy:a.eval y= .agg cells){t:TypeId}{old:Array Value}(hB:Blk w g t old)(hi:(P.info? ty).map (·.size)=some cells.size)
 (hold:old.size=cells.size)(h1:cells.all (·.oneCell')=true)
 (h:∀W,Blk W g t cells->(∀B w0,Below B w0 w->B<=g->Below B w0 W)->(∀g' t' cs',g'≠g->Blk w g' t' cs'->Blk W g' t' cs')->K (a.put o.dst undef) W):o.wp P a w K Q:=by
 refine wp_store_row ty x y ho g cells hx hy t old hB hi hold h1 ?_;have hfar:∀k,k≠g->(w.setRow g cells).heap[k]? =w.heap[k]? :=fun k hne=>by simp[World.setRow,Array.getElem?_modify];intro e;exact absurd e.symm hne
 refine h _ ?_ (fun B w0 hb hg=>⟨hb.os,hb.tape,hb.output,by simpa[World.setRow] using hb.size,fun k hk=>?_⟩) (fun g' t' cs' hne k=>(hfar g' hne).trans k)
 ·unfold Blk at hB⊢
  simp[World.setRow,Array.getElem?_modify,hB]
 ·rw[hfar k (by omega)]
  exact hb.block k hk
theorem za7{w:World}{g:Nat}{ty:TypeId}{a0 a1 a2 a3 a4 a5 a6 a7 a8 a9 aa ab:Value}(h:Blk w g ty #[a0,a1,a2,a3,a4,a5,a6,a7,a8,a9,aa,ab]):
 w.cell? ⟨g,0,none⟩=some a0/\w.cell? ⟨g,1,none⟩=some a1/\w.cell? ⟨g,2,none⟩=some a2/\w.cell? ⟨g,3,none⟩=some a3/\w.cell? ⟨g,4,none⟩=some a4/\w.cell? ⟨g,5,none⟩=some a5
  /\w.cell? ⟨g,6,none⟩=some a6/\w.cell? ⟨g,7,none⟩=some a7/\w.cell? ⟨g,8,none⟩=some a8/\w.cell? ⟨g,9,none⟩=some a9/\w.cell? ⟨g,10,none⟩=some aa/\w.cell? ⟨g,11,none⟩=some ab:=by
 have h0:=h.cell 0;have h1:=h.cell 1;have h2:=h.cell 2;have h3:=h.cell 3;have h4:=h.cell 4;have h5:=h.cell 5;have h6:=h.cell 6;have h7:=h.cell 7;have h8:=h.cell 8;have h9:=h.cell 9;have h10:=h.cell 10;have h11:=h.cell 11;simp at h0 h1 h2 h3 h4 h5 h6 h7 h8 h9 h10 h11;exact⟨h0,h1,h2,h3,h4,h5,h6,h7,h8,h9,h10,h11⟩
theorem zah{ops:Array Oper}{rest:List Oper}{o:Oper}{a:Act}{w:World}{Q:Exit->Act->World->Prop}(hgd:o.guard=none)(ty:TypeId)(x y:Operand)(ho:o.op= .store ty x y)
 (g:Nat)(cells:Array Value)(hx:a.eval x= .pointer (some ⟨g,0,none⟩))(hy:a.eval y= .agg cells){t:TypeId}{old:Array Value}(hB:Blk w g t old)(hi:(P.info? ty).map (·.size)=some cells.size)
 (hold:old.size=cells.size)(h1:cells.all (·.oneCell')=true)
 (h:∀W,Blk W g t cells->w.grownBy W (some g)->wpList P ops Q rest (a.put o.dst undef) W):wpList P ops Q (o::rest) a w:=by
 refine wpList_store_row hgd ty x y ho g cells hx hy t old hB hi hold h1 ?_;refine h _ ?_ ⟨rfl,rfl,rfl,by simp[World.setRow],fun k _ hne=>?_⟩
 ·unfold Blk at hB⊢
  simp[World.setRow,Array.getElem?_modify,hB]
 ·simp[World.setRow,Array.getElem?_modify]
  intro e;exact absurd (by rw[e]) hne
theorem zlp{w w':World}{row:Option Nat}(h:w.grownBy w' row):Below 0 w w':=⟨h.os,h.tape,h.output,h.size,fun k hk=>by omega⟩
theorem ze1{w w3 W:World}{g:Nat}{row:Option Nat}(G:w.grownBy w3 (some g))(k:w3.grownBy W row)(hb:∀b,row=some b->w.heap.size<=b):w.grownBy W (some g):=
 ⟨k.os.trans G.os,k.tape.trans G.tape,k.output.trans G.output,Nat.le_trans G.size k.size,fun i hi hne=>(k.block i (Nat.lt_of_lt_of_le hi G.size) (fun e=>by have:=hb i e.symm;omega)).trans (G.block i hi hne)⟩
theorem za9{w w3 W:World}{g b:Nat}(G:w.grownBy w3 (some g))(k:w3.grownBy W (some b))(hb:w.heap.size<=b):w.grownBy W (some g):=
 ⟨k.os.trans G.os,k.tape.trans G.tape,k.output.trans G.output,Nat.le_trans G.size k.size,fun i hi hne=>(k.block i (Nat.lt_of_lt_of_le hi G.size) (fun e=>by injection e with e;omega)).trans (G.block i hi hne)⟩
theorem zjr{ops:Array Oper}{rest:List Oper}{op:Oper}{a:Act}{w:World}{Q:Exit->Act->World->Prop}(hgd:op.guard=none)(ty:TypeId)(x y:Operand)(ho:op.op= .store ty x y)
 (g o:Nat){v0 v1 v2 v3 v4:Value}(hx:a.eval x= .pointer (some ⟨g,o,none⟩))(hy:a.eval y= .agg #[v0,v1,v2,v3,v4]){t:TypeId}{cs:Array Value}(hB:Blk w g t cs)(hsz:o+5<=cs.size)
 (hi:(P.info? ty).map (·.size)=some 5)(h1:(#[v0,v1,v2,v3,v4]:Array Value).all (·.oneCell')=true)
 (h:∀W,Blk W g t (((((cs.setIfInBounds o v0).setIfInBounds (o+1) v1).setIfInBounds (o+1+1) v2).setIfInBounds (o+1+1+1) v3).setIfInBounds (o+1+1+1+1) v4)->
  w.grownBy W (some g)->wpList P ops Q rest (a.put op.dst undef) W):wpList P ops Q (op::rest) a w:=by
 have ht:w.there g o (#[v0,v1,v2,v3,v4]:Array Value).size:=by intro j hj;have hj:j<5:=hj;refine⟨?_,hB.frozen _⟩;rw[hB.cell,Array.getElem?_eq_getElem (by omega)];rfl
 refine wpList_store_mid hgd ty x y ho g o #[v0,v1,v2,v3,v4] hx hy ht hi h1 ?_;exact h _ (((((hB.set_ o v0).set_ (o+1) v1).set_ (o+1+1) v2).set_ (o+1+1+1) v3).set_ (o+1+1+1+1) v4)
  (((((zaq (w:=w) (g:=g) (i:=o) (x:=v0)).trans zaq).trans zaq).trans zaq).trans zaq)
def shr:List Nat->List Nat->Nat
 |a::l,b::m=>if a=b then shr l m+1 else 0
 |_,_=>0
theorem zhx:∀a b:List Nat,shr a b<=a.length
 | [],_=>by simp[shr]
 |_::_,[]=>by simp[shr]
 |a::l,b::m=>by
  simp only[shr];split
  ·have:=zhx l m;simp;exact this
  ·simp
theorem zgh:∀a b:List Nat,shr a b<=b.length
 | [],_=>by simp[shr]
 |_::_,[]=>by simp[shr]
 |a::l,b::m=>by
  simp only[shr];split
  ·have:=zgh l m;simp;exact this
  ·simp
theorem zsq:∀a b:List Nat,a.take (shr a b)=b.take (shr a b)
 | [],_=>by simp[shr]
 |_::_,[]=>by simp[shr]
 |a::l,b::m=>by
  simp only[shr];split
  ·rename_i e;subst e;simp[zsq l m]
  ·simp
theorem qdu:∀(a b:List Nat) (n:Nat),n<=a.length->n<=b.length->a.take n=b.take n->(n=a.length\/n=b.length\/ ¬a.getD n 0=b.getD n 0)->shr a b=n
 | [],_,n,h1,_,_,_=>by simp at h1;simp[shr,h1]
 |_::_,[],n,_,h2,_,_=>by simp at h2;simp[shr,h2]
 |a::l,b::m,0,_,_,_,h=>by
  simp only[shr];rcases h with h|h|h
  ·simp at h
  ·simp at h
  ·simp at h;rw[if_neg h]
 |a::l,b::m,n+1,h1,h2,h3,h=>by
  simp only[List.take_succ_cons,List.cons.injEq] at h3;simp only[shr];rw[if_pos h3.1,qdu l m n (by simpa using h1) (by simpa using h2) h3.2 (by simpa using h)]
def fsum(l:List (List Nat)):Nat:=(l.map List.length).sum
theorem zfx(s:List Nat)(l:List (List Nat)):fsum (s::l)=s.length+fsum l:=by simp[fsum]
theorem zer(l m:List (List Nat)):fsum (l++m)=fsum l+fsum m:=by simp[fsum]
theorem zuj(l:List (List Nat))(k:Nat):fsum (l.take k)<=fsum l:=by
 conv=>rhs;rw[<-List.take_append_drop k l,zer]
 omega
def z5n(l:List (List Nat)):Bool:=decide (l.length<=65536/\(∀s∈l,s.length<=65536)/\fsum l<=16777216)
theorem zej(l:List (List Nat)):z5n l=true↔l.length<=65536/\(∀s∈l,s.length<=65536)/\fsum l<=16777216:=by simp[z5n]
theorem qa7{l:List (List Nat)}(h:65536<l.length):z5n l=false:=by rw[Bool.eq_false_iff,Ne,zej];omega
theorem qa8{l:List (List Nat)}{k:Nat}(hk:k<l.length)(h:65536<(l.getD k []).length):z5n l=false:=by rw[Bool.eq_false_iff,Ne,zej];rintro⟨_,h2,_⟩;have:=h2 (l.getD k []) (by rw[List.getD_eq_getElem?_getD,List.getElem?_eq_getElem hk];exact List.getElem_mem hk);omega
theorem qa9{l:List (List Nat)}{k:Nat}(h:16777216<fsum (l.take k)):z5n l=false:=by rw[Bool.eq_false_iff,Ne,zej];rintro⟨_,_,h3⟩;have:=zuj l k;omega
theorem qba{l:List (List Nat)}(h1:l.length<=65536)(h2:∀s∈l,s.length<=65536)(h3:fsum l<=16777216):z5n l=true:=(zej l).2 ⟨h1,h2,h3⟩
theorem zuk(l:List (List Nat))(s:List Nat):fsum (l++[s])=fsum l+s.length:=by simp[fsum]
def fpiece(a s:List Nat):List Nat:=vp (shr a s)++vp (s.length-shr a s)++s.drop (shr a s)
def zkx:List Nat->List (List Nat)->List Nat
 |_,[]=>[]
 |a,s::l=>fpiece a s++zkx s l
def zqe(a:List Nat)(l:List (List Nat)):List Nat:=l.getLast?.getD a
theorem z1t(a s:List Nat)(l:List (List Nat)):zqe a (l++[s])=s:=by simp[zqe]
theorem z5o(a s:List Nat)(l:List (List Nat)):zkx a (l++[s])=zkx a l++fpiece (zqe a l) s:=by
 induction l generalizing a with
 |nil=>simp[zkx,zqe]
 |cons x l ih=>
  rw[List.cons_append,zkx,ih x,zkx,List.append_assoc];congr 3
  cases l with
  |nil=>simp[zqe]
  |cons y l=>simp[zqe,List.getLast?_eq_some_getLast]
theorem zsr(a:List Nat)(l:List (List Nat))(h:∀s∈l,s.length<=65536):(zkx a l).length<=20*l.length+fsum l:=by
 induction l generalizing a with
 |nil=>simp[zkx]
 |cons s l ih=>
  have h1:=ih s (fun x hx=>h x (by simp[hx]));have h2:=h s (by simp);have k2:=zgh a s;have v1:=zaj (n:=shr a s) (by omega);have v2:=zaj (n:=s.length-shr a s) (by omega);rw[zkx,fpiece,zfx,List.length_cons];simp only[List.length_append,List.length_drop];omega
theorem zul{Q:List Nat->Prop}{a:List Nat}(l:List (List Nat))(ha:Q a)(h:∀s∈l,Q s):Q (zqe a l):=by
 unfold zqe;cases hl:l.getLast? with
 |none=>exact ha
 |some x=>exact h x (List.mem_of_getLast? hl)
def ztt(l:List (List Nat)):Option (List Nat):=if z5n l then some (zkx [] l) else none
def zed(a:List Nat)(room:Int)(S:St):List Nat × List Nat × Int × St:=
 if shr a (a.take (lenS a.length S).1++(zbt (lenS (65536-((lenS a.length S).1:Int)) (lenS a.length S).2).1 (lenS (65536-((lenS a.length S).1:Int)) (lenS a.length S).2).2).1)=(lenS a.length S).1/\
  ((a.take (lenS a.length S).1++(zbt (lenS (65536-((lenS a.length S).1:Int)) (lenS a.length S).2).1 (lenS (65536-((lenS a.length S).1:Int)) (lenS a.length S).2).2).1).length:Int)<=room then
  (a.take (lenS a.length S).1++(zbt (lenS (65536-((lenS a.length S).1:Int)) (lenS a.length S).2).1 (lenS (65536-((lenS a.length S).1:Int)) (lenS a.length S).2).2).1,
   a.take (lenS a.length S).1++(zbt (lenS (65536-((lenS a.length S).1:Int)) (lenS a.length S).2).1 (lenS (65536-((lenS a.length S).1:Int)) (lenS a.length S).2).2).1,
   room-((a.take (lenS a.length S).1++(zbt (lenS (65536-((lenS a.length S).1:Int)) (lenS a.length S).2).1 (lenS (65536-((lenS a.length S).1:Int)) (lenS a.length S).2).2).1).length:Int),
   (zbt (lenS (65536-((lenS a.length S).1:Int)) (lenS a.length S).2).1 (lenS (65536-((lenS a.length S).1:Int)) (lenS a.length S).2).2).2)
 else([],a,room,none)
theorem z1u(a:List Nat)(room:Int)(S:St)(hS:S.ok):
 (zed a room S).2.2.2=none\/ ∃s r,S=some (fpiece a s++r)/\s.length<=65536/\(s.length:Int)<=room/\zed a room S=(s,s,room-s.length,some r):=by
 unfold zed;split
 ·rename_i hc
  obtain⟨h1,h2⟩:=hc;rcases zbq (a.length:Int) S hS with e1|⟨k,r1,rfl,hk,_,e1⟩
  ·left;simp only[e1,zgw,zdr]
  ·rw[e1] at h1 h2⊢
   simp only at h1 h2⊢;have hr1:St.ok (some r1):=St.ok_some fun x hx=>hS _ rfl x (by simp[hx])
   rcases zbq (65536-(k:Int)) (some r1) hr1 with e2|⟨m,r2,hr,hm,_,e2⟩
   ·left;simp only[e2,zdr]
   ·rw[e2] at h1 h2⊢
    simp only at h1 h2⊢;injection hr with hr;subst hr;rcases zca (m:Int) (some r2) with e3|⟨l,hl,hm1,hm2,e3⟩
    ·left;simp only[e3]
    ·rw[e3] at h1 h2⊢
     simp only[Int.toNat_natCast] at h1 h2⊢;injection hl with hl;subst hl;have hka:k<=a.length:=by omega
     have hlen:(a.take k++r2.take m).length=k+m:=by rw[List.length_append,List.length_take,List.length_take];omega
     refine .inr ⟨a.take k++r2.take m,r2.drop m,?_,by omega,h2,rfl⟩;rw[fpiece,h1,hlen,show k+m-k=m by omega,List.drop_left' (by rw[List.length_take];omega)];simp
 ·exact .inl rfl
theorem z5p(a s r:List Nat)(room:Int)(hs:s.length<=65536)(hr:(s.length:Int)<=room)(ha:a.length<=65536):zed a room (some (fpiece a s++r))=(s,s,room-s.length,some r):=by
 have k1:=zhx a s;have k2:=zgh a s;have e1:lenS (a.length:Int) (some (fpiece a s++r))=(shr a s,some (vp (s.length-shr a s)++(s.drop (shr a s)++r))):=by rw[fpiece,List.append_assoc,List.append_assoc];exact zb2 _ _ (by omega) (by omega)
 have e2:lenS (65536-(shr a s:Int)) (some (vp (s.length-shr a s)++(s.drop (shr a s)++r)))=(s.length-shr a s,some (s.drop (shr a s)++r)):=zb2 _ _ (by omega) (by omega);have e3:zbt ((s.length-shr a s:Nat):Int) (some (s.drop (shr a s)++r))=(s.drop (shr a s),some r):=by have:=zdf (s.drop (shr a s)) r;rwa[List.length_drop] at this
 have e4:a.take (shr a s)++s.drop (shr a s)=s:=by rw[zsq,List.take_append_drop]
 unfold zed;simp only[e1,e2,e3,e4];rw[if_pos ⟨trivial,hr⟩]
theorem z5q(a:List Nat)(room:Int)(S:St)(hS:S.ok)(ha:a.length<=65536)(h8:∀x∈a,x<256)(h0:0<=room)(h1:room<=16777216):
 (zed a room S).2.1.length<=65536/\(∀x∈(zed a room S).2.1,x<256)/\0<=(zed a room S).2.2.1/\(zed a room S).2.2.1<=16777216/\(zed a room S).1.length<=65536/\(∀x∈(zed a room S).1,x<256):=by
 have hk0:=zb1 (m:=a.length) S (by omega) hS;have hS1:=za6 (m:=a.length) hS;have hm0:=zb1 (m:=65536-((lenS a.length S).1:Int)) (lenS a.length S).2 (by omega) hS1;have hS2:=za6 (m:=65536-((lenS a.length S).1:Int)) hS1;have hr8:=(zcq (n:=((lenS (65536-((lenS a.length S).1:Int)) (lenS a.length S).2).1:Int)) hS2).2;have hrl:=zeh (n:=((lenS (65536-((lenS a.length S).1:Int)) (lenS a.length S).2).1:Int)) (S:=(lenS (65536-((lenS a.length S).1:Int)) (lenS a.length S).2).2) (by omega);unfold zed;generalize lenS a.length S=p1 at*;generalize lenS (65536-(p1.1:Int)) p1.2=p2 at*;generalize zbt (p2.1:Int) p2.2=p3 at*;have ht8:∀x∈a.take p1.1++p3.1,x<256:=by
  intro x hx;rcases List.mem_append.1 hx with hx|hx
  ·exact h8 x (List.mem_of_mem_take hx)
  ·exact hr8 x hx
 have htl:(a.take p1.1++p3.1).length<=65536:=by rw[List.length_append,List.length_take];omega
 split
 ·rename_i hc
  exact⟨htl,ht8,by simp only;omega,by simp only;omega,htl,ht8⟩
 ·exact⟨ha,h8,h0,h1,by simp,by simp⟩
def zlm:Nat->List Nat->Int->St->List (List Nat) × St
 |0,_,_,S=>([],S)
 |n+1,a,room,S=>if S=none then([],none) else
   ((zed a room S).1::(zlm n (zed a room S).2.1 (zed a room S).2.2.1 (zed a room S).2.2.2).1,(zlm n (zed a room S).2.1 (zed a room S).2.2.1 (zed a room S).2.2.2).2)
theorem z5r(n:Nat)(a:List Nat)(room:Int):(zlm n a room none).2=none:=by cases n<;> simp[zlm]
theorem z5s:∀(n:Nat) (a:List Nat) (room:Int) (S:St) (r:List Nat),S.ok->0<=room->a.length<=65536->(zlm n a room S).2=some r->
 S=some (zkx a (zlm n a room S).1++r)/\(zlm n a room S).1.length=n/\(∀s∈(zlm n a room S).1,s.length<=65536)/\(fsum (zlm n a room S).1:Int)<=room:=by
 intro n;induction n with
 |zero=>
  intro a room S r _ h0 _ h;simp only[zlm] at h⊢;subst h;simp[zkx,fsum,h0]
 |succ n ih=>
  intro a room S r hS h0 ha h;by_cases hn:S=none
  ·simp[zlm,hn] at h
  ·simp only[zlm,if_neg hn] at h⊢
   rcases z1u a room S hS with e|⟨s,r1,rfl,h1,h2,e⟩
   ·rw[e,z5r] at h;cases h
   ·rw[e] at h⊢
    simp only at h⊢;have hr1:St.ok (some r1):=St.ok_some fun x hx=>hS _ rfl x (by simp[hx])
    obtain⟨g1,g2,g3,g4⟩:=ih s (room-s.length) (some r1) r hr1 (by omega) h1 h;injection g1 with g1;refine⟨?_,by simp[g2],?_,?_⟩
    ·rw[zkx,List.append_assoc,<-g1]
    ·intro x hx
     rcases List.mem_cons.1 hx with rfl|hx
     ·exact h1
     ·exact g3 x hx
    ·rw[zfx];omega
theorem qbb:∀(l:List (List Nat)) (a:List Nat) (room:Int) (r:List Nat),a.length<=65536->(∀s∈l,s.length<=65536)->(fsum l:Int)<=room->zlm l.length a room (some (zkx a l++r))=(l,some r):=by
 intro l;induction l with
 |nil=>intro a room r _ _ _;simp[zlm,zkx]
 |cons s l ih=>
  intro a room r ha hl hs;rw[zfx] at hs;have h1:=hl s (by simp);simp only[List.length_cons,zlm,zkx];rw[if_neg (by simp),List.append_assoc,z5p a s _ room h1 (by omega) ha];simp only;rw[ih s (room-s.length) r h1 (fun x hx=>hl x (by simp[hx])) (by omega)]
theorem zum(n:Nat)(a:List Nat)(room:Int){S:St}(h:n=0\/S=none):zlm n a room S=([],S):=by
 rcases h with rfl|rfl
 ·rfl
 ·cases n<;> simp[zlm]
theorem z5t(n:Nat)(a:List Nat)(room:Int)(S:St)(h:S≠none):zlm (n+1) a room S=((zed a room S).1::(zlm n (zed a room S).2.1 (zed a room S).2.2.1 (zed a room S).2.2.2).1,(zlm n (zed a room S).2.1 (zed a room S).2.2.1 (zed a room S).2.2.2).2):=by simp only[zlm,if_neg h]
def ztu(b:List Nat)(n:Int):Option (List (List Nat)):=
 if 0<=n/\n<=65536 then(if zqa (zlm n.toNat [] 16777216 (some b)).2 then some (zlm n.toNat [] 16777216 (some b)).1 else none) else none
theorem znd{b:List Nat}{n:Int}{l:List (List Nat)}(h8:∀x∈b,x<256):ztu b n=some l↔(l.length:Int)=n/\ztt l=some b:=by
 constructor
 ·intro h
  unfold ztu at h;split at h
  ·rename_i hn
   split at h
   ·rename_i he
    injection h with h;simp only[zqa,decide_eq_true_eq] at he;obtain⟨g1,g2,g3,g4⟩:=z5s n.toNat [] 16777216 (some b) [] (St.ok_some h8) (by omega) (by simp) he;rw[h] at g1 g2 g3 g4;injection g1 with g1;rw[List.append_nil] at g1;refine⟨by omega,?_⟩;unfold ztt;rw[if_pos,<-g1];rw[zej];exact⟨by omega,g3,by omega⟩
   ·cases h
  ·cases h
 ·rintro⟨rfl,h⟩
  unfold ztt at h;split at h
  ·rename_i hf
   rw[zej] at hf;injection h with h;have:=qbb l [] 16777216 [] (by simp) hf.2.1 (by have:=hf.2.2;omega);rw[List.append_nil,h] at this;unfold ztu;rw[if_pos ⟨by omega,by omega⟩,Int.toNat_natCast,this];simp[zqa]
  ·cases h
theorem z1v{a:List Nat}{l:List (List Nat)}(ha:∀x∈a,x<256)(h:∀x∈zkx a l,x<256):∀s∈l,∀x∈s,x<256:=by
 induction l generalizing a with
 |nil=>simp
 |cons s l ih=>
  rw[zkx,fpiece] at h;have hs:∀x∈s,x<256:=by
   intro x hx;rw[<-List.take_append_drop (shr a s) s,List.mem_append] at hx;rcases hx with hx|hx
   ·rw[<-zsq] at hx
    exact ha x (List.mem_of_mem_take hx)
   ·exact h x (by simp[hx])
  intro t ht;rcases List.mem_cons.1 ht with rfl|ht
  ·exact hs
  ·exact ih hs (fun x hx=>h x (by simp[hx])) t ht
theorem qdv{b:List Nat}{n:Int}(h8:∀x∈b,x<256):(∀s∈(ztu b n).getD [],∀x∈s,x<256)/\((ztu b n).getD []).length<=65536/\ ∀s∈(ztu b n).getD [],s.length<=65536:=by
 cases h:ztu b n with
 |none=>simp
 |some l=>
  obtain⟨_,h2⟩:=(znd h8).1 h;unfold ztt at h2;split at h2
  ·rename_i hf
   injection h2 with h2;obtain⟨f1,f2,_⟩:=(zej l).1 hf;exact⟨z1v (a:=[]) (by simp) (by show∀x∈zkx [] l,x<256;rw[h2];exact h8),f1,f2⟩
  ·cases h2
theorem zzg:∀(k n:Nat),n<=k-> ∀x∈vp n,x<256:=by
 intro k;induction k using Nat.strongRecOn with
 |ind k ih=>
  intro n hk x hx;by_cases hn:n<128
  ·rw[zez hn] at hx;simp at hx;omega
  ·rw[zfr hn,List.mem_cons] at hx
   rcases hx with hx|hx
   ·omega
   ·exact ih (n/128) (by omega) (n/128) (Nat.le_refl _) x hx
theorem qfq(a:List Nat)(l:List (List Nat))(h:∀s∈l,∀x∈s,x<256):∀x∈zkx a l,x<256:=by
 induction l generalizing a with
 |nil=>simp[zkx]
 |cons s l ih=>
  intro x hx;rw[zkx,fpiece] at hx;simp only[List.mem_append] at hx;rcases hx with((hx|hx)|hx)|hx
  ·exact zzg _ _ (Nat.le_refl _) x hx
  ·exact zzg _ _ (Nat.le_refl _) x hx
  ·exact h s (by simp) x (List.mem_of_mem_drop hx)
  ·exact ih s (fun y hy=>h y (by simp[hy])) x hx
theorem qfr{l:List (List Nat)}{b:List Nat}(h:∀s∈l,∀x∈s,x<256)(hb:ztt l=some b):∀x∈b,x<256:=by
 unfold ztt at hb;split at hb
 ·injection hb with hb
  rw[<-hb];exact qfq [] l h
 ·cases hb
open Go Go.RowKit
theorem zop{x y:Int}:zib x y<=0↔x<=y:=by
 unfold zib;split
 ·omega
 ·split<;> omega
theorem cmpI_zero{x y:Int}:zib x y=0↔x=y:=by
 unfold zib;split
 ·omega
 ·split<;> omega
theorem zne(x y:Int):zib y x= -zib x y:=by
 unfold zib;by_cases h1:x<y
 ·rw[if_pos h1,if_neg (by omega),if_pos h1];rfl
 ·by_cases h2:y<x
  ·rw[if_pos h2,if_neg h1,if_pos h2]
  ·rw[if_neg h2,if_neg h1,if_neg h1,if_neg h2];rfl
theorem qie(a b c:Int):orI [a,b,c]=if a=0 then(if b=0 then c else b) else a:=by simp only[orI];by_cases h1:a=0<;> by_cases h2:b=0<;> by_cases h3:c=0<;> simp[h1,h2,h3]
theorem qbi(x y u v:Int):cmpP u v x y= -cmpP x y u v:=by
 unfold cmpP;rw[zne (x*x+y*y),zne x,zne y,qie,qie];by_cases h1:zib (x*x+y*y) (u*u+v*v)=0
 ·rw[if_pos (by omega),if_pos h1]
  by_cases h2:zib x u=0
  ·rw[if_pos (by omega),if_pos h2]
  ·rw[if_neg (by omega),if_neg h2]
 ·rw[if_neg (by omega),if_neg h1]
theorem z5y{x y u v:Int}:cmpP x y u v=0↔x=u/\y=v:=by
 unfold cmpP;rw[qie];constructor
 ·intro h
  split at h
  ·split at h
   ·rename_i h1 h2
    exact⟨cmpI_zero.1 h2,cmpI_zero.1 h⟩
   ·rename_i h1 h2
    exact absurd h h2
  ·rename_i h1
   exact absurd h h1
 ·rintro⟨rfl,rfl⟩
  simp[z5x]
theorem z5z{x y u v:Int}:cmpP x y u v<=0↔x*x+y*y<u*u+v*v\/(x*x+y*y=u*u+v*v/\(x<u\/(x=u/\y<=v))):=by
 unfold cmpP;rw[qie];generalize x*x+y*y=n;generalize u*u+v*v=m;have a1:= @zop n m;have a2:= @cmpI_zero n m;have b1:= @zop x u;have b2:= @cmpI_zero x u;have c1:= @zop y v;split
 ·split
  ·omega
  ·omega
 ·omega
open Go Go.RowKit
def nearB(x y:Int):Bool:=decide (-2097152<=x)&&decide (x<=2097152)&&decide (-2097152<=y)&&decide (y<=2097152)
theorem nearB_iff{x y:Int}:nearB x y=true↔(-2097152<=x/\x<=2097152)/\(-2097152<=y/\y<=2097152):=by simp[nearB];omega
def zfy:Int × Int->List (Int × Int)->Option (List (Int × Int))
 |_,[]=>some []
 |h,s::r=>if nearB s.1 s.2&&inBox (h.1+s.1) (h.2+s.2) then(zfy (h.1+s.1,h.2+s.2) r).map ((h.1+s.1,h.2+s.2):: ·) else none
def zfz:Int × Int->List (Int × Int)->Option (List (Int × Int))
 |_,[]=>some []
 |h,p::r=>if inBox p.1 p.2 then(zfz p r).map ((p.1-h.1,p.2-h.2):: ·) else none
theorem inBox_iff{x y:Int}:inBox x y=true↔(-1048576<=x/\x<=1048576)/\(-1048576<=y/\y<=1048576):=by simp[inBox];omega
open Go Go.RowKit
def zoz(l:List za2):Prop:=l.length<=64/\(∀x∈l,0<x.1.length/\x.1.length<=100/\0<=x.2.1/\x.2.1<=3)/\(l.map (·.1)).Nodup
theorem zre:∀(l a:List za2),zgl a l=0↔(∀x∈l,0<x.1.length/\x.1.length<=100/\0<=x.2.1/\x.2.1<=3)/\(l.map (·.1)).Nodup/\ ∀x∈l,x.1∉a.map (·.1)
 | [],a=>by simp[zgl]
 |c::l,a=>by
  have key:zk2 a c.1 c.2.1=0↔(0<c.1.length/\c.1.length<=100/\0<=c.2.1/\c.2.1<=3)/\c.1∉a.map (·.1):=by
   unfold zk2;by_cases h:zl0 a c.1
   ·rw[if_pos h]
    refine⟨fun hh=>by omega,fun hh=>?_⟩;rcases h with h|h|h
    ·omega
    ·omega
    ·exact absurd h hh.2
   ·rw[if_neg h]
    by_cases h2:0<=c.2.1/\c.2.1<=3
    ·rw[if_pos h2]
     refine⟨fun _=>⟨⟨?_,?_,h2.1,h2.2⟩,fun hh=>h (.inr (.inr hh))⟩,fun _=>rfl⟩
     ·have: ¬c.1.length=0:=fun hh=>h (.inl hh)
      omega
     ·have: ¬100<c.1.length:=fun hh=>h (.inr (.inl hh))
      omega
    ·rw[if_neg h2]
     exact⟨fun hh=>by omega,fun hh=>by omega⟩
  have ih:=zre l (a++[c]);have e:zgl a (c::l)=0↔zk2 a c.1 c.2.1=0/\zgl (a++[c]) l=0:=by
   rw[zgl];split
   ·rename_i h;exact⟨fun hh=>⟨h,hh⟩,fun hh=>hh.2⟩
   ·rename_i h;exact⟨fun hh=>absurd hh h,fun hh=>absurd hh.1 h⟩
  rw[e,key,ih];simp only[List.forall_mem_cons,List.map_cons,List.nodup_cons,List.map_append,List.map_nil,List.mem_append,List.mem_singleton];constructor
  ·rintro⟨⟨h1,h2⟩,h3,h4,h5⟩
   refine⟨⟨h1,h3⟩,⟨fun hh=>?_,h4⟩,h2,fun x hx hh=>h5 x hx (.inl hh)⟩;obtain⟨x,hx,hxe⟩:=List.mem_map.1 hh;exact h5 x hx (.inr hxe)
  ·rintro⟨⟨h1,h3⟩,⟨h4,h5⟩,h2,h6⟩
   refine⟨⟨h1,h2⟩,h3,h5,fun x hx hh=>?_⟩;rcases hh with hh|hh
   ·exact h6 x hx hh
   ·exact h4 (List.mem_map.2 ⟨x,hx,hh⟩)
theorem zdt(l:List za2):zcu l=0↔zoz l:=by
 unfold zcu zoz;split
 ·exact⟨fun hh=>by omega,fun hh=>by omega⟩
 ·rename_i h
  rw[zre];simp only[List.map_nil,List.not_mem_nil,not_false_eq_true,implies_true,and_true];exact⟨fun hh=>⟨by omega,hh⟩,fun hh=>hh.2⟩
end Go.Hm
namespace Go.Proofs.Y
open Go.RowKit Go.Hm
theorem qhs:ElT Tryz.prog 71 61 (.agg #[.bool false,.int .i64 0,.string ⟨#[]⟩,.int .i64 0,.int .i64 0]) 5 48:=⟨by kernel_rfl,by kernel_rfl,rfl,by omega⟩
theorem z8k(c:zab):∀u∈zam c,u.oneCell'=true:=by intro u hu;simp[zam] at hu;rcases hu with rfl|rfl|rfl|rfl|rfl<;> rfl
theorem z0k{α:Type}{f:α->List Value}(h:∀x,∀u∈f x,u.oneCell'=true)(l:List α):∀u∈recs f l,u.oneCell'=true:=by intro u hu;obtain⟨x,_,hx⟩:=List.mem_flatMap.1 hu;exact h x u hx
open Go.RowKit Go.Hm
theorem zmz{w:World}{A A2:Option Addr}{n c n2 c2:Nat}{l:List za2}(h:Reads w w.heap.size 3 A n (recs zh8 l))(h2:Reads w w.heap.size 3 A2 n2 (recs zh8 l))(hn:n<=4611686018427387903):
 Calls Tryz.prog 22 #[.slice A n c,.slice A2 n2 c2] w (zap (.bool true) w):=by
 obtain rfl:=h.lenC;obtain rfl:=h2.lenC;go_enter Tryz.func22,Tryz.ntmps22
 go_wp2
 go_loopw [5] (fun z wr=>∃(k q:Nat),z= .int .i64 (k:Int)/\k<=l.length/\wr=w.drewN q) (fun z _=>l.length-(intOf z).toNat)
 case atStart=>exact⟨0,0,rfl,by omega,rfl⟩
 case round=>
  obtain⟨k,q,rfl,hk,rfl⟩:=hrel;by_cases hlt:k<l.length
  ·obtain⟨ad,rfl,hb,h3,h4,h5⟩:=(h.drewN q).colT hlt
   obtain⟨ad2,rfl,hb2,h6,h7,h8⟩:=(h2.drewN q).colT hlt;generalize(l.getD k ([],0,false)).1=y1 at*;generalize(l.getD k ([],0,false)).2.1=y2 at*;generalize(l.getD k ([],0,false)).2.2=y3 at*;have hiz:(k:Int)<(l.length:Int):=by omega
   have hbb:(ad.add (k*3)).block<(w.drewN q).drew.heap.size:=by rw[za0];exact hb
   have hbb2:(ad2.add (k*3)).block<(w.drewN q).drew.heap.size:=by rw[za0];exact hb2
   have C1:=Hz (zgb h3 hbb);have C2:=Hz (zgb h4 hbb);have C3:=Hz (zgb h5 hbb);have C4:=Hz (zgb h6 hbb2);have C5:=Hz (zgb h7 hbb2);have C6:=Hz (zgb h8 hbb2);go_wp2_with fail
   refine zat New [(true,0),(true,1),(true,2),(true,3),(true,4),(true,5),(true,6),(true,7),(true,8)]
    New.refl New.trans (by kernel_rfl) (by kernel_rfl) (by kernel_rfl) (by kernel_rfl) ?_
   repeat(first
    |(refine za1 rfl rfl (v:=?_) (fun W hW=>?_) ?_;rotate_left;(have g1:=C1.out W hW;have g2:=C2.out W hW;have g3:=C3.out W hW;have g4:=C4.out W hW;have g5:=C5.out W hW;have g6:=C6.out W hW;go_simp<;> with_reducible rfl);simp only[Act.put,List.setIfInBounds_toArray,List.set_cons_zero,List.set_cons_succ]))
   refine zc3 ?_;go_wp2
   go_roundw
   case rel=>exact⟨k+1,q+1,by go_num,by omega,rfl⟩
   case measure=>simp[intOf];omega
  ·go_wp2
   go_ret
   exact⟨rfl,zic _ _⟩
end Go.Proofs.Y
