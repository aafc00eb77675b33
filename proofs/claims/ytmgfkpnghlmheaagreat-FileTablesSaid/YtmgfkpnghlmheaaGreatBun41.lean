/- Merged. -/
import Derived.Test.YtmgfkpnghlmheaaGreatBun40
set_option maxHeartbeats 200000
namespace Go.Proofs.Y
open Go.RowKit Go.Hm
theorem SheOk.uniq{t:Int}{nu:Bool}{p:zay}{b:List Nat}{l m:List zab}(h:SheOk t nu p b l)(k:SheOk t nu p b m):l=m:=by have:=h.1.uniq k.1;injection this
open Classical in
noncomputable def z9n(t:Int)(nu:Bool)(p:zay)(b:List Nat):Option (List zab):=if h:∃l,SheOk t nu p b l then some h.choose else none
theorem z75{t:Int}{nu:Bool}{p:zay}{b:List Nat}{l:List zab}(h:SheOk t nu p b l):z9n t nu p b=some l:=by unfold z9n;have e:∃l,SheOk t nu p b l:=⟨l,h⟩;rw[dif_pos e,e.choose_spec.uniq h]
theorem z76{t:Int}{nu:Bool}{p:zay}{b:List Nat}{l:List zab}(h:z9n t nu p b=some l):SheOk t nu p b l:=by
 unfold z9n at h;split at h
 ·rename_i e
  injection h with h;rw[<-h];exact e.choose_spec
 ·cases h
theorem z77{t:Int}{nu:Bool}{p:zay}{b:List Nat}(h:∀l,¬SheOk t nu p b l):z9n t nu p b=none:=by unfold z9n;rw[dif_neg];rintro⟨l,hl⟩;exact h l hl
abbrev TSt:=Option (List (List zab) × List (List Nat))
noncomputable def pgT(c:za2)(j:Nat)(S:TSt)(p:zay):TSt:=
 match S with
 |none=>none
 |some (_,[])=>none
 |some (D,b::R)=>match z9n c.2.1 c.2.2 p b with
  |none=>none
  |some x=>some (D.set j (D.getD j []++x),R)
noncomputable def chT(c:za2)(j:Nat)(S:TSt)(l:List zay):TSt:=l.foldl (pgT c j) S
noncomputable def zp9(cols:List za2):Nat->List (List zay)->TSt->TSt
 |_,[],S=>S
 |j,l::C,S=>zp9 cols (j+1) C (chT (cols.getD j zc4) j S l)
noncomputable def grT(cols:List za2)(S:TSt)(g:za4):TSt:=zp9 cols 0 g.2 S
noncomputable def ztw(F:FootS)(P:List (List Nat))(k:Nat):TSt:=(F.groups.take k).foldl (grT F.cols) (some (List.replicate F.cols.length [],P))
noncomputable def qd8(F:FootS)(P:List (List Nat)):Option (List (List zab)):=
 match ztw F P F.groups.length with
 |some (D,[])=>some D
 |_=>none
noncomputable def z0g(F:FootS)(P:List (List Nat)):Option (List (List zab)):=if zdl F=true then qd8 F P else none
theorem z0h(c:za2)(j:Nat)(p:zay):pgT c j none p=none:=rfl
theorem zla(c:za2)(j:Nat):∀l,chT c j none l=none
 | []=>rfl
 |p::l=>by
  show chT c j (pgT c j none p) l=none;rw[z0h,zla c j l]
theorem zpu(cols:List za2):∀C j,zp9 cols j C none=none
 | [],_=>rfl
 |l::C,j=>by
  show zp9 cols (j+1) C (chT (cols.getD j zc4) j none l)=none;rw[zla,zpu cols C]
theorem z0i(cols:List za2):∀G:List za4,G.foldl (grT cols) none=none
 | []=>rfl
 |g::G=>by
  show G.foldl (grT cols) (zp9 cols 0 g.2 none)=none;rw[zpu,z0i cols G]
theorem qcv{c:za2}{j:Nat}{S:TSt}{l:List zay}{k:Nat}(hk:k<l.length):chT c j S (l.take (k+1))=pgT c j (chT c j S (l.take k)) (l.getD k zbp):=by rw[zae _ k zbp hk];unfold chT;rw[List.foldl_append];rfl
theorem z78(c:za2)(j:Nat)(S:TSt)(l:List zay)(k:Nat):chT c j S l=chT c j (chT c j S (l.take k)) (l.drop k):=by unfold chT;rw[<-List.foldl_append,List.take_append_drop]
theorem zkb(cols:List za2):∀(A B:List (List zay)) (j:Nat) (S:TSt),zp9 cols j (A++B) S=zp9 cols (j+A.length) B (zp9 cols j A S)
 | [],B,j,S=>rfl
 |l::A,B,j,S=>by
  simp only[List.cons_append,zp9,zkb cols A B,List.length_cons];rw[show j+1+A.length=j+(A.length+1) by omega]
theorem zv4{cols:List za2}{C:List (List zay)}{S:TSt}{k:Nat}(hk:k<C.length):zp9 cols 0 (C.take (k+1)) S=chT (cols.getD k zc4) k (zp9 cols 0 (C.take k) S) (C.getD k []):=by rw[zae _ k [] hk,zkb,List.length_take,Nat.min_eq_left (Nat.le_of_lt hk),Nat.zero_add];rfl
theorem z25(cols:List za2)(C:List (List zay))(S:TSt)(k:Nat):zp9 cols 0 C S=zp9 cols (C.take k).length (C.drop k) (zp9 cols 0 (C.take k) S):=by conv=>lhs;rw[<-List.take_append_drop k C,zkb,Nat.zero_add]
theorem zv5{F:FootS}{P:List (List Nat)}{k:Nat}(hk:k<F.groups.length):ztw F P (k+1)=grT F.cols (ztw F P k) (F.groups.getD k zak):=by unfold ztw;rw[zae _ k zak hk,List.foldl_append];rfl
theorem z26(F:FootS)(P:List (List Nat))(k:Nat):ztw F P F.groups.length=(F.groups.drop k).foldl (grT F.cols) (ztw F P k):=by unfold ztw;rw[<-List.foldl_append,List.take_length,List.take_append_drop]
theorem z79{F:FootS}{P:List (List Nat)}{k:Nat}(h:ztw F P k=none):qd8 F P=none:=by unfold qd8;rw[z26 F P k,h,z0i]
theorem zry{F:FootS}{P:List (List Nat)}{k j:Nat}(hk:k<F.groups.length)(h:zp9 F.cols 0 ((F.groups.getD k zak).2.take j) (ztw F P k)=none):qd8 F P=none:=by refine z79 (k:=k+1) ?_;rw[zv5 hk];unfold grT;rw[z25 _ _ _ j,h,zpu]
theorem z27{F:FootS}{P:List (List Nat)}{k j q:Nat}(hk:k<F.groups.length)(hj:j<(F.groups.getD k zak).2.length)(h:chT (F.cols.getD j zc4) j (zp9 F.cols 0 ((F.groups.getD k zak).2.take j) (ztw F P k)) ((zav F.groups k j).take q)=none):qd8 F P=none:=by refine zry (j:=j+1) hk ?_;rw[zv4 hj];show chT _ _ _ (zav F.groups k j)=none;rw[z78 _ _ _ _ q,h,zla]
theorem z8a{c:za2}{j:Nat}:∀(l:List zay) {D D':List (List zab)} {P R:List (List Nat)},chT c j (some (D,P)) l=some (D',R)->D'.length=D.length/\P.length=R.length+l.length/\R=P.drop l.length
 | [],D,D',P,R,h=>by
   injection h with h;injection h with h1 h2;subst h1 h2;exact⟨rfl,rfl,rfl⟩
 |p::l,D,D',[],R,h=>by
  have e:chT c j (some (D,[])) (p::l)=chT c j none l:=rfl;rw[e,zla] at h;cases h
 |p::l,D,D',b::P,R,h=>by
  have e:chT c j (some (D,b::P)) (p::l)=chT c j (pgT c j (some (D,b::P)) p) l:=rfl;rw[e] at h;unfold pgT at h;cases hs:z9n c.2.1 c.2.2 p b with
  |none=>
   simp only[hs] at h;rw[zla] at h;cases h
  |some x=>
   simp only[hs] at h;obtain⟨h1,h2,h3⟩:=z8a l h;rw[List.length_set] at h1;exact⟨h1,by simp only[List.length_cons];omega,by simpa using h3⟩
theorem z8b{c:za2}{j:Nat}{l:List zay}{D:List (List zab)}{P:List (List Nat)}(h:P.length<l.length):chT c j (some (D,P)) l=none:=by
 cases he:chT c j (some (D,P)) l with
 |none=>rfl
 |some x=>
  obtain⟨D',R⟩:=x;have:=(z8a l he).2.1;omega
theorem ztj{α:Type}{D:List α}{j:Nat}{d:α}(h:j<D.length):D.set j (D.getD j d)=D:=by rw[List.getD_eq_getElem?_getD,List.getElem?_eq_getElem h];exact List.set_getElem_self h
theorem qd9{c:za2}{j:Nat}{D:List (List zab)}{b:List Nat}{R:List (List Nat)}{p:zay}{x:List zab}(h:SheOk c.2.1 c.2.2 p b x):pgT c j (some (D,b::R)) p=some (D.set j (D.getD j []++x),R):=by unfold pgT;dsimp only;rw[z75 h]
theorem qhr{c:za2}{j:Nat}{D:List (List zab)}{b:List Nat}{R:List (List Nat)}{p:zay}(h:∀x,¬SheOk c.2.1 c.2.2 p b x):pgT c j (some (D,b::R)) p=none:=by unfold pgT;dsimp only;rw[z77 h]
theorem z8c{t:Int}{nu:Bool}{p:zay}{b:List Nat}{l:List zab}(h:SheOk t nu p b l):l.length<=65536:=by obtain⟨⟨e,_,hB⟩,_⟩:=h.1.sound l rfl;exact(zg7 hB).2.1
def OkT(n N:Nat)(S:TSt):Prop:=∀D R,S=some (D,R)->D.length=n/\ ∀x∈D,x.length+65536*R.length<=65536*N
theorem qgc{n N:Nat}{c:za2}{j:Nat}{p:zay}:∀{S:TSt},OkT n N S->OkT n N (pgT c j S p)
 |none,_=>fun D R h=>by rw[z0h] at h;cases h
 |some (D,[]),_=>fun D' R h=>by cases h
 |some (D,b::P),hS=>fun D' R h=>by
  obtain⟨h1,h2⟩:=hS D (b::P) rfl;cases hs:z9n c.2.1 c.2.2 p b with
  |none=>
   unfold pgT at h;simp only[hs] at h;cases h
  |some x=>
   have hx:=z8c (z76 hs);unfold pgT at h;simp only[hs] at h;injection h with h;injection h with e1 e2;subst e1 e2;refine⟨by rw[List.length_set];exact h1,fun y hy=>?_⟩;simp only[List.length_cons] at h2;rcases List.mem_or_eq_of_mem_set hy with hy|rfl
   ·have:=h2 y hy
    omega
   ·rw[List.length_append]
    by_cases hj:j<D.length
    ·have:=h2 (D.getD j []) (by rw[List.getD_eq_getElem?_getD,List.getElem?_eq_getElem hj];exact List.getElem_mem hj)
     omega
    ·rw[List.set_eq_of_length_le (by omega)] at hy
     have:=h2 _ hy;rw[List.length_append] at this;omega
theorem zya{n N:Nat}{c:za2}{j:Nat}:∀(l:List zay) {S:TSt},OkT n N S->OkT n N (chT c j S l)
 | [],_,h=>h
 |p::l,S,h=>zya l (S:=pgT c j S p) (qgc h)
theorem ztk{n N:Nat}{cols:List za2}:∀(C:List (List zay)) (j:Nat) {S:TSt},OkT n N S->OkT n N (zp9 cols j C S)
 | [],_,_,h=>h
 |l::C,j,_,h=>ztk C (j+1) (zya l h)
theorem z8d{n N:Nat}{cols:List za2}:∀(G:List za4) {S:TSt},OkT n N S->OkT n N (G.foldl (grT cols) S)
 | [],_,h=>h
 |g::G,S,h=>z8d G (S:=grT cols S g) (ztk g.2 0 h)
theorem qcw(F:FootS)(P:List (List Nat))(k:Nat):OkT F.cols.length P.length (ztw F P k):=
 z8d _ (fun D R h=>by injection h with h;injection h with e1 e2;subst e1 e2;refine⟨by rw[List.length_replicate],fun x hx=>?_⟩;rw[List.eq_of_mem_replicate hx];simp)
theorem z0j{F:FootS}{P:List (List Nat)}{D:List (List zab)}{R:List (List Nat)}(h:ztw F P F.groups.length=some (D,R)):qd8 F P=if R=[] then some D else none:=by
 unfold qd8;rw[h];cases R with
 |nil=>simp
 |cons x R=>simp
end Go.Proofs.Y
namespace Go.Hm
open Go Go.RowKit
abbrev dZ:zdy:=(none,0,[])
def zm7(d:zdy):Value:= .slice d.1 d.2.2.length d.2.1
theorem zpy{α:Type}{f:α->List Value}(hf:∀x,(f x).length=1):∀(X:List α) (x:α) (k:Nat) {v:Value},f x=[v]->(recs f X).toArray.setIfInBounds k v=(recs f (X.set k x)).toArray
 | [],x,k,v,hv=>by simp[recs]
 |y::X,x,0,v,hv=>by
  have h1:=hf y
  match hy:f y,h1 with
  | [a],_=>simp[recs,hy,hv]
 |y::X,x,k+1,v,hv=>by
  have h1:=hf y;have h2:=zpy hf X x k hv
  match hy:f y,h1 with
  | [a],_=>
    have e:∀Z:List α,recs f (y::Z)=a::recs f Z:=fun Z=>by simp[recs,hy]
    rw[List.set_cons_succ,e,e];rw[List.setIfInBounds_toArray] at h2⊢;rw[List.set_cons_succ];have:=congrArg Array.toList h2;simp only at this;rw[this]
theorem z0m{α:Type}{f:α->List Value}(hf:∀x,(f x).length=1)(X:List α)(d:α)(k:Nat)(h:k<X.length){v:Value}(hv:f (X.getD k d)=[v]):(recs f X).toArray[k]? =some v:=by have e:=zoc (f:=f) (sz:=1) hf X d k 0 h (by omega);rw[Nat.mul_one,Nat.add_zero] at e;rw[List.getElem?_toArray,e,hv];rfl
theorem ztm{α:Type}{D:List α}{j:Nat}{d x:α}(h:j<D.length):(D.set j x).getD j d=x:=by rw[List.getD_eq_getElem?_getD,List.getElem?_set_self h];rfl
theorem z0n{α:Type}{D:List α}{i j:Nat}{d x:α}(h:i≠j):(D.set j x).getD i d=D.getD i d:=by rw[List.getD_eq_getElem?_getD,List.getElem?_set_ne (by omega),List.getD_eq_getElem?_getD]
end Go.Hm
namespace Go.Proofs.Y
open Go.RowKit Go.Hm
def qc1(L:List za2)(r:Int)(o:Option (List (List zab)))(w:World)(e:Ending)(w':World):Prop:=
 match o with
 |none=>TabPost 2 [] 0 [] w e w'
 |some C=>TabPost 0 L r C w e w'
theorem zle{w w':World}(h:New w w'):TabPost 2 [] 0 [] w (.returned (.tuple #[.agg #[.slice none 0 0,.int .i64 0,.slice none 0 0],.int .i64 2])) w':=
 ⟨none,none,0,0,[],rfl,zcn,zcn,(fun d hd=>(by cases hd)),rfl,h⟩
structure ColsIn(w:World)(B:Nat)(D:List zdy):Prop where
 rows:RowsIn w B D
 apart:∀i j,i<D.length->j<D.length->i≠j->(zm7 (D.getD i dZ)).ownBlock=none\/(zm7 (D.getD i dZ)).ownBlock≠(zm7 (D.getD j dZ)).ownBlock
theorem ColsIn.later{w w':World}{B:Nat}{D:List zdy}(h:ColsIn w B D)(hb:New w w'):ColsIn w' B D:=⟨h.rows.later hb,h.apart⟩
theorem ColsIn.keepT{w w':World}{B g:Nat}{t:TypeId}{cs:Array Value}{D:List zdy}(h:ColsIn w B D)(hT:Blk w g t cs)(hne:61≠t)(hg:w.grownBy w' (some g)):ColsIn w' B D:=⟨h.rows.keepT hT hne hg,h.apart⟩
theorem ColsIn.nil{w:World}{B n:Nat}:ColsIn w B (List.replicate n dZ):=by
 refine⟨fun d hd=>?_,fun i j hi hj hne=>?_⟩
 ·rw[List.eq_of_mem_replicate hd]
  exact zcn
 ·rw[List.length_replicate] at hi
  left;rw[List.getD_eq_getElem?_getD,List.getElem?_replicate,if_pos hi];rfl
theorem ColsIn.at_{w:World}{B j:Nat}{D:List zdy}(h:ColsIn w B D)(hj:j<D.length):w.ownsRow B 61 5 (zm7 (D.getD j dZ)) (D.getD j dZ).2.2.length (recs zam (D.getD j dZ).2.2):=h.rows _ (zan dZ hj)
theorem ColsIn.put{w w':World}{B j:Nat}{D:List zdy}{d:zdy}(h:ColsIn w B D)(hj:j<D.length)(hd:w'.ownsRow B 61 5 (zm7 d) d.2.2.length (recs zam d.2.2))(hg:w.grownBy w' (zm7 (D.getD j dZ)).ownBlock)
 (hat:(zm7 d).ownBlock=(zm7 (D.getD j dZ)).ownBlock\/ ∃g,(zm7 d).ownBlock=some g/\w.heap.size<=g):ColsIn w' B (D.set j d):=by
 have hap:∀i,i<D.length->i≠j->(zm7 (D.getD i dZ)).ownBlock=none\/(zm7 (D.getD i dZ)).ownBlock≠(zm7 d).ownBlock:=by
  intro i hi hne;rcases hat with hat|⟨g,hat,hgg⟩
  ·rw[hat]
   exact h.apart i j hi hj hne
  ·rcases hu:(zm7 (D.getD i dZ)).ownBlock with _|k
   ·exact .inl rfl
   ·right
    rw[hat];intro e;injection e with e;have:=(World.ownsRow.lt (h.at_ hi) _ hu).2;omega
 refine⟨fun x hx=>?_,fun i k hi hk hne=>?_⟩
 ·obtain⟨i,hi,rfl⟩:=List.getElem_of_mem hx
  have e:(D.set j d)[i]'hi=(D.set j d).getD i dZ:=by rw[List.getD_eq_getElem?_getD,List.getElem?_eq_getElem hi];rfl
  have hi:i<D.length:=by simpa using hi
  rw[e];by_cases hij:i=j
  ·subst hij
   rw[ztm hj];exact hd
  ·rw[z0n hij]
   exact World.ownsRow.kept (h.at_ hi) hg (h.apart i j hi hj hij)
 ·rw[List.length_set] at hi hk
  by_cases hij:i=j
  ·subst hij
   rw[ztm hi,z0n (fun e=>hne e.symm)];exact zfv (hap k hk (fun e=>hne e.symm))
  ·rw[z0n hij]
   by_cases hkj:k=j
   ·subst hkj
    rw[ztm hk];exact hap i hi hij
   ·rw[z0n hkj]
    exact h.apart i k hi hk hne
structure TabSt(w0:World)(B gt gd:Nat)(L:List za2)(Aq:Option Addr)(cq:Nat)(r:Int)(fa:Array Value)(w:World)(D:List zdy):Prop where
 new:New w0 w
 tab:Blk w gt 25 #[.slice Aq L.length cq,.int .i64 r,.slice (some ⟨gd,0,none⟩) L.length L.length]
 cols:w.ownsRow B 70 3 (.slice Aq L.length cq) L.length (recs zh8 L)
 data:Blk w gd 71 (recs zhu D).toArray
 rows:ColsIn w B D
 res:Blk w (w0.heap.size+1) 25 #[.slice none 0 0,.int .i64 0,.slice none 0 0]
 foot:Blk w w0.heap.size 38 fa
theorem TabSt.later{w0 w w':World}{B gt gd:Nat}{L:List za2}{Aq:Option Addr}{cq:Nat}{r:Int}{fa:Array Value}{D:List zdy}(h:TabSt w0 B gt gd L Aq cq r fa w D)(hb:New w w'):TabSt w0 B gt gd L Aq cq r fa w' D:=
 ⟨New.trans h.new hb,h.tab.below hb h.tab.lt,zau h.cols hb,h.data.below hb h.data.lt,h.rows.later hb,h.res.below hb h.res.lt,h.foot.below hb h.foot.lt⟩
theorem TabSt.put{w0 w w6 w7:World}{B gt gd j:Nat}{L:List za2}{Aq:Option Addr}{cq:Nat}{r:Int}{fa:Array Value}{D:List zdy}{d:zdy}(h:TabSt w0 B gt gd L Aq cq r fa w D)(hj:j<D.length)(hB:w0.heap.size<=gd)
 (hn:New w0 w6)(o6:w6.ownsRow B 61 5 (zm7 d) d.2.2.length (recs zam d.2.2))(g6:w.grownBy w6 (zm7 (D.getD j dZ)).ownBlock)
 (hat:(zm7 d).ownBlock=(zm7 (D.getD j dZ)).ownBlock\/ ∃g,(zm7 d).ownBlock=some g/\w.heap.size<=g)
 (BD7:Blk w7 gd 71 ((recs zhu D).toArray.setIfInBounds j (zm7 d)))(g7:w6.grownBy w7 (some gd)):TabSt w0 B gt gd L Aq cq r fa w7 (D.set j d):=by
 have row:=h.rows.at_ hj;have BD6:=h.data.grown g6 (fun e=>zal row h.data (by decide) e.symm);have BT6:=h.tab.grown g6 (fun e=>zal row h.tab (by decide) e.symm);have BR6:=h.res.grown g6 (fun e=>zal row h.res (by decide) e.symm);have BF6:=h.foot.grown g6 (fun e=>zal row h.foot (by decide) e.symm);have C6:=World.ownsRow.kept h.cols g6 (zdv h.cols row (by decide));refine⟨zax hn g7 hB (Nat.le_refl _),BT6.grown g7 (fun e=>by injection e with e;exact Blk.ne_ BT6 BD6 (by decide) e),World.ownsRow.kept C6 g7 (.inr (zal C6 BD6 (by decide))),?_,(h.rows.put hj o6 g6 hat).keepT BD6 (by decide) g7,
  BR6.grown g7 (fun e=>by injection e with e;exact Blk.ne_ BR6 BD6 (by decide) e),BF6.grown g7 (fun e=>by injection e with e;exact Blk.ne_ BF6 BD6 (by decide) e)⟩
 have e:=zpy (f:=zhu) (fun _=>rfl) D d j (v:=zm7 d) rfl;rw[e] at BD7;exact BD7
structure PgsIn(w:World)(A:Option Addr)(c:Nat)(R:List zjm):Prop where
 row:Reads w w.heap.size 1 A R.length (recs zjf R)
 cap:R.length<=c
 pages:∀d∈R,BytIn w d/\(∀x∈d.2.2,x<256)/\d.2.2.length<=140737488351232
theorem PgsIn.later{w w':World}{A:Option Addr}{c:Nat}{R:List zjm}(h:PgsIn w A c R)(hb:New w w'):PgsIn w' A c R:=⟨Reads.later h.row hb,h.cap,fun d hd=>⟨(h.pages d hd).1.later hb,(h.pages d hd).2⟩⟩
theorem PgsIn.cut{w:World}{A:Option Addr}{c m:Nat}{R:List zjm}(h:PgsIn w A c R)(hm:m<=R.length):PgsIn w (if c=m then A else A.map (·.add (m*1))) (c-m) (R.drop m):=by
 refine⟨?_,by have:=h.cap;rw[List.length_drop];omega,fun d hd=>h.pages d (List.mem_of_mem_drop hd)⟩;have:=h.row.cut (k:=m) hm h.cap;rw[List.length_drop];have e:(recs zjf R).drop (m*1)=recs zjf (R.drop m):=by
  rw[Nat.mul_one];clear this h;induction R generalizing m with
  |nil=>simp[recs]
  |cons x R ih=>
   cases m with
   |zero=>rfl
   |succ m=>
    have:=ih (m:=m) (by simpa using hm);simpa[recs,zjf] using this
 rw[e] at this;exact this
theorem z8l{α:Type}{l:List α}{q:Nat}(d:α)(h:q<l.length):l.drop q=l.getD q d::l.drop (q+1):=by rw[List.drop_eq_getElem_cons h,List.getD_eq_getElem?_getD,List.getElem?_eq_getElem h];rfl
open Go.RowKit Go.Hm
structure WrT where
 Ac:Option Addr
 cc:Nat
 L:List za2
 r:Int
 Ad:Option Addr
 cd:Nat
 D:List zdy
 gr:Int
 pr:Int
 Ae:Option Addr
 ce:Nat
 E:List Int
abbrev WrT.dat(T:WrT):List (List zab):=T.D.map (·.2.2)
structure WrIn(w:World)(T:WrT):Prop where
 tab:TabIn w T.Ac T.cc T.L T.Ad T.D
 encs:Reads w w.heap.size 1 T.Ae T.E.length (zep .i64 T.E)
 len:T.D.length=T.L.length
 elen:T.E.length=T.L.length
 few:T.L.length<=64
 rows:0<=T.r/\T.r<=65536
 all:∀d∈T.D,((d.2.2.length:Nat):Int)=T.r
 right:∀c,c<T.L.length-> ∀y∈(T.D.getD c dZ).2.2,zac y (T.L.getD c zc4).2.1 (T.L.getD c zc4).2.2=true
 data:∀d∈T.D,∀y∈d.2.2,CellFine y
 conf:(1<=T.gr/\T.gr<=65536)/\1<=T.pr/\T.pr<=65536
theorem WrIn.later{w w':World}{T:WrT}(h:WrIn w T)(hb:New w w'):WrIn w' T:=⟨h.tab.later hb,Reads.later h.encs hb,h.len,h.elen,h.few,h.rows,h.all,h.right,h.data,h.conf⟩
def wrC(T:WrT)(V:Value)(z:Int):Array Value:= #[.slice T.Ac T.L.length T.cc,.int .i64 T.r,.slice T.Ad T.D.length T.cd,.int .i64 T.gr,.int .i64 T.pr,.slice T.Ae T.E.length T.ce,V,.int .i64 z]
structure WrOf(w:World)(base g:Nat)(T:WrT)(V:Value)(F:List (List Nat))(z:Int):Prop where
 blk:Blk w g 74 (wrC T V z)
 pages:∃A c P,V= .slice A P.length c/\w.ownsRow base 31 1 (.slice A P.length c) P.length (recs zjf P)/\P.map byP=F/\ ∀d∈P,TR w 5 d.1 d.2.2.length (za3 .u8 d.2.2)
def KeepW(W W':World):Prop:=W.heap.size<=W'.heap.size/\ ∀t b cs,t≠74->t≠31->Blk W b t cs->Blk W' b t cs
theorem KeepW.refl(W:World):KeepW W W:=⟨Nat.le_refl _,fun _ _ _ _ _ h=>h⟩
theorem KeepW.trans{a b c:World}(h:KeepW a b)(k:KeepW b c):KeepW a c:=⟨Nat.le_trans h.1 k.1,fun t x cs h1 h2 hb=>k.2 t x cs h1 h2 (h.2 t x cs h1 h2 hb)⟩
theorem KeepW.new{W W':World}(h:New W W'):KeepW W W':=⟨h.size,fun _ _ _ _ _ hb=>hb.below h hb.lt⟩
theorem KeepW.of{W W':World}{g:Nat}{t:TypeId}{cs:Array Value}(hg:W.grownBy W' (some g))(hB:Blk W g t cs)(ht:t=74\/t=31):KeepW W W':=
 ⟨hg.size,fun t' x cs' h1 h2 hb=>hb.grown hg (fun e=>by
  injection e with e;subst e;unfold Blk at hb hB;rw[hb] at hB;injection hB with hB;injection hB with _ hB;rcases ht with ht|ht
  ·exact h1 (hB.trans ht)
  ·exact h2 (hB.trans ht))⟩
theorem KeepW.row{W W':World}{base n:Nat}{v:Value}{xs:List Value}(o:W.ownsRow base 31 1 v n xs)(hg:W.grownBy W' v.ownBlock):KeepW W W':=by
 rcases hu:v.ownBlock with _|k
 ·rw[hu] at hg
  exact⟨hg.size,fun _ _ _ _ _ hb=>hb.grown hg (by simp)⟩
 ·rw[hu] at hg
  refine⟨hg.size,fun t' x cs' h1 h2 hb=>hb.grown hg (fun e=>?_)⟩;injection e with e;subst e;exact zal o hb (fun e=>h2 e.symm) hu
theorem zd9{w:World}{g:Nat}{ty:TypeId}{a0 a1 a2 a3 a4 a5 a6 a7:Value}(h:Blk w g ty #[a0,a1,a2,a3,a4,a5,a6,a7]):
 w.cell? ⟨g,0,none⟩=some a0/\w.cell? ⟨g,1,none⟩=some a1/\w.cell? ⟨g,2,none⟩=some a2/\w.cell? ⟨g,3,none⟩=some a3/\w.cell? ⟨g,4,none⟩=some a4/\w.cell? ⟨g,5,none⟩=some a5/\w.cell? ⟨g,6,none⟩=some a6/\w.cell? ⟨g,7,none⟩=some a7:=by
 have h0:=h.cell 0;have h1:=h.cell 1;have h2:=h.cell 2;have h3:=h.cell 3;have h4:=h.cell 4;have h5:=h.cell 5;have h6:=h.cell 6;have h7:=h.cell 7;simp at h0 h1 h2 h3 h4 h5 h6 h7;exact⟨h0,h1,h2,h3,h4,h5,h6,h7⟩
theorem WrOf.new{w w':World}{base g:Nat}{T:WrT}{V:Value}{F:List (List Nat)}{z:Int}(h:WrOf w base g T V F z)(hb:New w w'):WrOf w' base g T V F z:=by obtain⟨h1,A,c,P,e,h2,h3,h4⟩:=h;exact⟨h1.below hb h1.lt,A,c,P,e,zau h2 hb,h3,fun d hd=>(h4 d hd).below hb⟩
def z8q(T:WrT)(c:Nat)(s:Int × Int)(w0:World)(base g:Nat)(F:List (List Nat))(z:Int)(w:World)(e:Ending)(w':World):Prop:=
 match pgW T.L T.E T.dat c (some (F,z)) s with
 |none=>e= .returned (.tuple #[zqg (0,0,zbw),.bool false])/\KeepW w w'/\New w0 w'
 |some x=>e= .returned (.tuple #[zqg (zbu T.L T.E T.dat c s),.bool true])/\(∃V',WrOf w' base g T V' x.1 x.2)/\KeepW w w'/\New w0 w'
end Go.Proofs.Y
