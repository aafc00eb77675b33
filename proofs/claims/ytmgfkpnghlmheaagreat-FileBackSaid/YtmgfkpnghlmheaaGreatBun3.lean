/- Texts merged and made short: Facts, Touch, Pairs, Apart, UpT, Ieee. -/
import Derived.Deep.Fields
import Derived.Deep.Slices
import Derived.Laws.ComplexArith
import Derived.OpenShut
import Derived.Test.YtmgfkpnghlmheaaGreatBun1
import Derived.Test.YtmgfkpnghlmheaaGreatBun2
import Derived.Test.YtmgfkpnghlmheaaGreatRows
set_option maxHeartbeats 200000
namespace Go.Proofs.YtmgfkpnghlmheaaGreat
open Go.Hm
theorem Tryz.own:ownKnob Tryz.prog.godebug=none:=by kernel_rfl
theorem Tryz.laidOut:laidOutB Tryz.prog=true:=by kernel_rfl
theorem elB:ElT Tryz.prog 31 5 (.int .u8 0) 1 1:=⟨by kernel_rfl,by kernel_rfl,rfl,by omega⟩
theorem elW:ElT Tryz.prog 146 87 (.int .u64 0) 1 8:=⟨by kernel_rfl,by kernel_rfl,rfl,by omega⟩
theorem elI:ElT Tryz.prog 26 3 (.int .i64 0) 1 8:=⟨by kernel_rfl,by kernel_rfl,rfl,by omega⟩
theorem zf5{w:World}{B n c:Nat}{A:Option Addr}{l:List Nat}(h:Reads w B 1 A n (za3 .u8 l)):(convert 31 9 (.slice A n c)).run Tryz.prog w= .ok (.string (zae l)) w:=
 z3q (e:=5) (by kernel_rfl) (by kernel_rfl) (by kernel_rfl) h
end Go.Proofs.YtmgfkpnghlmheaaGreat
namespace Go.Hm
open Go.RowKit
structure Turns(T:List Nat)(w w':World):Prop where
 os:w'.os=w.os
 tape:w'.tape=w.tape
 output:w'.output=w.output
 size:w.heap.size≤w'.heap.size
 block:∀k,k<w.heap.size→k∉T→w'.heap[k]? =w.heap[k]?
section
variable{T T':List Nat}{w w' w2:World}
theorem Turns.refl(T:List Nat)(w:World):Turns T w w:=⟨rfl,rfl,rfl,Nat.le_refl _,fun _ _ _=>rfl⟩
theorem Turns.trans(h:Turns T w w')(k:Turns T w' w2):Turns T w w2:=
 ⟨k.os.trans h.os,k.tape.trans h.tape,k.output.trans h.output,Nat.le_trans h.size k.size,fun i hi hT=>(k.block i (Nat.lt_of_lt_of_le hi h.size) hT).trans (h.block i hi hT)⟩
theorem Turns.more(h:Turns T w w')(hs:∀x∈T,x∈T'):Turns T' w w':=⟨h.os,h.tape,h.output,h.size,fun i hi hT=>h.block i hi fun hx=>hT (hs i hx)⟩
theorem Turns.of_new(h:Below w.heap.size w w'):Turns T w w':=⟨h.os,h.tape,h.output,h.size,fun k hk _=>h.block k hk⟩
theorem Turns.of_far{g:Nat}(h:w.grownBy w' (some g))(hg:g∈T):Turns T w w':=
 ⟨h.os,h.tape,h.output,h.size,fun k hk hT=>h.block k hk (fun e=>by injection e with e;subst e;exact hT hg)⟩
theorem Turns.of_none(h:w.grownBy w' none):Turns T w w':=⟨h.os,h.tape,h.output,h.size,fun k hk _=>h.block k hk (by simp)⟩
theorem Turns.drew(T:List Nat)(w:World):Turns T w w.drew:=⟨rfl,rfl,rfl,Nat.le_refl _,fun _ _ _=>rfl⟩
theorem Turns.drewN(T:List Nat)(w:World)(n:Nat):Turns T w (w.drewN n):=⟨rfl,rfl,rfl,Nat.le_refl _,fun _ _ _=>rfl⟩
theorem Turns.setCell{g i:Nat}(u:Value)(hg:g∈T)(w:World):Turns T w (w.setCell ⟨g,i,none⟩ u):=
 ⟨rfl,rfl,rfl,by simp[World.setCell],fun k _ hT=>Below.heap_setCell _ _ _ _ (by rintro rfl;exact hT hg)⟩
theorem Turns.below{B:Nat}{a:World}(h:Below B a w)(k:Turns T w w')(hT:∀x∈T,B≤x)(hB:B≤a.heap.size):Below B a w':=
 ⟨k.os.trans h.os,k.tape.trans h.tape,k.output.trans h.output,Nat.le_trans h.size k.size,fun i hi=>(k.block i (by have:=h.size;omega) (fun hm=>by have:=hT i hm;omega)).trans (h.block i hi)⟩
theorem Turns.new(k:Turns T w w')(hT:∀x∈T,w.heap.size≤x):Below w.heap.size w w':=k.below (Below.refl _ _) hT (Nat.le_refl _)
theorem Blk.touch{g:Nat}{t:TypeId}{cs:Array Value}(h:Blk w g t cs)(k:Turns T w w')(hg:g∉T):Blk w' g t cs:=(k.block g h.lt hg).trans h
theorem Own.touch{base:Nat}{e:TypeId}{v:Value}{xs:List Value}(h:Own w base e v xs)(k:Turns T w w')(hT:∀x∈T,v.ownBlock≠some x):Own w' base e v xs:=by
 refine⟨h.1,?_⟩;rcases h.2 with hn|⟨g,cap,cur,rfl,hbg,hgg,rest⟩
 ·exact .inl hn
 ·refine .inr ⟨g,cap,cur,rfl,hbg,?_,rest⟩
  rw[k.block g (Array.getElem?_eq_some_iff.1 hgg).1 (fun hm=>hT g hm rfl)];exact hgg
theorem Reads.touch{B size n:Nat}{A:Option Addr}{xs:List Value}(h:Reads w B size A n xs)(k:Turns T w w')(hT:∀x∈T,B≤x)(hB:B≤w.heap.size):Reads w' B size A n xs:=
 h.keep fun p hp=>World.cell?_of_block (k.block p.block (by omega) (fun hm=>by have:=hT _ hm;omega))
theorem Turns.far{g:Nat}(h:Turns [g] w w'):w.grownBy w' (some g):=⟨h.os,h.tape,h.output,h.size,fun k hk hne=>h.block k hk (by intro hm;simp at hm;subst hm;exact hne rfl)⟩
end
theorem Own.row{w:World}{base:Nat}{e:TypeId}{v:Value}{xs:List Value}(h:Own w base e v xs):∀g,v.ownBlock=some g→∃cs,Blk w g e cs:=by
 intro g hg;rcases h.2 with⟨rfl,_⟩|⟨g',cap,cur,rfl,_,hh,_⟩
 ·simp[Value.ownBlock] at hg
 ·have:g'=g:=by simpa[Value.ownBlock] using hg
  subst this;exact⟨cur,hh⟩
theorem Blk.push{w w':World}{g:Nat}{t e:TypeId}{cs:Array Value}{base:Nat}{v:Value}{xs:List Value}(h:Blk w g t cs)(o:Own w base e v xs)(hg:w.grownBy w' v.ownBlock)(hne:e≠t):Blk w' g t cs:=
 h.grown hg (fun e'=>o.blk_ne h hne e'.symm)
theorem Reads.litV(w:World)(e:TypeId)(cs:Array Value)(n:Nat)(xs:List Value)(h:cs.toList=xs)(hn:n=xs.length):Reads (w.alloc (.cells cs e)) (w.alloc (.cells cs e)).heap.size 1 (some ⟨w.heap.size,0,none⟩) n xs:=by
 subst hn;refine⟨by simp,fun _=>⟨_,rfl,by simp,?_⟩⟩;have:=World.news_of_block (heap_alloc_new w (.cells cs e));rwa[h] at this
theorem New.alloc{w w':World}(o:Obj)(h:Below (w.alloc o).heap.size (w.alloc o) w'):New w w':=((Below.refl _ w).alloc (Nat.le_refl _) o).trans (h.mono (by simp))
theorem znp(w:World)(m n:Nat):(w.drewN m).drewN n=w.drewN (m+n):=by simp[World.drewN,Nat.add_assoc]
theorem zib(w:World)(k:Nat):New w (w.drewN k):=⟨rfl,rfl,rfl,Nat.le_refl _,fun _ _=>rfl⟩
theorem Reads.later{w0 w:World}{A:Option Addr}{n s:Nat}{xs:List Value}(h:Reads w0 w0.heap.size s A n xs)(hb:Below w0.heap.size w0 w):Reads w w.heap.size s A n xs:=(h.below hb).more hb.size
theorem Own.later{w0 w:World}{base:Nat}{e:TypeId}{v:Value}{xs:List Value}(h:Own w0 base e v xs)(hb:Below w0.heap.size w0 w):Own w base e v xs:=h.below hb (Nat.le_refl _)
end Go.Hm
namespace Go.Hm
open Go Go.RowKit Go.WideShapes Go.ChangeShapes Go.Deep
def zcy(l:List (Int × Int)):List Value:=l.flatMap fun p=>[.int .i64 p.1,.int .i64 p.2]
theorem zf9(l:List (Int × Int)):(zcy l).length=l.length*2:=by
 induction l with
 |nil=>rfl
 |cons p l ih=>simp only[zcy,List.flatMap_cons,List.length_append,List.length_cons,List.length_nil] at ih⊢;rw[ih];omega
theorem qab(l:List (Int × Int)):∀i,i<l.length→(zcy l)[i*2]? =some (.int .i64 (l.getD i (0,0)).1)∧(zcy l)[i*2+1]? =some (.int .i64 (l.getD i (0,0)).2):=by
 induction l with
 |nil=>intro i h;simp at h
 |cons p l ih=>
  intro i h
  cases i with
  |zero=>exact⟨rfl,rfl⟩
  |succ i=>
   have:=ih i (by simpa using h);rw[show(i+1)*2=i*2+1+1 by omega];exact this
theorem Reads.lenP{w:World}{B n:Nat}{A:Option Addr}{l:List (Int × Int)}(h:Reads w B 2 A n (zcy l)):n=l.length:=by
 have:=h.1;rw[zf9] at this;omega
theorem Reads.pair{w:World}{B n i:Nat}{A:Option Addr}{l:List (Int × Int)}(h:Reads w B 2 A n (zcy l))(hi:i<n):
 ∃ad,A=some ad∧ad.block<B∧w.cell? (ad.add (i*2))=some (.int .i64 (l.getD i (0,0)).1)∧w.cell? (ad.add (i*2+1))=some (.int .i64 (l.getD i (0,0)).2):=by
 obtain⟨ad,e,hb,hc⟩:=h.2 (by omega);have hl:=h.lenP;obtain⟨h1,h2⟩:=qab l i (by omega);exact⟨ad,e,hb,hc _ _ h1,hc _ _ h2⟩
end Go.Hm
namespace Go.Hm
open Go Go.RowKit
theorem zge{W1 W2:World}{base:Nat}{e e':TypeId}{u v:Value}{xs ys:List Value}(h2:Own W2 W1.heap.size e u xs)(h1:Own W1 base e' v ys):u.ownBlock=none∨u.ownBlock≠v.ownBlock:=by
 rcases hu:u.ownBlock with _|k
 ·exact .inl rfl
 ·refine .inr fun e=>?_
  have a:=(h2.lt k hu).1;have b:=(h1.lt k e.symm).2;omega
theorem zii{W:World}{base:Nat}{e:TypeId}{u v v':Value}{xs:List Value}(h:u.ownBlock=none∨u.ownBlock≠v.ownBlock)(d:v'.ownBlock=v.ownBlock∨∃g,v'.ownBlock=some g∧W.heap.size≤g)(k:Own W base e u xs):u.ownBlock=none∨u.ownBlock≠v'.ownBlock:=by
 rcases hu:u.ownBlock with _|g
 ·exact .inl rfl
 ·right
  rcases d with d|⟨g',d,hg⟩
  ·rw[d,←hu]
   rcases h with h|h
   ·rw[hu] at h;cases h
   ·exact h
  ·rw[d]
   intro e;injection e with e;have:=(k.lt g hu).2;omega
theorem zfr{u v:Value}(h:u.ownBlock=none∨u.ownBlock≠v.ownBlock):v.ownBlock=none∨v.ownBlock≠u.ownBlock:=by
 rcases hv:v.ownBlock with _|k
 ·exact .inl rfl
 ·refine .inr fun e=>?_
  rcases h with h|h
  ·rw[h] at e;cases e
  ·exact h (by rw[hv,e])
end Go.Hm
namespace Go.Hm
open Go.RowKit
section
variable{P:Program}{ops:Array Oper}{Q:Exit→Act→World→Prop}{md:Region.Mode}{S:World→Prop}{t0:Nat}
def zkl(P:Program)(md:Region.Mode)(ops:Array Oper)(Q:Exit→Act→World→Prop)(t0:Nat)(S:World→Prop):Nat→Array Bool→Act→World→Prop
 |0,listed,a,w=>Region.ready md ops listed=[]∧Q .normal a w
 |fuel+1,listed,a,w=>(Region.ready md ops listed=[]→Q .normal a w)∧
  ∀i∈Region.ready md ops listed,wpOp P ops Q i (fun a' w'=>((listed.setIfInBounds i true).getD t0 false=true∨S w')∧zkl P md ops Q t0 S fuel (listed.setIfInBounds i true) a' w') a w
theorem zlh:∀(fuel:Nat) (listed:Array Bool) (a:Act) (w:World),zkl P md ops Q t0 S fuel listed a w→wpAny P md ops Q fuel listed a w
 |0,_,_,_,h=>h
 |fuel+1,_,_,_,h=>⟨h.1,fun i hi=>wpOp_mono (fun a' w' h'=>zlh fuel _ a' w' h'.2) (h.2 i hi)⟩
theorem zcs{l:Array Bool}{i t:Nat}(h:l.getD t false=true):(l.setIfInBounds i true).getD t false=true:=by
 rw[Array.getD_eq_getD_getElem?] at h⊢;rw[Array.getElem?_setIfInBounds];split
 ·split
  ·rfl
  ·rename_i e h2;subst e;rw[Array.getElem?_eq_none (by omega)] at h;simp at h
 ·exact h
theorem zjk{l:Array Bool}{i t:Nat}(hne:i≠t):(l.setIfInBounds i true).getD t false=l.getD t false:=by
 rw[Array.getD_eq_getD_getElem?,Array.getD_eq_getD_getElem?,Array.getElem?_setIfInBounds,if_neg hne]
theorem zhv{S':World→Prop}:∀(fuel:Nat) (listed:Array Bool) (a:Act) (w:World),(listed.getD t0 false=true∨∀w,S w→S' w)→zkl P md ops Q t0 S fuel listed a w→zkl P md ops Q t0 S' fuel listed a w
 |0,_,_,_,_,hh=>hh
 |fuel+1,listed,_,_,h,hh=>⟨hh.1,fun i hi=>wpOp_mono (fun a' w' h'=>⟨by
  rcases h with h|h
  ·exact .inl (zcs h)
  ·exact h'.1.imp id (h w'),zhv fuel _ a' w' (h.imp zcs id) h'.2⟩) (hh.2 i hi)⟩
theorem zub{i:Nat}{oi:Oper}{v:Value}(hi:ops[i]? =some oi)(hit:i≠t0)(hsel:∀(j:Nat) (o:Oper) cs b,ops[j]? =some o→o.op≠ .select cs b)
 (hQ:∀c a w,Q (.panic c) (a.put oi.dst v) w→Q (.panic c) a w)(V:World→Prop)
 (hV:(∀w,V w)∨((∀w,S w→V w)∧∃ot,ops[t0]? =some ot∧∃e∈ot.after,Region.binds md e=true∧e.on=i)):
 ∀(fuel:Nat) (listed:Array Bool) (a:Act) (w:World),
  (∀j oj,ops[j]? =some oj→j≠i→listed.getD j true=false→(∀e∈oj.after,Region.binds md e=true→e.on≠i)→oi.apart ops oj=true)→
  i∈Region.ready md ops listed→YieldsIf P ops V oi v a→(listed.getD t0 false=true∨S w)→((∀w,V w)∨listed.getD t0 false=false)→
  zkl P md ops Q t0 S fuel (listed.setIfInBounds i true) (a.put oi.dst v) w→zkl P md ops Q t0 S (fuel+1) listed a w:=by
 have hVw:∀(listed:Array Bool) (w:World),(listed.getD t0 false=true∨S w)→((∀w,V w)∨listed.getD t0 false=false)→V w:=by
  intro listed w hS ht;rcases ht with ht|ht
  ·exact ht w
  ·rcases hS with hS|hS
   ·rw[ht] at hS;cases hS
   ·rcases hV with hV|hV
    ·exact hV w
    ·exact hV.1 w hS
 intro fuel
 induction fuel with
 |zero=>
  intro listed a w _ hr hy hS ht H;refine⟨fun h=>(by rw[h] at hr;cases hr),fun j hj=>?_⟩;by_cases hji:j=i
  ·subst hji
   exact hy.wpOp hi (hVw listed w hS ht) ⟨hS.imp zcs id,H⟩
  ·have:=ready_mono hj hji
   rw[H.1] at this;cases this
 |succ fuel ih=>
  intro listed a w hfree hr hy hS ht H;refine⟨fun h=>(by rw[h] at hr;cases hr),fun j hj=>?_⟩;by_cases hji:j=i
  ·subst hji
   exact hy.wpOp hi (hVw listed w hS ht) ⟨hS.imp zcs id,H⟩
  ·have h1:=H.2 j (ready_mono hj hji)
   obtain⟨hjun,oj,hoj,hall⟩:=mem_ready.1 hj
   have hnot:∀e∈oj.after,Region.binds md e=true→e.on≠i:=fun e he hb heq=>by
    have h1:=hall e he hb;have h0:=(mem_ready.1 hr).1;rw[heq] at h1;rcases Nat.lt_or_ge i listed.size with h'|h'
    ·simp[h'] at h0 h1;rw[h0] at h1;cases h1
    ·simp[Array.getElem?_eq_none h'] at h1
   have h2:=wpOp_putIf hoj (hfree j oj hoj hji hjun hnot) (fun cs b=>hsel i oi cs b hi) (fun cs b=>hsel j oj cs b hoj) hQ hy h1
   have hfree':∀k ok,ops[k]? =some ok→k≠i→(listed.setIfInBounds j true).getD k true=false→
    (∀e∈ok.after,Region.binds md e=true→e.on≠i)→oi.apart ops ok=true:=fun k ok hk hki hun hno=>by
    refine hfree k ok hk hki ?_ hno;by_cases hjk:j=k
    ·subst hjk;exact hjun
    ·rw[getD_set_ne true hjk] at hun;exact hun
   have ht':(∀w,V w)∨(listed.setIfInBounds j true).getD t0 false=false:=by
    rcases hV with hV|⟨_,ot,hot,e,he,hb,heq⟩
    ·exact .inl hV
    ·refine ht.imp id fun ht=>?_
     have hjt:j≠t0:=by
      rintro rfl;rw[hoj] at hot;injection hot with hot;subst hot;exact hnot e he hb heq
     rw[zjk hjt];exact ht
   refine wpOp_mono (fun a' w' h3=>?_) h2
   have hS':(listed.setIfInBounds j true).getD t0 false=true∨S w':=by
    refine h3.2.1.imp (fun h4=>?_) id;rw[Array.setIfInBounds_comm _ _ (fun e=>hji e.symm),zjk hit] at h4;exact h4
   refine⟨hS',ih (listed.setIfInBounds j true) a' w' hfree' (ready_mono hr (Ne.symm hji)) h3.1 hS' ht' ?_⟩;rw[Array.setIfInBounds_comm _ _ hji];exact h3.2.2
theorem zob{i:Nat}{oi:Oper}{v:Value}{fuel:Nat}{listed:Array Bool}{a:Act}{w:World}(V:World→Prop)(hi:ops[i]? =some oi)(hit:i≠t0)
 (hs:Region.noSelect ops=true)(hf:Region.free md ops listed i=true)(hr:(Region.ready md ops listed).contains i=true)
 (hQ:∀c a w,Q (.panic c) (a.put oi.dst v) w→Q (.panic c) a w)
 (hV:(∀w,V w)∨((∀w,S w→V w)∧∃ot,ops[t0]? =some ot∧∃e∈ot.after,Region.binds md e=true∧e.on=i))
 (hy:YieldsIf P ops V oi v a)(hS:listed.getD t0 false=true∨S w)(ht:(∀w,V w)∨listed.getD t0 false=false)
 (h:zkl P md ops Q t0 S fuel (listed.setIfInBounds i true) (a.put oi.dst v) w):zkl P md ops Q t0 S (fuel+1) listed a w:=
 zub hi hit (Region.noSelect_spec hs) hQ V hV fuel listed a w (Region.free_spec hi hf) (by simpa using hr) hy hS ht h
def z5a(md:Region.Mode)(ops:Array Oper)(t0 i:Nat):Bool:=match ops[t0]? with
 |some ot=>ot.after.any fun e=>Region.binds md e&&e.on==i
 |none=>false
def zpz(ops:Array Oper)(t0:Nat):Array Bool→List (Nat × Nat)→Bool
 |listed,[]=>(Region.ready .any ops listed).isEmpty
 |listed,(0,i)::r=>(Region.ready .any ops listed).contains i&&(Region.free .any ops listed i&&(z5a .any ops t0 i&&(decide (i≠t0)&&(!listed.getD t0 false&&zpz ops t0 (listed.setIfInBounds i true) r))))
 |listed,(1,i)::r=>(Region.ready .any ops listed).contains i&&(Region.free .any ops listed i&&(decide (i≠t0)&&zpz ops t0 (listed.setIfInBounds i true) r))
 |listed,(_,i)::r=>decide (Region.ready .any ops listed=[i])&&zpz ops t0 (listed.setIfInBounds i true) r
def zkm(P:Program)(ops:Array Oper)(R:World→World→Prop)(Q:Exit→Act→World→Prop)(t0:Nat):List (Nat × Nat)→Bool→Act→World→Prop
 | [],_,a,w=>Q .normal a w
 |(0,i)::r,d,a,w=>∃o v,ops[i]? =some o∧((Region.wanted o (yielded ops a.tmps)=true∧∀w',R w w'→(execOp a.eval o).run P w'= .ok (.value v) w')∨(Region.wanted o (yielded ops a.tmps)=false∧v=undef))∧zkm P ops R Q t0 r d (a.put o.dst v) w
 |(1,i)::r,d,a,w=>∃o v,ops[i]? =some o∧((Region.wanted o (yielded ops a.tmps)=true∧∀w',(execOp a.eval o).run P w'= .ok (.value v) w')∨(Region.wanted o (yielded ops a.tmps)=false∧v=undef))∧zkm P ops R Q t0 r d (a.put o.dst v) w
 |(_,i)::r,d,a,w=>∃o,ops[i]? =some o∧if Region.wanted o (yielded ops a.tmps) then o.wp P a w (fun a' w'=>(d=true∨i=t0∨R w w')∧zkm P ops R Q t0 r (d||i==t0) a' w') (NoPanic Q) else zkm P ops R Q t0 r (d||i==t0) (a.put o.dst undef) w
variable{R:World→World→Prop}
theorem zw2{i:Nat}(h:z5a md ops t0 i=true):∃ot,ops[t0]? =some ot∧∃e∈ot.after,Region.binds md e=true∧e.on=i:=by
 unfold z5a at h;split at h
 ·rename_i ot hot
  rw[Array.any_eq_true] at h;obtain⟨j,hj,h⟩:=h;simp only[Bool.and_eq_true,beq_iff_eq] at h;exact⟨ot,hot,ot.after[j],Array.getElem_mem hj,h.1,h.2⟩
 ·cases h
theorem zmc(hrefl:∀w,R w w)(htrans:∀{x y z},R x y→R y z→R x z)(hs:Region.noSelect ops=true):
 ∀(ord:List (Nat × Nat)) (fuel:Nat) (listed:Array Bool) (d:Bool) (a:Act) (w:World),(d=true→listed.getD t0 false=true)→(∀i∈ord.map (·.2),i<listed.size)→ord.length≤fuel→zpz ops t0 listed ord=true→zkm P ops R Q t0 ord d a w→zkl P .any ops (NoPanic Q) t0 (R w) fuel listed a w:=by
 intro ord
 induction ord with
 |nil=>
  intro fuel listed d a w _ _ _ hok h
  have hr:Region.ready .any ops listed=[]:=by simpa[zpz] using hok
  cases fuel with
  |zero=>exact⟨hr,NoPanic.normal h⟩
  |succ fuel=>exact⟨fun _=>NoPanic.normal h,by rw[hr];simp⟩
 |cons x r ih=>
  obtain⟨b,i⟩:=x;intro fuel listed d a w hd hsz hl hok h;obtain⟨fuel,rfl⟩:∃k,fuel=k+1:=⟨fuel-1,by simp at hl;omega⟩
  have hl':r.length≤fuel:=by simp at hl;omega
  have hsz':∀k∈r.map (·.2),k<(listed.setIfInBounds i true).size:=fun k hk=>by rw[Array.size_setIfInBounds];exact hsz k (by simp at hk⊢;exact .inr hk)
  have hi0:i<listed.size:=hsz i (by simp)
  match b with
  |0=>
   obtain⟨o,v,ho,hv,hr⟩:=h;simp only[zpz,Bool.and_eq_true,decide_eq_true_eq,Bool.not_eq_true'] at hok;obtain⟨h1,h2,h3,h4,h5,h6⟩:=hok;exact zob (R w) ho h4 hs h2 h1 (fun _ _ _ hp=>hp) (.inr ⟨fun _ hh=>hh,zw2 h3⟩) hv (.inr (hrefl w)) (.inr h5) (ih fuel _ d _ w (fun e=>zcs (hd e)) hsz' hl' h6 hr)
  |1=>
   obtain⟨o,v,ho,hv,hr⟩:=h;simp only[zpz,Bool.and_eq_true,decide_eq_true_eq] at hok;obtain⟨h1,h2,h3,h4⟩:=hok;exact zob (fun _=>True) ho h3 hs h2 h1 (fun _ _ _ hp=>hp) (.inl fun _=>trivial) (hv.imp (fun hh=>⟨hh.1,fun w' _=>hh.2 w'⟩) id) (.inr (hrefl w)) (.inl fun _=>trivial) (ih fuel _ d _ w (fun e=>zcs (hd e)) hsz' hl' h4 hr)
  |b+2=>
   obtain⟨o,ho,hc⟩:=h;simp only[zpz,Bool.and_eq_true,decide_eq_true_eq] at hok;obtain⟨h1,h3⟩:=hok;refine⟨fun h0=>(by rw[h1] at h0;cases h0),fun j hj=>?_⟩;rw[h1] at hj
   obtain rfl:j=i:=by simpa using hj
   have hd':(d||j==t0)=true→(listed.setIfInBounds j true).getD t0 false=true:=by
    intro e;rw[Bool.or_eq_true,beq_iff_eq] at e;rcases e with e|rfl
    ·exact zcs (hd e)
    ·rw[Array.getD_eq_getD_getElem?,Array.getElem?_setIfInBounds,if_pos rfl,if_pos hi0];rfl
   unfold wpOp;simp only[ho];split
   ·rename_i hw
    rw[if_pos hw] at hc;refine .inl (Oper.wp_mono (fun a' w' hh=>?_) hc);obtain⟨hR,hh⟩:=hh;have hI:=ih fuel _ _ a' w' hd' hsz' hl' h3 hh;by_cases ht:(listed.setIfInBounds j true).getD t0 false=true
    ·exact⟨.inl ht,zhv fuel _ a' w' (.inl ht) hI⟩
    ·have hR':R w w':=by
      rcases hR with hR|hR|hR
      ·exact absurd (zcs (hd hR)) ht
      ·exact absurd (hd' (by simp[hR])) ht
      ·exact hR
     exact⟨.inr hR',zhv fuel _ a' w' (.inr fun z hz=>htrans hR' hz) hI⟩
   ·rename_i hw
    rw[if_neg hw] at hc;exact⟨.inr (hrefl w),ih fuel _ _ _ w hd' hsz' hl' h3 hc⟩
theorem zdu{id:Nat}{a:Act}{w:World}(R:World→World→Prop)(t0:Nat)(ord:List (Nat × Nat))(hrefl:∀w,R w w)(htrans:∀{x y z},R x y→R y z→R x z)(hm:P.follows .mixedOrders=true)
 (hs:Region.noSelect ops=true)(hl:(decide (ord.length≤ops.size)&&ord.all fun x=>decide (x.2<ops.size))=true)(hok:zpz ops t0 (Array.replicate ops.size false) ord=true)(h:zkm P ops R Q t0 ord false a w.drew):(Code.region id ops true).wp P Q a w:=by
 simp only[Bool.and_eq_true,decide_eq_true_eq,List.all_eq_true] at hl;refine wp_region_noPanic (wp_region_any hm (zlh _ _ _ _ (zmc hrefl htrans hs ord ops.size _ false a _ (by simp) ?_ hl.1 hok h)));intro i hi;simp only[List.mem_map] at hi;obtain⟨x,hx,rfl⟩:=hi;rw[Array.size_replicate];exact hl.2 x hx
variable{i:Nat}{r:List (Nat × Nat)}{a:Act}{w:World}{d:Bool}{v:Value}
theorem zhw(h:Q .normal a w):zkm P ops R Q t0 [] d a w:=h
section
variable{dst:Option Tmp}{op:Op}{ty:TypeId}{pos:String}{af:Array Edge}{gd:Option (Nat × Bool)}
theorem zd4(ho:ops[i]? =some ⟨dst,op,ty,pos,af,gd⟩)(hw:Region.wanted ⟨dst,op,ty,pos,af,gd⟩ (yielded ops a.tmps)=true)(hv:∀w',R w w'→(execOp a.eval ⟨dst,op,ty,pos,af,gd⟩).run P w'= .ok (.value v) w')(h:zkm P ops R Q t0 r d (a.put dst v) w):zkm P ops R Q t0 ((0,i)::r) d a w:=
 ⟨_,v,ho,.inl ⟨hw,hv⟩,h⟩
theorem zct(ho:ops[i]? =some ⟨dst,op,ty,pos,af,gd⟩)(hw:Region.wanted ⟨dst,op,ty,pos,af,gd⟩ (yielded ops a.tmps)=true)(hv:∀w',(execOp a.eval ⟨dst,op,ty,pos,af,gd⟩).run P w'= .ok (.value v) w')(h:zkm P ops R Q t0 r d (a.put dst v) w):zkm P ops R Q t0 ((1,i)::r) d a w:=
 ⟨_,v,ho,.inl ⟨hw,hv⟩,h⟩
theorem zbk(ho:ops[i]? =some ⟨dst,op,ty,pos,af,gd⟩)(hw:Region.wanted ⟨dst,op,ty,pos,af,gd⟩ (yielded ops a.tmps)=true)(h:∀K:Act→World→Prop,(∀a' w',(d=true∨i=t0∨R w w')→zkm P ops R Q t0 r (d||i==t0) a' w'→K a' w')→Oper.wp P ⟨dst,op,ty,pos,af,gd⟩ a w K (NoPanic Q)):zkm P ops R Q t0 ((2,i)::r) d a w:=
 ⟨_,ho,by rw[if_pos hw];exact h _ fun _ _ h1 h2=>⟨h1,h2⟩⟩
end
end
section
variable{P:Program}{o:Oper}{a:Act}{Q:Exit→Act→World→Prop}{K:Act→World→Prop}
theorem zkn{w:World}{t e:TypeId}{z:Value}{bytes:Nat}(E:ElT P t e z 1 bytes)(s x:Operand)
 (ho:o.op= .call {callee:= .builtin .append,args:= #[s,x],argTypes:= #[t,t]})
 {W:World}{B base m c:Nat}{v:Value}{xs news:List Value}{ad:Addr}(hown:Own w base e v xs)(hr:Reads w w.heap.size 1 (some ad) m news)(hm0:0<m)(hs:a.eval s=v)(hx:a.eval x= .slice (some ad) m c)
 (hb:Below B W w)(hbB:B≤base)(hbase:base≤w.heap.size)(h1:∀u∈news,u.oneCell'=true)
 (hn:(xs.length+m)*bytes≤140737488355328)(hm:xs.length+m≤maxLen)
 (h:∀A' c' w',xs.length+m≤c'→c'≤maxLen→Own w' base e (.slice A' (xs.length+m) c') (xs++news)→w.grownBy w' v.ownBlock→Below B W w'→K (a.put o.dst (.slice A' (xs.length+m) c')) w'):
 Oper.wp P o a w K Q:=by
 obtain⟨i,hi,hz0,hz1,hz2⟩:=info_parts E.hi
 have hl:news.length=m:=by have:=hr.1;omega
 have hcells:∀j u,news[j]? =some u→w.cell? (ad.add j)=some u:=by
  intro j u hu;obtain⟨ad',h',_,hc⟩:=hr.2 hm0;injection h' with h';subst h';exact hc j u hu
 obtain⟨v',w',hr',hown',hg,_,_⟩:=run_append_own_at (P:=P) w base t o.type e i z 1 bytes E.ht hi hz0 hz1 hz2 E.hz (by omega) v xs.length xs hown ad m c news (by omega) hcells h1 hm hn hbase
 have hxl:(xs++news).length=xs.length+m:=by simp[hl]
 have hown2:Own w' base e v' (xs++news):=by unfold Own;rw[hxl];exact hown'
 obtain⟨A',c',rfl,hc1,hc2⟩:=hown2.slice;rw[hxl] at hc1 hown2 hr';unfold Oper.wp execOp;simp only[ho,resolve,invoke,builtin,Sem.run_bind,Sem.run_pure,Result.andThen_ok,List.map_toArray,List.map_cons,List.map_nil,hs,hx,hr'];exact h A' c' w' hc1 hc2 hown2 hg (hb.grown hg (Nat.le_trans hbB hbase) (fun k hk=>by have:=(hown.lt k hk).1;omega))
end
end Go.Hm
namespace Go.Hm
open Ieee
theorem dbl:Ieee.double.fractionBits=52∧Ieee.double.exponentBits=11:=⟨rfl,rfl⟩
theorem zko:Ieee.double.leastPlace= -1074:=by decide
theorem zqo:Ieee.double.binade=4503599627370496:=by decide
theorem z5r:Ieee.double.infRung=9218868437227405312:=by decide
theorem zzg:Ieee.double.signWeight=9223372036854775808:=by decide
theorem zod(way:Toward)(neg:Bool)(n d:Nat):way.cut neg (n*2^d) d=n:=by
 by_cases h0:n=0
 ·subst h0
  unfold Toward.cut;simp only[Nat.zero_mul,Nat.zero_div,Nat.zero_mod];cases way<;> simp
 ·have hl:d≤(n*2^d).log2:=by
   rw[Nat.le_log2 (by have:=Nat.two_pow_pos d;exact Nat.mul_ne_zero h0 (by omega))];exact Nat.le_mul_of_pos_left _ (by omega)
  have hm:min d ((n*2^d).log2+2)=d:=Nat.min_eq_left (by omega);unfold Toward.cut;simp only[hm,Nat.one_shiftLeft,Nat.mul_div_cancel _ (Nat.two_pow_pos d),Nat.mul_mod_left];have hp:=Nat.two_pow_pos d;cases way<;> simp<;> omega
theorem zuj{n:Nat}(h:n≠0)(k:Nat):(n*2^k).log2=n.log2+k:=by
 have hp:=Nat.two_pow_pos k
 have h1:2^(n.log2+k)≤n*2^k:=by
  rw[Nat.pow_add];exact Nat.mul_le_mul_right _ (Nat.log2_self_le h)
 have h2:n*2^k<2^(n.log2+k+1):=by
  rw[show n.log2+k+1=(n.log2+1)+k by omega,Nat.pow_add];exact Nat.mul_lt_mul_of_pos_right (Nat.lt_log2_self) hp
 have hne:n*2^k≠0:=Nat.mul_ne_zero h (by omega);have a1:=(Nat.le_log2 hne).2 h1;have a2:=(Nat.log2_lt hne).2 h2;omega
theorem zuk(f:Format)(s:Bool)(R:Nat)(hR:R<f.signWeight):f.read (f.word s R)=
 if R<f.binade then .number s R f.leastPlace
 else if R<f.infRung then .number s (f.binade+R%f.binade) (f.leastPlace+(R/f.binade-1:Nat))
 else if R=f.infRung then .infinity s else .nan s (R-f.infRung):=by
 have h1:(f.word s R/f.signWeight%2==1)=s:=by
  unfold Format.word
  cases s with
  |false=>
   rw[if_neg (by simp),Nat.div_eq_of_lt hR];rfl
  |true=>
   rw[if_pos rfl,Nat.add_div_left _ (by omega),Nat.div_eq_of_lt hR];rfl
 have h2:f.word s R%f.signWeight=R:=by
  unfold Format.word
  cases s with
  |false=>rw[if_neg (by simp),Nat.mod_eq_of_lt hR]
  |true=>rw[if_pos rfl,Nat.add_mod_left,Nat.mod_eq_of_lt hR]
 unfold Format.read;simp only[h1,h2]
theorem zul(s:Bool)(n k:Nat)(hn:n<9007199254740992):∃k':Nat,Ieee.double.read (Ieee.double.nearest s (n*2^k) (-(k:Int)))= .number s (n*2^k') (-(k':Int)):=by
 by_cases h0:n=0
 ·subst h0
  obtain⟨j,hj⟩:∃j:Nat,Ieee.double.leastPlace= -(j:Int):=⟨1074,by rw[zko];rfl⟩;refine⟨j,?_⟩;rw[Nat.zero_mul,Nat.zero_mul,Format.nearest,if_pos rfl,zuk _ _ _ (by rw[zzg];omega),if_pos (by rw[zqo];omega),hj]
 ·have hp:=Nat.two_pow_pos k
  have hne:n*2^k≠0:=Nat.mul_ne_zero h0 (by omega)
  have hlog:n.log2≤52:=by
   have:=(Nat.log2_lt h0).2 (show n<2^53 by omega);omega
  have e1:(-(k:Int))+((n*2^k).log2:Nat)-(52:Nat)=(n.log2:Int)-52:=by rw[zuj h0];omega
  obtain⟨d,hd⟩:∃d,d=52-n.log2:=⟨_,rfl⟩
  have hlast:max ((-(k:Int))+((n*2^k).log2:Nat)-(Ieee.double.fractionBits:Nat)) Ieee.double.leastPlace= -(d:Int):=by
   rw[dbl.1,e1,zko];omega
  have hkept:Toward.even.cut s ((n*2^k) <<< ((-(k:Int))- -(d:Int)).toNat) (-(d:Int)- -(k:Int)).toNat=n*2^d:=by
   by_cases hkd:k≤d
   ·rw[show((-(k:Int))- -(d:Int)).toNat=d-k by omega,show(-(d:Int)- -(k:Int)).toNat=0 by omega,Nat.shiftLeft_eq,Nat.mul_assoc,←Nat.pow_add,show k+(d-k)=d by omega]
    have:=zod .even s (n*2^d) 0;rwa[Nat.pow_zero,Nat.mul_one] at this
   ·rw[show((-(k:Int))- -(d:Int)).toNat=0 by omega,show(-(d:Int)- -(k:Int)).toNat=k-d by omega,Nat.shiftLeft_eq,Nat.pow_zero,Nat.mul_one]
    have:=zod .even s (n*2^d) (k-d);rwa[Nat.mul_assoc,←Nat.pow_add,show d+(k-d)=k by omega] at this
  have hlo:4503599627370496≤n*2^d:=by
   have:=Nat.mul_le_mul_right (2^d) (Nat.log2_self_le h0);rw[←Nat.pow_add,show n.log2+d=52 by omega] at this;exact Nat.le_trans (by decide) this
  have hhi:n*2^d<9007199254740992:=by
   have:=Nat.mul_lt_mul_of_pos_right (Nat.lt_log2_self (n:=n)) (Nat.two_pow_pos d);rw[←Nat.pow_add,show n.log2+1+d=53 by omega] at this;exact Nat.lt_of_lt_of_le this (by decide)
  refine⟨d,?_⟩
  have hd2:d≤52:=by omega
  have hw:Ieee.double.nearest s (n*2^k) (-(k:Int))=Ieee.double.word s (min ((-(d:Int)-Ieee.double.leastPlace).toNat*Ieee.double.binade+n*2^d) Ieee.double.infRung):=by
   unfold Format.nearest;rw[if_neg hne];simp only[hlast,hkept]
  clear hlast hkept hlog e1 hd hne hp h0 hn;generalize Ieee.double.nearest s (n*2^k) (-(k:Int))=V at*;generalize n*2^d=K at*;rw[hw,zuk _ _ _ (by rw[zzg,z5r];omega)]
  have e2:(-(d:Int)-Ieee.double.leastPlace).toNat=1074-d:=by rw[zko];omega
  rw[e2,zqo,z5r,zko];generalize hm:1074-d=m
  have hm2:m≤1074∧1022≤m:=by omega
  have hr:min (m*4503599627370496+K) 9218868437227405312=m*4503599627370496+K:=Nat.min_eq_left (by omega);rw[hr]
  have r1: ¬m*4503599627370496+K<4503599627370496:=by omega
  have r2:m*4503599627370496+K<9218868437227405312:=by omega
  have r3:4503599627370496+(m*4503599627370496+K)%4503599627370496=K:=by omega
  have r4:(m*4503599627370496+K)/4503599627370496-1=m:=by omega
  have r5:(-1074:Int)+(m:Int)= -(d:Int):=by omega
  rw[if_neg r1,if_pos r2,r3,r4,r5]
def RepD(x:Int)(d:Datum):Prop:=∃(s:Bool) (k:Nat),d= .number s (x.natAbs*2^k) (-(k:Int))∧(x≠0→s=decide (x<0))
def Rep(x:Int)(b:Nat):Prop:=RepD x (Ieee.double.read b)
theorem zlj{s:Bool}{x:Int}(h:x≠0→s=decide (x<0))(k u:Nat):Ieee.signed s (x.natAbs*2^k) u=x*((2^(k+u):Nat):Int):=by
 have e:(x.natAbs*2^k) <<< u=x.natAbs*2^(k+u):=by rw[Nat.shiftLeft_eq,Nat.mul_assoc,←Nat.pow_add]
 unfold Ieee.signed;rw[e];generalize 2^(k+u)=p;by_cases h0:x=0
 ·subst h0
  cases s<;> simp
 ·by_cases hx:x<0
  ·rw[h h0,decide_eq_true hx,if_pos rfl,Int.natCast_mul,show((x.natAbs:Nat):Int)= -x by omega,Int.neg_mul,Int.neg_neg]
  ·rw[h h0,decide_eq_false hx,if_neg (by simp),Int.natCast_mul,show((x.natAbs:Nat):Int)=x by omega]
theorem RepD.write{x:Int}{d:Datum}(h:RepD x d)(hx:x.natAbs<9007199254740992):Rep x (Ieee.double.write d):=by
 obtain⟨s,k,rfl,hs⟩:=h;obtain⟨j,hj⟩:=zul s x.natAbs k hx;exact⟨s,j,hj,hs⟩
theorem RepD.opposite{x:Int}{d:Datum}(h:RepD x d):RepD (-x) d.opposite:=by
 obtain⟨s,k,rfl,hs⟩:=h;refine⟨!s,k,?_,fun h0=>?_⟩
 ·rw[Int.natAbs_neg]
  rfl
 ·rw[hs (by omega)]
  by_cases hx:x<0
  ·rw[decide_eq_true hx,decide_eq_false (by omega)]
   rfl
  ·rw[decide_eq_false hx,decide_eq_true (by omega)]
   rfl
theorem RepD.product{x y:Int}{d e:Datum}(h:RepD x d)(h2:RepD y e):∃r,d.product e=some r∧RepD (x*y) r:=by
 obtain⟨s,k,rfl,hs⟩:=h;obtain⟨t,j,rfl,ht⟩:=h2;refine⟨_,rfl,s ^^ t,k+j,?_,fun h0=>?_⟩
 ·rw[Int.natAbs_mul,Nat.pow_add]
  congr 1
  ·generalize 2^k=p
   generalize 2^j=q;simp only[Nat.mul_assoc,Nat.mul_left_comm,Nat.mul_comm]
  ·omega
 ·have hx:x≠0:=by rintro rfl;simp at h0
  have hy:y≠0:=by rintro rfl;simp at h0
  rw[hs hx,ht hy];rcases Int.lt_or_gt_of_ne hx with hx|hx<;> rcases Int.lt_or_gt_of_ne hy with hy|hy
  ·have:=Int.mul_pos_of_neg_of_neg hx hy
   simp[hx,hy];omega
  ·have:=Int.mul_neg_of_neg_of_pos hx hy
   simp[hx,this];omega
  ·have:=Int.mul_neg_of_pos_of_neg hx hy
   simp[hy,this];omega
  ·have:=Int.mul_pos hx hy
   have a1: ¬x<0:=by omega
   have a2: ¬y<0:=by omega
   have a3: ¬x*y<0:=by omega
   simp[a1,a2,a3]
theorem RepD.sum{x y:Int}{d e:Datum}(h:RepD x d)(h2:RepD y e):∃r,d.sum e=some r∧RepD (x+y) r:=by
 obtain⟨s,k,rfl,hs⟩:=h;obtain⟨t,j,rfl,ht⟩:=h2;obtain⟨m,hm⟩:∃m,m=max k j:=⟨_,rfl⟩
 have hb:min (-(k:Int)) (-(j:Int))= -(m:Int):=by omega
 have hk:k+(-(k:Int)- -(m:Int)).toNat=m:=by omega
 have hj:j+(-(j:Int)- -(m:Int)).toNat=m:=by omega
 have ht:Ieee.signed s (x.natAbs*2^k) (-(k:Int)- -(m:Int)).toNat+Ieee.signed t (y.natAbs*2^j) (-(j:Int)- -(m:Int)).toNat=(x+y)*((2^m:Nat):Int):=by
  rw[zlj hs,zlj ht,hk,hj,Int.add_mul]
 have hp:0<2^m:=Nat.two_pow_pos m;refine⟨_,rfl,?_⟩;simp only[hb,ht];generalize x+y=z;refine⟨if z*((2^m:Nat):Int)=0 then s&&t else decide (z*((2^m:Nat):Int)<0),m,?_,fun h0=>?_⟩
 ·rw[Int.natAbs_mul,Int.natAbs_natCast]
 ·have hz: ¬z*((2^m:Nat):Int)=0:=by
   rw[Int.mul_eq_zero];rintro(hh|hh)
   ·exact h0 hh
   ·omega
  rw[if_neg hz]
  have hp2:(0:Int)<((2^m:Nat):Int):=by omega
  generalize((2^m:Nat):Int)=p at*
  congr 1
  rw[eq_iff_iff];constructor
  ·intro hh
   exact Classical.byContradiction fun hn=>by
    have:=Int.mul_nonneg (show 0≤z by omega) (show 0≤p by omega);omega
  ·intro hh
   exact Int.mul_neg_of_neg_of_pos hh hp2
theorem RepD.toInt{x:Int}{d:Datum}(h:RepD x d):d.toInt .zero=some x:=by
 obtain⟨s,k,rfl,hs⟩:=h
 have e1:(-(k:Int)).toNat=0:=by omega
 have e2:(-(-(k:Int))).toNat=k:=by omega
 have e3:=zlj hs 0 0;rw[Nat.pow_zero,Nat.mul_one] at e3;simp only[Datum.toInt,Datum.integral,e1,e2,Nat.shiftLeft_zero,zod];rw[e3];simp
theorem zum(n:Int)(h:n.natAbs<9007199254740992):Rep n (floatOfInt .f64 n):=by
 have:RepD n (.number (n<0) n.natAbs 0):=⟨decide (n<0),0,by simp,fun _=>rfl⟩;exact this.write h
theorem zsh{x y:Int}{a b:Nat}(h:Rep x a)(h2:Rep y b)(hx:(x*y).natAbs<9007199254740992):∃r,floatBits .mul .f64 a b=some r∧Rep (x*y) r:=by
 obtain⟨r,h3,h4⟩:=RepD.product h h2;exact⟨Ieee.double.write r,by show((Ieee.double.read a).product (Ieee.double.read b)).map Ieee.double.write=_;rw[h3];rfl,h4.write hx⟩
theorem zw9{x y:Int}{a b:Nat}(h:Rep x a)(h2:Rep y b)(hx:(x+y).natAbs<9007199254740992):∃r,floatBits .add .f64 a b=some r∧Rep (x+y) r:=by
 obtain⟨r,h3,h4⟩:=RepD.sum h h2;exact⟨Ieee.double.write r,by show((Ieee.double.read a).sum (Ieee.double.read b)).map Ieee.double.write=_;rw[h3];rfl,h4.write hx⟩
theorem zxa{x y:Int}{a b:Nat}(h:Rep x a)(h2:Rep y b)(hx:(x-y).natAbs<9007199254740992):∃r,floatBits .sub .f64 a b=some r∧Rep (x-y) r:=by
 obtain⟨r,h3,h4⟩:=RepD.sum h (RepD.opposite h2);exact⟨Ieee.double.write r,by show((Ieee.double.read a).sum (Ieee.double.read b).opposite).map Ieee.double.write=_;rw[h3];rfl,h4.write hx⟩
theorem zxb{x:Int}{a:Nat}(h:Rep x a)(hx: -9223372036854775808≤x∧x≤9223372036854775807):floatToIntVal .f64 a .i64=some x:=by
 have h3:(FloatKind.f64.decode a).toInt .zero=some x:=RepD.toInt h;unfold floatToIntVal;rw[h3];exact if_pos hx
def ztq(x y:Int)(a b:Nat):Prop:=Rep x a∧Rep y b
theorem qa8{x y u v:Int}{a b c d:Nat}(h:ztq x y a b)(h2:ztq u v c d)(h3:(x*u).natAbs<9007199254740992)(h4:(y*v).natAbs<9007199254740992)(h5:(x*u-y*v).natAbs<9007199254740992)
 (h6:(x*v).natAbs<9007199254740992)(h7:(y*u).natAbs<9007199254740992)(h8:(x*v+y*u).natAbs<9007199254740992):∃re im,cMulBits a b c d=some (re,im)∧ztq (x*u-y*v) (x*v+y*u) re im:=by
 obtain⟨r1,e1,k1⟩:=zsh h.1 h2.1 h3;obtain⟨r2,e2,k2⟩:=zsh h.2 h2.2 h4;obtain⟨r3,e3,k3⟩:=zxa k1 k2 h5;obtain⟨r4,e4,k4⟩:=zsh h.1 h2.2 h6;obtain⟨r5,e5,k5⟩:=zsh h.2 h2.1 h7;obtain⟨r6,e6,k6⟩:=zw9 k4 k5 h8;exact⟨r3,r6,by simp[cMulBits,e1,e2,e3,e4,e5,e6],k3,k6⟩
theorem qa9{x y u v:Int}{a b c d:Nat}(h:ztq x y a b)(h2:ztq u v c d)(h3:(x+u).natAbs<9007199254740992)(h4:(y+v).natAbs<9007199254740992):∃re im,cSumBits .add .f64 a b c d=some (re,im)∧ztq (x+u) (y+v) re im:=by
 obtain⟨r1,e1,k1⟩:=zw9 h.1 h2.1 h3;obtain⟨r2,e2,k2⟩:=zw9 h.2 h2.2 h4;exact⟨r1,r2,by simp[cSumBits,e1,e2],k1,k2⟩
theorem qba{x y u v:Int}{a b c d:Nat}(h:ztq x y a b)(h2:ztq u v c d)(h3:(x-u).natAbs<9007199254740992)(h4:(y-v).natAbs<9007199254740992):∃re im,cSumBits .sub .f64 a b c d=some (re,im)∧ztq (x-u) (y-v) re im:=by
 obtain⟨r1,e1,k1⟩:=zxa h.1 h2.1 h3;obtain⟨r2,e2,k2⟩:=zxa h.2 h2.2 h4;exact⟨r1,r2,by simp[cSumBits,e1,e2],k1,k2⟩
theorem qbb(f:Format)(b:Nat):f.read (b ^^^ 2^(f.exponentBits+f.fractionBits))=(f.read b).opposite:=by
 have hS:f.signWeight=2^(f.exponentBits+f.fractionBits):=rfl;generalize hn:f.exponentBits+f.fractionBits=n at*;have hp:=Nat.two_pow_pos n
 have h1:((b ^^^ 2^n)/2^n%2==1)= !(b/2^n%2==1):=by
  rw[Nat.xor_div_two_pow,Nat.div_self hp];generalize b/2^n=c
  have e:(c ^^^ 1)%2=(c%2) ^^^ 1:=by
   have:= @Nat.xor_mod_two_pow c 1 1;simpa using this
  rw[e];rcases Nat.mod_two_eq_zero_or_one c with h|h
  ·rw[h]
   rfl
  ·rw[h]
   rfl
 have h2:(b ^^^ 2^n)%2^n=b%2^n:=by
  rw[Nat.xor_mod_two_pow,Nat.mod_self,Nat.xor_zero]
 unfold Format.read;rw[hS];simp only[h1,h2];generalize b%2^n=R;by_cases a1:R<f.binade
 ·rw[if_pos a1,if_pos a1]
  rfl
 ·rw[if_neg a1,if_neg a1]
  by_cases a2:R<f.infRung
  ·rw[if_pos a2,if_pos a2]
   rfl
  ·rw[if_neg a2,if_neg a2]
   by_cases a3:R=f.infRung
   ·rw[if_pos a3,if_pos a3]
    rfl
   ·rw[if_neg a3,if_neg a3]
    rfl
theorem qfp{x:Int}{b:Nat}(h:Rep x b):Rep (-x) (Op.negFloat .f64 b):=by
 have:=RepD.opposite h;rw[←qbb] at this;exact this
theorem z1v(k:FloatKind)(b:Nat):Op.unary .neg (.float k b)=pure (.float k (Op.negFloat k b)):=rfl
theorem z5s{x y:Int}{a b:Nat}(h:ztq x y a b)(hx: -2097152≤x∧x≤2097152)(hy: -2097152≤y∧y≤2097152):∃re im,cMulBits a b a (Op.negFloat .f64 b)=some (re,im)∧floatToIntVal .f64 re .i64=some (x*x+y*y):=by
 have q:∀u v:Int,-2097152≤u∧u≤2097152→ -2097152≤v∧v≤2097152→ -4398046511104≤u*v∧u*v≤4398046511104:=by
  intro u v hu hv
  have h1:(u*v).natAbs≤2097152*2097152:=by
   rw[Int.natAbs_mul];exact Nat.mul_le_mul (by omega) (by omega)
  omega
 have h1:=q x x hx hx;have h2:=q y (-y) hy (by omega);have h3:=q x (-y) hx (by omega);have h4:=q y x hy hx
 have e:y* -y= -(y*y):=by rw[Int.mul_neg]
 obtain⟨re,im,k1,k2⟩:=qa8 h ⟨h.1,qfp h.2⟩ (by omega) (by omega) (by omega) (by omega) (by omega) (by omega);refine⟨re,im,k1,?_⟩;have:=zxb k2.1 (by omega);rw[this,e,Int.sub_neg]
end Go.Hm
