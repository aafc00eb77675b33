/- Merged. -/
import Derived.BigQuiet
import Derived.Test.YtmgfkpnghlmheaaGreatBun4
set_option maxHeartbeats 2000000
namespace Go.Proofs.Y
open Go.RowKit Go.Hm
set_option maxRecDepth 100000 in
theorem z1c{w:World}(x y:Int):
 Calls Tryz.prog 116 #[.agg #[.int .i64 x,.int .i64 y],.int .i64 1048576] w (zap (.bool (inBox x y)) w):=by
 obtain⟨W0,hW0⟩:∃W,W=w.alloc (.cells #[.int .i64 x,.int .i64 y] 59):=⟨_,rfl⟩;have b0:New w W0:=by rw[hW0];exact(Below.refl _ _).alloc (Nat.le_refl _) _
 have B0:Blk W0 w.heap.size 59 #[.int .i64 x,.int .i64 y]:=by rw[hW0];exact Blk.new _ _ _
 obtain⟨x0,x1⟩:=zbe B0;have HO:=Hz (show inBox x y=(decide (-1048576<=x)&&decide (x<=1048576)&&decide (-1048576<=y)&&decide (y<=1048576)) from rfl);generalize inBox x y=O at*;rw[hW0] at x0 x1;clear B0;cases h1:decide (-1048576<=x)<;> cases h2:decide (x<=1048576)<;> cases h3:decide (-1048576<=y)<;> cases h4:decide (y<=1048576);all_goals
  rw[h1,h2,h3,h4] at HO;go_enter Tryz.func116,Tryz.ntmps116
  go_wp2
  go_ret
  exact⟨by rw[HO.out];rfl,by rw[<-hW0];exact b0⟩
set_option maxRecDepth 100000 in
theorem zlo{w:World}(x y:Int):
 Calls Tryz.prog 91 #[.agg #[.int .i64 x,.int .i64 y]] w (zap (.bool (inBox x y)) w):=by
 obtain⟨W0,hW0⟩:∃W,W=w.alloc (.cells #[.int .i64 x,.int .i64 y] 59):=⟨_,rfl⟩;have b0:New w W0:=by rw[hW0];exact(Below.refl _ _).alloc (Nat.le_refl _) _
 have B0:Blk W0 w.heap.size 59 #[.int .i64 x,.int .i64 y]:=by rw[hW0];exact Blk.new _ _ _
 obtain⟨x0,x1⟩:=zbe B0;rw[hW0] at x0 x1;clear B0;go_enter Tryz.func91,Tryz.ntmps91
 go_wp2_with (first
  |(go_at_call 116;refine(z1c x y).mono ?_;rintro e w' ⟨rfl,b1⟩))
 go_ret
 exact⟨rfl,New.trans b0 (by rw[hW0];exact b1)⟩
open Go.RowKit Go.Hm
theorem zw1(w:World)(a b:Obj):New w ((w.alloc a).alloc b):=New.trans ((Below.refl _ _).alloc (Nat.le_refl _) _) ((Below.refl _ _).alloc (Nat.le_refl _) _)
theorem zqc{s:List Nat}:(zad s).toList=[]↔s=[]:=by rw[zfq];simp
set_option maxRecDepth 100000 in
theorem zfj{w:World}{b:Bool}{n:Int}{s:List Nat}{x y:Int}{cn:List Nat}{t:Int}{nu:Bool}(hs:s.length<=140737488351232):
 Calls Tryz.prog 52 #[.agg #[.bool b,.int .i64 n,.string (zad s),.int .i64 x,.int .i64 y],.agg #[.string (zad cn),.int .i64 t,.bool nu]] w (zap (.bool (zac (b,n,s,x,y) t nu)) w):=by
 have z1:=zbh s;generalize hO:zac (b,n,s,x,y) t nu=O;have HO:=Hz hO;have Z:=Hz (zqc (s:=s));clear hO;have B0:=Blk.new w 61 #[.bool b,.int .i64 n,.string (zad s),.int .i64 x,.int .i64 y];have B1:=Blk.new (w.alloc (.cells #[.bool b,.int .i64 n,.string (zad s),.int .i64 x,.int .i64 y] 61)) 70 #[.string (zad cn),.int .i64 t,.bool nu];obtain⟨x0,x1,x2,x3,x4⟩:=zcl (B0.alloc (.cells #[.string (zad cn),.int .i64 t,.bool nu] 70));obtain⟨y0,y1,y2⟩:=zaf B1;clear B0 B1;go_enter Tryz.func52,Tryz.ntmps52
 go_wp2_with (first
  |(go_at_call 91;refine(zlo x y).mono ?_;rintro e w' ⟨rfl,b1⟩))
 all_goals go_ret
 all_goals try refine⟨?_,zw1 w _ _⟩
 all_goals try refine⟨?_,New.trans (zw1 w _ _) (by assumption)⟩
 all_goals
  rw[<-HO.out];have Z:=Z.out;clear x0 x1 x2 x3 x4 y0 y1 y2 HO;simp_all[zac]
 ·by_cases h1:n=1<;> simp[*]
 ·omega
end Go.Proofs.Y
namespace Go.Hm
open Go.RowKit
section
variable{P:Program}{ops:Array Oper}{Q:Exit->Act->World->Prop}{md:Region.Mode}{S:World->Prop}{t0:Nat}
def zkt(P:Program)(md:Region.Mode)(ops:Array Oper)(Q:Exit->Act->World->Prop)(t0:Nat)(S:World->Prop):Nat->Array Bool->Act->World->Prop
 |0,listed,a,w=>Region.ready md ops listed=[]/\Q .normal a w
 |fuel+1,listed,a,w=>(Region.ready md ops listed=[]->Q .normal a w)/\
  ∀i∈Region.ready md ops listed,wpOp P ops Q i (fun a' w'=>((listed.setIfInBounds i true).getD t0 false=true\/S w')/\zkt P md ops Q t0 S fuel (listed.setIfInBounds i true) a' w') a w
theorem zls:∀(fuel:Nat) (listed:Array Bool) (a:Act) (w:World),zkt P md ops Q t0 S fuel listed a w->wpAny P md ops Q fuel listed a w
 |0,_,_,_,h=>h
 |fuel+1,_,_,_,h=>⟨h.1,fun i hi=>wpOp_mono (fun a' w' h'=>zls fuel _ a' w' h'.2) (h.2 i hi)⟩
theorem zcr{l:Array Bool}{i t:Nat}(h:l.getD t false=true):(l.setIfInBounds i true).getD t false=true:=by
 rw[Array.getD_eq_getD_getElem?] at h⊢;rw[Array.getElem?_setIfInBounds];split
 ·split
  ·rfl
  ·rename_i e h2;subst e;rw[Array.getElem?_eq_none (by omega)] at h;simp at h
 ·exact h
theorem zjs{l:Array Bool}{i t:Nat}(hne:i≠t):(l.setIfInBounds i true).getD t false=l.getD t false:=by rw[Array.getD_eq_getD_getElem?,Array.getD_eq_getD_getElem?,Array.getElem?_setIfInBounds,if_neg hne]
theorem zhv{S':World->Prop}:∀(fuel:Nat) (listed:Array Bool) (a:Act) (w:World),(listed.getD t0 false=true\/ ∀w,S w->S' w)->zkt P md ops Q t0 S fuel listed a w->zkt P md ops Q t0 S' fuel listed a w
 |0,_,_,_,_,hh=>hh
 |fuel+1,listed,_,_,h,hh=>⟨hh.1,fun i hi=>wpOp_mono (fun a' w' h'=>⟨by
  rcases h with h|h
  ·exact .inl (zcr h)
  ·exact h'.1.imp id (h w'),zhv fuel _ a' w' (h.imp zcr id) h'.2⟩) (hh.2 i hi)⟩
theorem zug{i:Nat}{oi:Oper}{v:Value}(hi:ops[i]? =some oi)(hit:i≠t0)(hsel:∀(j:Nat) (o:Oper) cs b,ops[j]? =some o->o.op≠ .select cs b)
 (hQ:∀c a w,Q (.panic c) (a.put oi.dst v) w->Q (.panic c) a w)(V:World->Prop)
 (hV:(∀w,V w)\/((∀w,S w->V w)/\ ∃ot,ops[t0]? =some ot/\ ∃e∈ot.after,Region.binds md e=true/\e.on=i)):
 ∀(fuel:Nat) (listed:Array Bool) (a:Act) (w:World),
  (∀j oj,ops[j]? =some oj->j≠i->listed.getD j true=false->(∀e∈oj.after,Region.binds md e=true->e.on≠i)->oi.apart ops oj=true)->
  i∈Region.ready md ops listed->YieldsIf P ops V oi v a->(listed.getD t0 false=true\/S w)->((∀w,V w)\/listed.getD t0 false=false)->
  zkt P md ops Q t0 S fuel (listed.setIfInBounds i true) (a.put oi.dst v) w->zkt P md ops Q t0 S (fuel+1) listed a w:=by
 have hVw:∀(listed:Array Bool) (w:World),(listed.getD t0 false=true\/S w)->((∀w,V w)\/listed.getD t0 false=false)->V w:=by
  intro listed w hS ht;rcases ht with ht|ht
  ·exact ht w
  ·rcases hS with hS|hS
   ·rw[ht] at hS;cases hS
   ·rcases hV with hV|hV
    ·exact hV w
    ·exact hV.1 w hS
 intro fuel;induction fuel with
 |zero=>
  intro listed a w _ hr hy hS ht H;refine⟨fun h=>(by rw[h] at hr;cases hr),fun j hj=>?_⟩;by_cases hji:j=i
  ·subst hji
   exact hy.wpOp hi (hVw listed w hS ht) ⟨hS.imp zcr id,H⟩
  ·have:=ready_mono hj hji
   rw[H.1] at this;cases this
 |succ fuel ih=>
  intro listed a w hfree hr hy hS ht H;refine⟨fun h=>(by rw[h] at hr;cases hr),fun j hj=>?_⟩;by_cases hji:j=i
  ·subst hji
   exact hy.wpOp hi (hVw listed w hS ht) ⟨hS.imp zcr id,H⟩
  ·have h1:=H.2 j (ready_mono hj hji)
   obtain⟨hjun,oj,hoj,hall⟩:=mem_ready.1 hj;have hnot:∀e∈oj.after,Region.binds md e=true->e.on≠i:=fun e he hb heq=>by
    have h1:=hall e he hb;have h0:=(mem_ready.1 hr).1;rw[heq] at h1;rcases Nat.lt_or_ge i listed.size with h'|h'
    ·simp[h'] at h0 h1;rw[h0] at h1;cases h1
    ·simp[Array.getElem?_eq_none h'] at h1
   have h2:=wpOp_putIf hoj (hfree j oj hoj hji hjun hnot) (fun cs b=>hsel i oi cs b hi) (fun cs b=>hsel j oj cs b hoj) hQ hy h1;have hfree':∀k ok,ops[k]? =some ok->k≠i->(listed.setIfInBounds j true).getD k true=false->
    (∀e∈ok.after,Region.binds md e=true->e.on≠i)->oi.apart ops ok=true:=fun k ok hk hki hun hno=>by
    refine hfree k ok hk hki ?_ hno;by_cases hjk:j=k
    ·subst hjk;exact hjun
    ·rw[getD_set_ne true hjk] at hun;exact hun
   have ht':(∀w,V w)\/(listed.setIfInBounds j true).getD t0 false=false:=by
    rcases hV with hV|⟨_,ot,hot,e,he,hb,heq⟩
    ·exact .inl hV
    ·refine ht.imp id fun ht=>?_
     have hjt:j≠t0:=by rintro rfl;rw[hoj] at hot;injection hot with hot;subst hot;exact hnot e he hb heq
     rw[zjs hjt];exact ht
   refine wpOp_mono (fun a' w' h3=>?_) h2;have hS':(listed.setIfInBounds j true).getD t0 false=true\/S w':=by refine h3.2.1.imp (fun h4=>?_) id;rw[Array.setIfInBounds_comm _ _ (fun e=>hji e.symm),zjs hit] at h4;exact h4
   refine⟨hS',ih (listed.setIfInBounds j true) a' w' hfree' (ready_mono hr (Ne.symm hji)) h3.1 hS' ht' ?_⟩;rw[Array.setIfInBounds_comm _ _ hji];exact h3.2.2
theorem zom{i:Nat}{oi:Oper}{v:Value}{fuel:Nat}{listed:Array Bool}{a:Act}{w:World}(V:World->Prop)(hi:ops[i]? =some oi)(hit:i≠t0)
 (hs:Region.noSelect ops=true)(hf:Region.free md ops listed i=true)(hr:(Region.ready md ops listed).contains i=true)
 (hQ:∀c a w,Q (.panic c) (a.put oi.dst v) w->Q (.panic c) a w)
 (hV:(∀w,V w)\/((∀w,S w->V w)/\ ∃ot,ops[t0]? =some ot/\ ∃e∈ot.after,Region.binds md e=true/\e.on=i))
 (hy:YieldsIf P ops V oi v a)(hS:listed.getD t0 false=true\/S w)(ht:(∀w,V w)\/listed.getD t0 false=false)
 (h:zkt P md ops Q t0 S fuel (listed.setIfInBounds i true) (a.put oi.dst v) w):zkt P md ops Q t0 S (fuel+1) listed a w:=
 zug hi hit (Region.noSelect_spec hs) hQ V hV fuel listed a w (Region.free_spec hi hf) (by simpa using hr) hy hS ht h
def z5e(md:Region.Mode)(ops:Array Oper)(t0 i:Nat):Bool:=match ops[t0]? with
 |some ot=>ot.after.any fun e=>Region.binds md e&&e.on==i
 |none=>false
def zqd(ops:Array Oper)(t0:Nat):Array Bool->List (Nat × Nat)->Bool
 |listed,[]=>(Region.ready .any ops listed).isEmpty
 |listed,(0,i)::r=>(Region.ready .any ops listed).contains i&&(Region.free .any ops listed i&&(z5e .any ops t0 i&&(decide (i≠t0)&&(!listed.getD t0 false&&zqd ops t0 (listed.setIfInBounds i true) r))))
 |listed,(1,i)::r=>(Region.ready .any ops listed).contains i&&(Region.free .any ops listed i&&(decide (i≠t0)&&zqd ops t0 (listed.setIfInBounds i true) r))
 |listed,(_,i)::r=>decide (Region.ready .any ops listed=[i])&&zqd ops t0 (listed.setIfInBounds i true) r
def zku(P:Program)(ops:Array Oper)(R:World->World->Prop)(Q:Exit->Act->World->Prop)(t0:Nat):List (Nat × Nat)->Bool->Act->World->Prop
 | [],_,a,w=>Q .normal a w
 |(0,i)::r,d,a,w=>∃o v,ops[i]? =some o/\((Region.wanted o (yielded ops a.tmps)=true/\ ∀w',R w w'->(execOp a.eval o).run P w'= .ok (.value v) w')\/(Region.wanted o (yielded ops a.tmps)=false/\v=undef))/\zku P ops R Q t0 r d (a.put o.dst v) w
 |(1,i)::r,d,a,w=>∃o v,ops[i]? =some o/\((Region.wanted o (yielded ops a.tmps)=true/\ ∀w',(execOp a.eval o).run P w'= .ok (.value v) w')\/(Region.wanted o (yielded ops a.tmps)=false/\v=undef))/\zku P ops R Q t0 r d (a.put o.dst v) w
 |(_,i)::r,d,a,w=>∃o,ops[i]? =some o/\if Region.wanted o (yielded ops a.tmps) then o.wp P a w (fun a' w'=>(d=true\/i=t0\/R w w')/\zku P ops R Q t0 r (d||i==t0) a' w') (NoPanic Q) else zku P ops R Q t0 r (d||i==t0) (a.put o.dst undef) w
variable{R:World->World->Prop}
theorem zw6{i:Nat}(h:z5e md ops t0 i=true):∃ot,ops[t0]? =some ot/\ ∃e∈ot.after,Region.binds md e=true/\e.on=i:=by
 unfold z5e at h;split at h
 ·rename_i ot hot
  rw[Array.any_eq_true] at h;obtain⟨j,hj,h⟩:=h;simp only[Bool.and_eq_true,beq_iff_eq] at h;exact⟨ot,hot,ot.after[j],Array.getElem_mem hj,h.1,h.2⟩
 ·cases h
theorem zmi(hrefl:∀w,R w w)(htrans:∀{x y z},R x y->R y z->R x z)(hs:Region.noSelect ops=true):
 ∀(ord:List (Nat × Nat)) (fuel:Nat) (listed:Array Bool) (d:Bool) (a:Act) (w:World),(d=true->listed.getD t0 false=true)->(∀i∈ord.map (·.2),i<listed.size)->ord.length<=fuel->zqd ops t0 listed ord=true->zku P ops R Q t0 ord d a w->zkt P .any ops (NoPanic Q) t0 (R w) fuel listed a w:=by
 intro ord;induction ord with
 |nil=>
  intro fuel listed d a w _ _ _ hok h;have hr:Region.ready .any ops listed=[]:=by simpa[zqd] using hok
  cases fuel with
  |zero=>exact⟨hr,NoPanic.normal h⟩
  |succ fuel=>exact⟨fun _=>NoPanic.normal h,by rw[hr];simp⟩
 |cons x r ih=>
  obtain⟨b,i⟩:=x;intro fuel listed d a w hd hsz hl hok h;obtain⟨fuel,rfl⟩:∃k,fuel=k+1:=⟨fuel-1,by simp at hl;omega⟩;have hl':r.length<=fuel:=by simp at hl;omega
  have hsz':∀k∈r.map (·.2),k<(listed.setIfInBounds i true).size:=fun k hk=>by rw[Array.size_setIfInBounds];exact hsz k (by simp at hk⊢;exact .inr hk)
  have hi0:i<listed.size:=hsz i (by simp)
  match b with
  |0=>
   obtain⟨o,v,ho,hv,hr⟩:=h;simp only[zqd,Bool.and_eq_true,decide_eq_true_eq,Bool.not_eq_true'] at hok;obtain⟨h1,h2,h3,h4,h5,h6⟩:=hok;exact zom (R w) ho h4 hs h2 h1 (fun _ _ _ hp=>hp) (.inr ⟨fun _ hh=>hh,zw6 h3⟩) hv (.inr (hrefl w)) (.inr h5) (ih fuel _ d _ w (fun e=>zcr (hd e)) hsz' hl' h6 hr)
  |1=>
   obtain⟨o,v,ho,hv,hr⟩:=h;simp only[zqd,Bool.and_eq_true,decide_eq_true_eq] at hok;obtain⟨h1,h2,h3,h4⟩:=hok;exact zom (fun _=>True) ho h3 hs h2 h1 (fun _ _ _ hp=>hp) (.inl fun _=>trivial) (hv.imp (fun hh=>⟨hh.1,fun w' _=>hh.2 w'⟩) id) (.inr (hrefl w)) (.inl fun _=>trivial) (ih fuel _ d _ w (fun e=>zcr (hd e)) hsz' hl' h4 hr)
  |b+2=>
   obtain⟨o,ho,hc⟩:=h;simp only[zqd,Bool.and_eq_true,decide_eq_true_eq] at hok;obtain⟨h1,h3⟩:=hok;refine⟨fun h0=>(by rw[h1] at h0;cases h0),fun j hj=>?_⟩;rw[h1] at hj;obtain rfl:j=i:=by simpa using hj
   have hd':(d||j==t0)=true->(listed.setIfInBounds j true).getD t0 false=true:=by
    intro e;rw[Bool.or_eq_true,beq_iff_eq] at e;rcases e with e|rfl
    ·exact zcr (hd e)
    ·rw[Array.getD_eq_getD_getElem?,Array.getElem?_setIfInBounds,if_pos rfl,if_pos hi0];rfl
   unfold wpOp;simp only[ho];split
   ·rename_i hw
    rw[if_pos hw] at hc;refine .inl (Oper.wp_mono (fun a' w' hh=>?_) hc);obtain⟨hR,hh⟩:=hh;have hI:=ih fuel _ _ a' w' hd' hsz' hl' h3 hh;by_cases ht:(listed.setIfInBounds j true).getD t0 false=true
    ·exact⟨.inl ht,zhv fuel _ a' w' (.inl ht) hI⟩
    ·have hR':R w w':=by
      rcases hR with hR|hR|hR
      ·exact absurd (zcr (hd hR)) ht
      ·exact absurd (hd' (by simp[hR])) ht
      ·exact hR
     exact⟨.inr hR',zhv fuel _ a' w' (.inr fun z hz=>htrans hR' hz) hI⟩
   ·rename_i hw
    rw[if_neg hw] at hc;exact⟨.inr (hrefl w),ih fuel _ _ _ w hd' hsz' hl' h3 hc⟩
theorem zds{id:Nat}{a:Act}{w:World}(R:World->World->Prop)(t0:Nat)(ord:List (Nat × Nat))(hrefl:∀w,R w w)(htrans:∀{x y z},R x y->R y z->R x z)(hm:P.follows .mixedOrders=true)
 (hs:Region.noSelect ops=true)(hl:(decide (ord.length<=ops.size)&&ord.all fun x=>decide (x.2<ops.size))=true)(hok:zqd ops t0 (Array.replicate ops.size false) ord=true)(h:zku P ops R Q t0 ord false a w.drew):(Code.region id ops true).wp P Q a w:=by
 simp only[Bool.and_eq_true,decide_eq_true_eq,List.all_eq_true] at hl;refine wp_region_noPanic (wp_region_any hm (zls _ _ _ _ (zmi hrefl htrans hs ord ops.size _ false a _ (by simp) ?_ hl.1 hok h)));intro i hi;simp only[List.mem_map] at hi;obtain⟨x,hx,rfl⟩:=hi;rw[Array.size_replicate];exact hl.2 x hx
variable{i:Nat}{r:List (Nat × Nat)}{a:Act}{w:World}{d:Bool}{v:Value}
theorem zhw(h:Q .normal a w):zku P ops R Q t0 [] d a w:=h
section
variable{dst:Option Tmp}{op:Op}{ty:TypeId}{pos:String}{af:Array Edge}{gd:Option (Nat × Bool)}
theorem zd4(ho:ops[i]? =some ⟨dst,op,ty,pos,af,gd⟩)(hw:Region.wanted ⟨dst,op,ty,pos,af,gd⟩ (yielded ops a.tmps)=true)(hv:∀w',R w w'->(execOp a.eval ⟨dst,op,ty,pos,af,gd⟩).run P w'= .ok (.value v) w')(h:zku P ops R Q t0 r d (a.put dst v) w):zku P ops R Q t0 ((0,i)::r) d a w:=
 ⟨_,v,ho,.inl ⟨hw,hv⟩,h⟩
theorem zcs(ho:ops[i]? =some ⟨dst,op,ty,pos,af,gd⟩)(hw:Region.wanted ⟨dst,op,ty,pos,af,gd⟩ (yielded ops a.tmps)=true)(hv:∀w',(execOp a.eval ⟨dst,op,ty,pos,af,gd⟩).run P w'= .ok (.value v) w')(h:zku P ops R Q t0 r d (a.put dst v) w):zku P ops R Q t0 ((1,i)::r) d a w:=
 ⟨_,v,ho,.inl ⟨hw,hv⟩,h⟩
theorem zbl(ho:ops[i]? =some ⟨dst,op,ty,pos,af,gd⟩)(hw:Region.wanted ⟨dst,op,ty,pos,af,gd⟩ (yielded ops a.tmps)=true)(h:∀K:Act->World->Prop,(∀a' w',(d=true\/i=t0\/R w w')->zku P ops R Q t0 r (d||i==t0) a' w'->K a' w')->Oper.wp P ⟨dst,op,ty,pos,af,gd⟩ a w K (NoPanic Q)):zku P ops R Q t0 ((2,i)::r) d a w:=
 ⟨_,ho,by rw[if_pos hw];exact h _ fun _ _ h1 h2=>⟨h1,h2⟩⟩
end
end
section
variable{P:Program}{o:Oper}{a:Act}{Q:Exit->Act->World->Prop}{K:Act->World->Prop}
theorem zkv{w:World}{t e:TypeId}{z:Value}{bytes:Nat}(E:ElT P t e z 1 bytes)(s x:Operand)
 (ho:o.op= .call {callee:= .builtin .append,args:= #[s,x],argTypes:= #[t,t]})
 {W:World}{B base m c:Nat}{v:Value}{xs news:List Value}{ad:Addr}(hown:Own w base e v xs)(hr:Reads w w.heap.size 1 (some ad) m news)(hm0:0<m)(hs:a.eval s=v)(hx:a.eval x= .slice (some ad) m c)
 (hb:Below B W w)(hbB:B<=base)(hbase:base<=w.heap.size)(h1:∀u∈news,u.oneCell'=true)
 (hn:(xs.length+m)*bytes<=140737488355328)(hm:xs.length+m<=maxLen)
 (h:∀A' c' w',xs.length+m<=c'->c'<=maxLen->Own w' base e (.slice A' (xs.length+m) c') (xs++news)->w.grownBy w' v.ownBlock->Below B W w'->K (a.put o.dst (.slice A' (xs.length+m) c')) w'):
 Oper.wp P o a w K Q:=by
 obtain⟨i,hi,hz0,hz1,hz2⟩:=info_parts E.hi;have hl:news.length=m:=by have:=hr.1;omega
 have hcells:∀j u,news[j]? =some u->w.cell? (ad.add j)=some u:=by intro j u hu;obtain⟨ad',h',_,hc⟩:=hr.2 hm0;injection h' with h';subst h';exact hc j u hu
 obtain⟨v',w',hr',hown',hg,_,_⟩:=run_append_own_at (P:=P) w base t o.type e i z 1 bytes E.ht hi hz0 hz1 hz2 E.hz (by omega) v xs.length xs hown ad m c news (by omega) hcells h1 hm hn hbase;have hxl:(xs++news).length=xs.length+m:=by simp[hl]
 have hown2:Own w' base e v' (xs++news):=by unfold Own;rw[hxl];exact hown'
 obtain⟨A',c',rfl,hc1,hc2⟩:=hown2.slice;rw[hxl] at hc1 hown2 hr';unfold Oper.wp execOp;simp only[ho,resolve,invoke,builtin,Sem.run_bind,Sem.run_pure,Result.andThen_ok,List.map_toArray,List.map_cons,List.map_nil,hs,hx,hr'];exact h A' c' w' hc1 hc2 hown2 hg (hb.grown hg (Nat.le_trans hbB hbase) (fun k hk=>by have:=(hown.lt k hk).1;omega))
end
open Ieee
theorem dbl:Ieee.double.fractionBits=52/\Ieee.double.exponentBits=11:=⟨rfl,rfl⟩
theorem zky:Ieee.double.leastPlace= -1074:=by decide
theorem zq0:Ieee.double.binade=4503599627370496:=by decide
theorem z5v:Ieee.double.infRung=9218868437227405312:=by decide
theorem zzh:Ieee.double.signWeight=9223372036854775808:=by decide
theorem zoo(way:Toward)(neg:Bool)(n d:Nat):way.cut neg (n*2^d) d=n:=by
 by_cases h0:n=0
 ·subst h0
  unfold Toward.cut;simp only[Nat.zero_mul,Nat.zero_div,Nat.zero_mod];cases way<;> simp
 ·have hl:d<=(n*2^d).log2:=by
   rw[Nat.le_log2 (by have:=Nat.two_pow_pos d;exact Nat.mul_ne_zero h0 (by omega))];exact Nat.le_mul_of_pos_left _ (by omega)
  have hm:min d ((n*2^d).log2+2)=d:=Nat.min_eq_left (by omega);unfold Toward.cut;simp only[hm,Nat.one_shiftLeft,Nat.mul_div_cancel _ (Nat.two_pow_pos d),Nat.mul_mod_left];have hp:=Nat.two_pow_pos d;cases way<;> simp<;> omega
theorem zun{n:Nat}(h:n≠0)(k:Nat):(n*2^k).log2=n.log2+k:=by
 have hp:=Nat.two_pow_pos k;have h1:2^(n.log2+k)<=n*2^k:=by rw[Nat.pow_add];exact Nat.mul_le_mul_right _ (Nat.log2_self_le h)
 have h2:n*2^k<2^(n.log2+k+1):=by rw[show n.log2+k+1=(n.log2+1)+k by omega,Nat.pow_add];exact Nat.mul_lt_mul_of_pos_right (Nat.lt_log2_self) hp
 have hne:n*2^k≠0:=Nat.mul_ne_zero h (by omega);have a1:=(Nat.le_log2 hne).2 h1;have a2:=(Nat.log2_lt hne).2 h2;omega
theorem zuo(f:Format)(s:Bool)(R:Nat)(hR:R<f.signWeight):f.read (f.word s R)=
 if R<f.binade then .number s R f.leastPlace
 else if R<f.infRung then .number s (f.binade+R%f.binade) (f.leastPlace+(R/f.binade-1:Nat))
 else if R=f.infRung then .infinity s else .nan s (R-f.infRung):=by
 have h1:(f.word s R/f.signWeight%2==1)=s:=by
  unfold Format.word;cases s with
  |false=>
   rw[if_neg (by simp),Nat.div_eq_of_lt hR];rfl
  |true=>
   rw[if_pos rfl,Nat.add_div_left _ (by omega),Nat.div_eq_of_lt hR];rfl
 have h2:f.word s R%f.signWeight=R:=by
  unfold Format.word;cases s with
  |false=>rw[if_neg (by simp),Nat.mod_eq_of_lt hR]
  |true=>rw[if_pos rfl,Nat.add_mod_left,Nat.mod_eq_of_lt hR]
 unfold Format.read;simp only[h1,h2]
theorem zup(s:Bool)(n k:Nat)(hn:n<9007199254740992):∃k':Nat,Ieee.double.read (Ieee.double.nearest s (n*2^k) (-(k:Int)))= .number s (n*2^k') (-(k':Int)):=by
 by_cases h0:n=0
 ·subst h0
  obtain⟨j,hj⟩:∃j:Nat,Ieee.double.leastPlace= -(j:Int):=⟨1074,by rw[zky];rfl⟩;refine⟨j,?_⟩;rw[Nat.zero_mul,Nat.zero_mul,Format.nearest,if_pos rfl,zuo _ _ _ (by rw[zzh];omega),if_pos (by rw[zq0];omega),hj]
 ·have hp:=Nat.two_pow_pos k
  have hne:n*2^k≠0:=Nat.mul_ne_zero h0 (by omega);have hlog:n.log2<=52:=by have:=(Nat.log2_lt h0).2 (show n<2^53 by omega);omega
  have e1:(-(k:Int))+((n*2^k).log2:Nat)-(52:Nat)=(n.log2:Int)-52:=by rw[zun h0];omega
  obtain⟨d,hd⟩:∃d,d=52-n.log2:=⟨_,rfl⟩;have hlast:max ((-(k:Int))+((n*2^k).log2:Nat)-(Ieee.double.fractionBits:Nat)) Ieee.double.leastPlace= -(d:Int):=by rw[dbl.1,e1,zky];omega
  have hkept:Toward.even.cut s ((n*2^k) <<< ((-(k:Int))- -(d:Int)).toNat) (-(d:Int)- -(k:Int)).toNat=n*2^d:=by
   by_cases hkd:k<=d
   ·rw[show((-(k:Int))- -(d:Int)).toNat=d-k by omega,show(-(d:Int)- -(k:Int)).toNat=0 by omega,Nat.shiftLeft_eq,Nat.mul_assoc,<-Nat.pow_add,show k+(d-k)=d by omega]
    have:=zoo .even s (n*2^d) 0;rwa[Nat.pow_zero,Nat.mul_one] at this
   ·rw[show((-(k:Int))- -(d:Int)).toNat=0 by omega,show(-(d:Int)- -(k:Int)).toNat=k-d by omega,Nat.shiftLeft_eq,Nat.pow_zero,Nat.mul_one]
    have:=zoo .even s (n*2^d) (k-d);rwa[Nat.mul_assoc,<-Nat.pow_add,show d+(k-d)=k by omega] at this
  have hlo:4503599627370496<=n*2^d:=by have:=Nat.mul_le_mul_right (2^d) (Nat.log2_self_le h0);rw[<-Nat.pow_add,show n.log2+d=52 by omega] at this;exact Nat.le_trans (by decide) this
  have hhi:n*2^d<9007199254740992:=by have:=Nat.mul_lt_mul_of_pos_right (Nat.lt_log2_self (n:=n)) (Nat.two_pow_pos d);rw[<-Nat.pow_add,show n.log2+1+d=53 by omega] at this;exact Nat.lt_of_lt_of_le this (by decide)
  refine⟨d,?_⟩;have hd2:d<=52:=by omega
  have hw:Ieee.double.nearest s (n*2^k) (-(k:Int))=Ieee.double.word s (min ((-(d:Int)-Ieee.double.leastPlace).toNat*Ieee.double.binade+n*2^d) Ieee.double.infRung):=by unfold Format.nearest;rw[if_neg hne];simp only[hlast,hkept]
  clear hlast hkept hlog e1 hd hne hp h0 hn;generalize Ieee.double.nearest s (n*2^k) (-(k:Int))=V at*;generalize n*2^d=K at*;rw[hw,zuo _ _ _ (by rw[zzh,z5v];omega)];have e2:(-(d:Int)-Ieee.double.leastPlace).toNat=1074-d:=by rw[zky];omega
  rw[e2,zq0,z5v,zky];generalize hm:1074-d=m;have hm2:m<=1074/\1022<=m:=by omega
  have hr:min (m*4503599627370496+K) 9218868437227405312=m*4503599627370496+K:=Nat.min_eq_left (by omega);rw[hr];have r1: ¬m*4503599627370496+K<4503599627370496:=by omega
  have r2:m*4503599627370496+K<9218868437227405312:=by omega
  have r3:4503599627370496+(m*4503599627370496+K)%4503599627370496=K:=by omega
  have r4:(m*4503599627370496+K)/4503599627370496-1=m:=by omega
  have r5:(-1074:Int)+(m:Int)= -(d:Int):=by omega
  rw[if_neg r1,if_pos r2,r3,r4,r5]
def RepD(x:Int)(d:Datum):Prop:=∃(s:Bool) (k:Nat),d= .number s (x.natAbs*2^k) (-(k:Int))/\(x≠0->s=decide (x<0))
def Rep(x:Int)(b:Nat):Prop:=RepD x (Ieee.double.read b)
theorem zlu{s:Bool}{x:Int}(h:x≠0->s=decide (x<0))(k u:Nat):Ieee.signed s (x.natAbs*2^k) u=x*((2^(k+u):Nat):Int):=by
 have e:(x.natAbs*2^k) <<< u=x.natAbs*2^(k+u):=by rw[Nat.shiftLeft_eq,Nat.mul_assoc,<-Nat.pow_add]
 unfold Ieee.signed;rw[e];generalize 2^(k+u)=p;by_cases h0:x=0
 ·subst h0
  cases s<;> simp
 ·by_cases hx:x<0
  ·rw[h h0,decide_eq_true hx,if_pos rfl,Int.natCast_mul,show((x.natAbs:Nat):Int)= -x by omega,Int.neg_mul,Int.neg_neg]
  ·rw[h h0,decide_eq_false hx,if_neg (by simp),Int.natCast_mul,show((x.natAbs:Nat):Int)=x by omega]
theorem RepD.write{x:Int}{d:Datum}(h:RepD x d)(hx:x.natAbs<9007199254740992):Rep x (Ieee.double.write d):=by obtain⟨s,k,rfl,hs⟩:=h;obtain⟨j,hj⟩:=zup s x.natAbs k hx;exact⟨s,j,hj,hs⟩
theorem RepD.opposite{x:Int}{d:Datum}(h:RepD x d):RepD (-x) d.opposite:=by
 obtain⟨s,k,rfl,hs⟩:=h;refine⟨!s,k,?_,fun h0=>?_⟩
 ·rw[Int.natAbs_neg]
  rfl
 ·rw[hs (by omega)]
  by_cases hx:x<0
  ·rw[decide_eq_true hx,decide_eq_false (by omega)]
   rfl
  ·rw[decide_eq_false hx,decide_eq_true (by omega)]
   rfl
theorem RepD.product{x y:Int}{d e:Datum}(h:RepD x d)(h2:RepD y e):∃r,d.product e=some r/\RepD (x*y) r:=by
 obtain⟨s,k,rfl,hs⟩:=h;obtain⟨t,j,rfl,ht⟩:=h2;refine⟨_,rfl,s ^^ t,k+j,?_,fun h0=>?_⟩
 ·rw[Int.natAbs_mul,Nat.pow_add]
  congr 1
  ·generalize 2^k=p
   generalize 2^j=q;simp only[Nat.mul_assoc,Nat.mul_left_comm,Nat.mul_comm]
  ·omega
 ·have hx:x≠0:=by rintro rfl;simp at h0
  have hy:y≠0:=by rintro rfl;simp at h0
  rw[hs hx,ht hy];rcases Int.lt_or_gt_of_ne hx with hx|hx<;> rcases Int.lt_or_gt_of_ne hy with hy|hy
  ·have:=Int.mul_pos_of_neg_of_neg hx hy
   simp[hx,hy];omega
  ·have:=Int.mul_neg_of_neg_of_pos hx hy
   simp[hx,this];omega
  ·have:=Int.mul_neg_of_pos_of_neg hx hy
   simp[hy,this];omega
  ·have:=Int.mul_pos hx hy
   have a1: ¬x<0:=by omega
   have a2: ¬y<0:=by omega
   have a3: ¬x*y<0:=by omega
   simp[a1,a2,a3]
theorem RepD.sum{x y:Int}{d e:Datum}(h:RepD x d)(h2:RepD y e):∃r,d.sum e=some r/\RepD (x+y) r:=by
 obtain⟨s,k,rfl,hs⟩:=h;obtain⟨t,j,rfl,ht⟩:=h2;obtain⟨m,hm⟩:∃m,m=max k j:=⟨_,rfl⟩;have hb:min (-(k:Int)) (-(j:Int))= -(m:Int):=by omega
 have hk:k+(-(k:Int)- -(m:Int)).toNat=m:=by omega
 have hj:j+(-(j:Int)- -(m:Int)).toNat=m:=by omega
 have ht:Ieee.signed s (x.natAbs*2^k) (-(k:Int)- -(m:Int)).toNat+Ieee.signed t (y.natAbs*2^j) (-(j:Int)- -(m:Int)).toNat=(x+y)*((2^m:Nat):Int):=by rw[zlu hs,zlu ht,hk,hj,Int.add_mul]
 have hp:0<2^m:=Nat.two_pow_pos m;refine⟨_,rfl,?_⟩;simp only[hb,ht];generalize x+y=z;refine⟨if z*((2^m:Nat):Int)=0 then s&&t else decide (z*((2^m:Nat):Int)<0),m,?_,fun h0=>?_⟩
 ·rw[Int.natAbs_mul,Int.natAbs_natCast]
 ·have hz: ¬z*((2^m:Nat):Int)=0:=by
   rw[Int.mul_eq_zero];rintro(hh|hh)
   ·exact h0 hh
   ·omega
  rw[if_neg hz];have hp2:(0:Int)<((2^m:Nat):Int):=by omega
  generalize((2^m:Nat):Int)=p at*;congr 1
  rw[eq_iff_iff];constructor
  ·intro hh
   exact Classical.byContradiction fun hn=>by have:=Int.mul_nonneg (show 0<=z by omega) (show 0<=p by omega);omega
  ·intro hh
   exact Int.mul_neg_of_neg_of_pos hh hp2
theorem RepD.toInt{x:Int}{d:Datum}(h:RepD x d):d.toInt .zero=some x:=by
 obtain⟨s,k,rfl,hs⟩:=h;have e1:(-(k:Int)).toNat=0:=by omega
 have e2:(-(-(k:Int))).toNat=k:=by omega
 have e3:=zlu hs 0 0;rw[Nat.pow_zero,Nat.mul_one] at e3;simp only[Datum.toInt,Datum.integral,e1,e2,Nat.shiftLeft_zero,zoo];rw[e3];simp
theorem zuq(n:Int)(h:n.natAbs<9007199254740992):Rep n (floatOfInt .f64 n):=by have:RepD n (.number (n<0) n.natAbs 0):=⟨decide (n<0),0,by simp,fun _=>rfl⟩;exact this.write h
theorem zss{x y:Int}{a b:Nat}(h:Rep x a)(h2:Rep y b)(hx:(x*y).natAbs<9007199254740992):∃r,floatBits .mul .f64 a b=some r/\Rep (x*y) r:=by obtain⟨r,h3,h4⟩:=RepD.product h h2;exact⟨Ieee.double.write r,by show((Ieee.double.read a).product (Ieee.double.read b)).map Ieee.double.write=_;rw[h3];rfl,h4.write hx⟩
theorem zxd{x y:Int}{a b:Nat}(h:Rep x a)(h2:Rep y b)(hx:(x+y).natAbs<9007199254740992):∃r,floatBits .add .f64 a b=some r/\Rep (x+y) r:=by obtain⟨r,h3,h4⟩:=RepD.sum h h2;exact⟨Ieee.double.write r,by show((Ieee.double.read a).sum (Ieee.double.read b)).map Ieee.double.write=_;rw[h3];rfl,h4.write hx⟩
theorem zxe{x y:Int}{a b:Nat}(h:Rep x a)(h2:Rep y b)(hx:(x-y).natAbs<9007199254740992):∃r,floatBits .sub .f64 a b=some r/\Rep (x-y) r:=by obtain⟨r,h3,h4⟩:=RepD.sum h (RepD.opposite h2);exact⟨Ieee.double.write r,by show((Ieee.double.read a).sum (Ieee.double.read b).opposite).map Ieee.double.write=_;rw[h3];rfl,h4.write hx⟩
theorem zxf{x:Int}{a:Nat}(h:Rep x a)(hx: -9223372036854775808<=x/\x<=9223372036854775807):floatToIntVal .f64 a .i64=some x:=by have h3:(FloatKind.f64.decode a).toInt .zero=some x:=RepD.toInt h;unfold floatToIntVal;rw[h3];exact if_pos hx
def ztv(x y:Int)(a b:Nat):Prop:=Rep x a/\Rep y b
theorem qbd{x y u v:Int}{a b c d:Nat}(h:ztv x y a b)(h2:ztv u v c d)(h3:(x*u).natAbs<9007199254740992)(h4:(y*v).natAbs<9007199254740992)(h5:(x*u-y*v).natAbs<9007199254740992)
 (h6:(x*v).natAbs<9007199254740992)(h7:(y*u).natAbs<9007199254740992)(h8:(x*v+y*u).natAbs<9007199254740992):∃re im,cMulBits a b c d=some (re,im)/\ztv (x*u-y*v) (x*v+y*u) re im:=by
 obtain⟨r1,e1,k1⟩:=zss h.1 h2.1 h3;obtain⟨r2,e2,k2⟩:=zss h.2 h2.2 h4;obtain⟨r3,e3,k3⟩:=zxe k1 k2 h5;obtain⟨r4,e4,k4⟩:=zss h.1 h2.2 h6;obtain⟨r5,e5,k5⟩:=zss h.2 h2.1 h7;obtain⟨r6,e6,k6⟩:=zxd k4 k5 h8;exact⟨r3,r6,by simp[cMulBits,e1,e2,e3,e4,e5,e6],k3,k6⟩
theorem qbe{x y u v:Int}{a b c d:Nat}(h:ztv x y a b)(h2:ztv u v c d)(h3:(x+u).natAbs<9007199254740992)(h4:(y+v).natAbs<9007199254740992):∃re im,cSumBits .add .f64 a b c d=some (re,im)/\ztv (x+u) (y+v) re im:=by obtain⟨r1,e1,k1⟩:=zxd h.1 h2.1 h3;obtain⟨r2,e2,k2⟩:=zxd h.2 h2.2 h4;exact⟨r1,r2,by simp[cSumBits,e1,e2],k1,k2⟩
theorem qbf{x y u v:Int}{a b c d:Nat}(h:ztv x y a b)(h2:ztv u v c d)(h3:(x-u).natAbs<9007199254740992)(h4:(y-v).natAbs<9007199254740992):∃re im,cSumBits .sub .f64 a b c d=some (re,im)/\ztv (x-u) (y-v) re im:=by obtain⟨r1,e1,k1⟩:=zxe h.1 h2.1 h3;obtain⟨r2,e2,k2⟩:=zxe h.2 h2.2 h4;exact⟨r1,r2,by simp[cSumBits,e1,e2],k1,k2⟩
theorem qbg(f:Format)(b:Nat):f.read (b ^^^ 2^(f.exponentBits+f.fractionBits))=(f.read b).opposite:=by
 have hS:f.signWeight=2^(f.exponentBits+f.fractionBits):=rfl;generalize hn:f.exponentBits+f.fractionBits=n at*;have hp:=Nat.two_pow_pos n;have h1:((b ^^^ 2^n)/2^n%2==1)= !(b/2^n%2==1):=by
  rw[Nat.xor_div_two_pow,Nat.div_self hp];generalize b/2^n=c;have e:(c ^^^ 1)%2=(c%2) ^^^ 1:=by have:= @Nat.xor_mod_two_pow c 1 1;simpa using this
  rw[e];rcases Nat.mod_two_eq_zero_or_one c with h|h
  ·rw[h]
   rfl
  ·rw[h]
   rfl
 have h2:(b ^^^ 2^n)%2^n=b%2^n:=by rw[Nat.xor_mod_two_pow,Nat.mod_self,Nat.xor_zero]
 unfold Format.read;rw[hS];simp only[h1,h2];generalize b%2^n=R;by_cases a1:R<f.binade
 ·rw[if_pos a1,if_pos a1]
  rfl
 ·rw[if_neg a1,if_neg a1]
  by_cases a2:R<f.infRung
  ·rw[if_pos a2,if_pos a2]
   rfl
  ·rw[if_neg a2,if_neg a2]
   by_cases a3:R=f.infRung
   ·rw[if_pos a3,if_pos a3]
    rfl
   ·rw[if_neg a3,if_neg a3]
    rfl
theorem qfs{x:Int}{b:Nat}(h:Rep x b):Rep (-x) (Op.negFloat .f64 b):=by have:=RepD.opposite h;rw[<-qbg] at this;exact this
theorem z1w(k:FloatKind)(b:Nat):Op.unary .neg (.float k b)=pure (.float k (Op.negFloat k b)):=rfl
theorem z5w{x y:Int}{a b:Nat}(h:ztv x y a b)(hx: -2097152<=x/\x<=2097152)(hy: -2097152<=y/\y<=2097152):∃re im,cMulBits a b a (Op.negFloat .f64 b)=some (re,im)/\floatToIntVal .f64 re .i64=some (x*x+y*y):=by
 have q:∀u v:Int,-2097152<=u/\u<=2097152-> -2097152<=v/\v<=2097152-> -4398046511104<=u*v/\u*v<=4398046511104:=by
  intro u v hu hv;have h1:(u*v).natAbs<=2097152*2097152:=by rw[Int.natAbs_mul];exact Nat.mul_le_mul (by omega) (by omega)
  omega
 have h1:=q x x hx hx;have h2:=q y (-y) hy (by omega);have h3:=q x (-y) hx (by omega);have h4:=q y x hy hx;have e:y* -y= -(y*y):=by rw[Int.mul_neg]
 obtain⟨re,im,k1,k2⟩:=qbd h ⟨h.1,qfs h.2⟩ (by omega) (by omega) (by omega) (by omega) (by omega) (by omega);refine⟨re,im,k1,?_⟩;have:=zxf k2.1 (by omega);rw[this,e,Int.sub_neg]
end Go.Hm
