/- Merged. -/
import Derived.Test.YtbahbnbpmfgimaaGreatDoorBun5
set_option maxHeartbeats 1000000
namespace Go.Hm
open Go.RowKit
section
variable{P:Program}{ops:Array Oper}{Q:Exit->Act->World->Prop}{md:Region.Mode}{S:World->Prop}{t0:Nat}
def zke(P:Program)(md:Region.Mode)(ops:Array Oper)(Q:Exit->Act->World->Prop)(t0:Nat)(S:World->Prop):Nat->Array Bool->Act->World->Prop
 |0,listed,a,w=>Region.ready md ops listed=[]/\Q .normal a w
 |fuel+1,listed,a,w=>(Region.ready md ops listed=[]->Q .normal a w)/\
  ∀i∈Region.ready md ops listed,wpOp P ops Q i (fun a' w'=>((listed.setIfInBounds i true).getD t0 false=true\/S w')/\zke P md ops Q t0 S fuel (listed.setIfInBounds i true) a' w') a w
theorem zlu:∀(fuel:Nat) (listed:Array Bool) (a:Act) (w:World),zke P md ops Q t0 S fuel listed a w->wpAny P md ops Q fuel listed a w
 |0,_,_,_,h=>h
 |fuel+1,_,_,_,h=>⟨h.1,fun i hi=>wpOp_mono (fun a' w' h'=>zlu fuel _ a' w' h'.2) (h.2 i hi)⟩
theorem zb4{l:Array Bool}{i t:Nat}(h:l.getD t false=true):(l.setIfInBounds i true).getD t false=true:=by
 rw[Array.getD_eq_getD_getElem?] at h⊢;rw[Array.getElem?_setIfInBounds];split
 ·split
  ·rfl
  ·rename_i e h2;subst e;rw[Array.getElem?_eq_none (by omega)] at h;simp at h
 ·exact h
theorem zgu{l:Array Bool}{i t:Nat}(hne:i≠t):(l.setIfInBounds i true).getD t false=l.getD t false:=by rw[Array.getD_eq_getD_getElem?,Array.getD_eq_getD_getElem?,Array.getElem?_setIfInBounds,if_neg hne]
theorem zhn{S':World->Prop}:∀(fuel:Nat) (listed:Array Bool) (a:Act) (w:World),(listed.getD t0 false=true\/ ∀w,S w->S' w)->zke P md ops Q t0 S fuel listed a w->zke P md ops Q t0 S' fuel listed a w
 |0,_,_,_,_,hh=>hh
 |fuel+1,listed,_,_,h,hh=>⟨hh.1,fun i hi=>wpOp_mono (fun a' w' h'=>⟨by
  rcases h with h|h
  ·exact .inl (zb4 h)
  ·exact h'.1.imp id (h w'),zhn fuel _ a' w' (h.imp zb4 id) h'.2⟩) (hh.2 i hi)⟩
theorem zt8{i:Nat}{oi:Oper}{v:Value}(hi:ops[i]? =some oi)(hit:i≠t0)(hsel:∀(j:Nat) (o:Oper) cs b,ops[j]? =some o->o.op≠ .select cs b)
 (hQ:∀c a w,Q (.panic c) (a.put oi.dst v) w->Q (.panic c) a w)(V:World->Prop)
 (hV:(∀w,V w)\/((∀w,S w->V w)/\ ∃ot,ops[t0]? =some ot/\ ∃e∈ot.after,Region.binds md e=true/\e.on=i)):
 ∀(fuel:Nat) (listed:Array Bool) (a:Act) (w:World),
  (∀j oj,ops[j]? =some oj->j≠i->listed.getD j true=false->(∀e∈oj.after,Region.binds md e=true->e.on≠i)->oi.apart ops oj=true)->
  i∈Region.ready md ops listed->YieldsIf P ops V oi v a->(listed.getD t0 false=true\/S w)->((∀w,V w)\/listed.getD t0 false=false)->
  zke P md ops Q t0 S fuel (listed.setIfInBounds i true) (a.put oi.dst v) w->zke P md ops Q t0 S (fuel+1) listed a w:=by
 have hVw:∀(listed:Array Bool) (w:World),(listed.getD t0 false=true\/S w)->((∀w,V w)\/listed.getD t0 false=false)->V w:=by
  intro listed w hS ht;rcases ht with ht|ht
  ·exact ht w
  ·rcases hS with hS|hS
   ·rw[ht] at hS;cases hS
   ·rcases hV with hV|hV
    ·exact hV w
    ·exact hV.1 w hS
 intro fuel;induction fuel with
 |zero=>
  intro listed a w _ hr hy hS ht H;refine⟨fun h=>(by rw[h] at hr;cases hr),fun j hj=>?_⟩;by_cases hji:j=i
  ·subst hji
   exact hy.wpOp hi (hVw listed w hS ht) ⟨hS.imp zb4 id,H⟩
  ·have:=ready_mono hj hji
   rw[H.1] at this;cases this
 |succ fuel ih=>
  intro listed a w hfree hr hy hS ht H;refine⟨fun h=>(by rw[h] at hr;cases hr),fun j hj=>?_⟩;by_cases hji:j=i
  ·subst hji
   exact hy.wpOp hi (hVw listed w hS ht) ⟨hS.imp zb4 id,H⟩
  ·have h1:=H.2 j (ready_mono hj hji)
   obtain⟨hjun,oj,hoj,hall⟩:=mem_ready.1 hj;have hnot:∀e∈oj.after,Region.binds md e=true->e.on≠i:=fun e he hb heq=>by
    have h1:=hall e he hb;have h0:=(mem_ready.1 hr).1;rw[heq] at h1;rcases Nat.lt_or_ge i listed.size with h'|h'
    ·simp[h'] at h0 h1;rw[h0] at h1;cases h1
    ·simp[Array.getElem?_eq_none h'] at h1
   have h2:=wpOp_putIf hoj (hfree j oj hoj hji hjun hnot) (fun cs b=>hsel i oi cs b hi) (fun cs b=>hsel j oj cs b hoj) hQ hy h1;have hfree':∀k ok,ops[k]? =some ok->k≠i->(listed.setIfInBounds j true).getD k true=false->
    (∀e∈ok.after,Region.binds md e=true->e.on≠i)->oi.apart ops ok=true:=fun k ok hk hki hun hno=>by
    refine hfree k ok hk hki ?_ hno;by_cases hjk:j=k
    ·subst hjk;exact hjun
    ·rw[getD_set_ne true hjk] at hun;exact hun
   have ht':(∀w,V w)\/(listed.setIfInBounds j true).getD t0 false=false:=by
    rcases hV with hV|⟨_,ot,hot,e,he,hb,heq⟩
    ·exact .inl hV
    ·refine ht.imp id fun ht=>?_
     have hjt:j≠t0:=by rintro rfl;rw[hoj] at hot;injection hot with hot;subst hot;exact hnot e he hb heq
     rw[zgu hjt];exact ht
   refine wpOp_mono (fun a' w' h3=>?_) h2;have hS':(listed.setIfInBounds j true).getD t0 false=true\/S w':=by refine h3.2.1.imp (fun h4=>?_) id;rw[Array.setIfInBounds_comm _ _ (fun e=>hji e.symm),zgu hit] at h4;exact h4
   refine⟨hS',ih (listed.setIfInBounds j true) a' w' hfree' (ready_mono hr (Ne.symm hji)) h3.1 hS' ht' ?_⟩;rw[Array.setIfInBounds_comm _ _ hji];exact h3.2.2
theorem zn8{i:Nat}{oi:Oper}{v:Value}{fuel:Nat}{listed:Array Bool}{a:Act}{w:World}(V:World->Prop)(hi:ops[i]? =some oi)(hit:i≠t0)
 (hs:Region.noSelect ops=true)(hf:Region.free md ops listed i=true)(hr:(Region.ready md ops listed).contains i=true)
 (hQ:∀c a w,Q (.panic c) (a.put oi.dst v) w->Q (.panic c) a w)
 (hV:(∀w,V w)\/((∀w,S w->V w)/\ ∃ot,ops[t0]? =some ot/\ ∃e∈ot.after,Region.binds md e=true/\e.on=i))
 (hy:YieldsIf P ops V oi v a)(hS:listed.getD t0 false=true\/S w)(ht:(∀w,V w)\/listed.getD t0 false=false)
 (h:zke P md ops Q t0 S fuel (listed.setIfInBounds i true) (a.put oi.dst v) w):zke P md ops Q t0 S (fuel+1) listed a w:=
 zt8 hi hit (Region.noSelect_spec hs) hQ V hV fuel listed a w (Region.free_spec hi hf) (by simpa using hr) hy hS ht h
def z41(md:Region.Mode)(ops:Array Oper)(t0 i:Nat):Bool:=match ops[t0]? with
 |some ot=>ot.after.any fun e=>Region.binds md e&&e.on==i
 |none=>false
def zqi(ops:Array Oper)(t0:Nat):Array Bool->List (Nat × Nat)->Bool
 |listed,[]=>(Region.ready .any ops listed).isEmpty
 |listed,(0,i)::r=>(Region.ready .any ops listed).contains i&&(Region.free .any ops listed i&&(z41 .any ops t0 i&&(decide (i≠t0)&&(!listed.getD t0 false&&zqi ops t0 (listed.setIfInBounds i true) r))))
 |listed,(1,i)::r=>(Region.ready .any ops listed).contains i&&(Region.free .any ops listed i&&(decide (i≠t0)&&zqi ops t0 (listed.setIfInBounds i true) r))
 |listed,(_,i)::r=>decide (Region.ready .any ops listed=[i])&&zqi ops t0 (listed.setIfInBounds i true) r
def zkf(P:Program)(ops:Array Oper)(R:World->World->Prop)(Q:Exit->Act->World->Prop)(t0:Nat):List (Nat × Nat)->Bool->Act->World->Prop
 | [],_,a,w=>Q .normal a w
 |(0,i)::r,d,a,w=>∃o v,ops[i]? =some o/\((Region.wanted o (yielded ops a.tmps)=true/\ ∀w',R w w'->(execOp a.eval o).run P w'= .ok (.value v) w')\/(Region.wanted o (yielded ops a.tmps)=false/\v=undef))/\zkf P ops R Q t0 r d (a.put o.dst v) w
 |(1,i)::r,d,a,w=>∃o v,ops[i]? =some o/\((Region.wanted o (yielded ops a.tmps)=true/\ ∀w',(execOp a.eval o).run P w'= .ok (.value v) w')\/(Region.wanted o (yielded ops a.tmps)=false/\v=undef))/\zkf P ops R Q t0 r d (a.put o.dst v) w
 |(_,i)::r,d,a,w=>∃o,ops[i]? =some o/\if Region.wanted o (yielded ops a.tmps) then o.wp P a w (fun a' w'=>(d=true\/i=t0\/R w w')/\zkf P ops R Q t0 r (d||i==t0) a' w') (NoPanic Q) else zkf P ops R Q t0 r (d||i==t0) (a.put o.dst undef) w
variable{R:World->World->Prop}
theorem zw3{i:Nat}(h:z41 md ops t0 i=true):∃ot,ops[t0]? =some ot/\ ∃e∈ot.after,Region.binds md e=true/\e.on=i:=by
 unfold z41 at h;split at h
 ·rename_i ot hot
  rw[Array.any_eq_true] at h;obtain⟨j,hj,h⟩:=h;simp only[Bool.and_eq_true,beq_iff_eq] at h;exact⟨ot,hot,ot.after[j],Array.getElem_mem hj,h.1,h.2⟩
 ·cases h
theorem zmp(hrefl:∀w,R w w)(htrans:∀{x y z},R x y->R y z->R x z)(hs:Region.noSelect ops=true):
 ∀(ord:List (Nat × Nat)) (fuel:Nat) (listed:Array Bool) (d:Bool) (a:Act) (w:World),(d=true->listed.getD t0 false=true)->(∀i∈ord.map (·.2),i<listed.size)->ord.length<=fuel->zqi ops t0 listed ord=true->zkf P ops R Q t0 ord d a w->zke P .any ops (NoPanic Q) t0 (R w) fuel listed a w:=by
 intro ord;induction ord with
 |nil=>
  intro fuel listed d a w _ _ _ hok h;have hr:Region.ready .any ops listed=[]:=by simpa[zqi] using hok
  cases fuel with
  |zero=>exact⟨hr,NoPanic.normal h⟩
  |succ fuel=>exact⟨fun _=>NoPanic.normal h,by rw[hr];simp⟩
 |cons x r ih=>
  obtain⟨b,i⟩:=x;intro fuel listed d a w hd hsz hl hok h;obtain⟨fuel,rfl⟩:∃k,fuel=k+1:=⟨fuel-1,by simp at hl;omega⟩;have hl':r.length<=fuel:=by simp at hl;omega
  have hsz':∀k∈r.map (·.2),k<(listed.setIfInBounds i true).size:=fun k hk=>by rw[Array.size_setIfInBounds];exact hsz k (by simp at hk⊢;exact .inr hk)
  have hi0:i<listed.size:=hsz i (by simp)
  match b with
  |0=>
   obtain⟨o,v,ho,hv,hr⟩:=h;simp only[zqi,Bool.and_eq_true,decide_eq_true_eq,Bool.not_eq_true'] at hok;obtain⟨h1,h2,h3,h4,h5,h6⟩:=hok;exact zn8 (R w) ho h4 hs h2 h1 (fun _ _ _ hp=>hp) (.inr ⟨fun _ hh=>hh,zw3 h3⟩) hv (.inr (hrefl w)) (.inr h5) (ih fuel _ d _ w (fun e=>zb4 (hd e)) hsz' hl' h6 hr)
  |1=>
   obtain⟨o,v,ho,hv,hr⟩:=h;simp only[zqi,Bool.and_eq_true,decide_eq_true_eq] at hok;obtain⟨h1,h2,h3,h4⟩:=hok;exact zn8 (fun _=>True) ho h3 hs h2 h1 (fun _ _ _ hp=>hp) (.inl fun _=>trivial) (hv.imp (fun hh=>⟨hh.1,fun w' _=>hh.2 w'⟩) id) (.inr (hrefl w)) (.inl fun _=>trivial) (ih fuel _ d _ w (fun e=>zb4 (hd e)) hsz' hl' h4 hr)
  |b+2=>
   obtain⟨o,ho,hc⟩:=h;simp only[zqi,Bool.and_eq_true,decide_eq_true_eq] at hok;obtain⟨h1,h3⟩:=hok;refine⟨fun h0=>(by rw[h1] at h0;cases h0),fun j hj=>?_⟩;rw[h1] at hj;obtain rfl:j=i:=by simpa using hj
   have hd':(d||j==t0)=true->(listed.setIfInBounds j true).getD t0 false=true:=by
    intro e;rw[Bool.or_eq_true,beq_iff_eq] at e;rcases e with e|rfl
    ·exact zb4 (hd e)
    ·rw[Array.getD_eq_getD_getElem?,Array.getElem?_setIfInBounds,if_pos rfl,if_pos hi0];rfl
   unfold wpOp;simp only[ho];split
   ·rename_i hw
    rw[if_pos hw] at hc;refine .inl (Oper.wp_mono (fun a' w' hh=>?_) hc);obtain⟨hR,hh⟩:=hh;have hI:=ih fuel _ _ a' w' hd' hsz' hl' h3 hh;by_cases ht:(listed.setIfInBounds j true).getD t0 false=true
    ·exact⟨.inl ht,zhn fuel _ a' w' (.inl ht) hI⟩
    ·have hR':R w w':=by
      rcases hR with hR|hR|hR
      ·exact absurd (zb4 (hd hR)) ht
      ·exact absurd (hd' (by simp[hR])) ht
      ·exact hR
     exact⟨.inr hR',zhn fuel _ a' w' (.inr fun z hz=>htrans hR' hz) hI⟩
   ·rename_i hw
    rw[if_neg hw] at hc;exact⟨.inr (hrefl w),ih fuel _ _ _ w hd' hsz' hl' h3 hc⟩
theorem zcs{id:Nat}{a:Act}{w:World}(R:World->World->Prop)(t0:Nat)(ord:List (Nat × Nat))(hrefl:∀w,R w w)(htrans:∀{x y z},R x y->R y z->R x z)(hm:P.follows .mixedOrders=true)
 (hs:Region.noSelect ops=true)(hl:(decide (ord.length<=ops.size)&&ord.all fun x=>decide (x.2<ops.size))=true)(hok:zqi ops t0 (Array.replicate ops.size false) ord=true)(h:zkf P ops R Q t0 ord false a w.drew):(Code.region id ops true).wp P Q a w:=by
 simp only[Bool.and_eq_true,decide_eq_true_eq,List.all_eq_true] at hl;refine wp_region_noPanic (wp_region_any hm (zlu _ _ _ _ (zmp hrefl htrans hs ord ops.size _ false a _ (by simp) ?_ hl.1 hok h)));intro i hi;simp only[List.mem_map] at hi;obtain⟨x,hx,rfl⟩:=hi;rw[Array.size_replicate];exact hl.2 x hx
variable{i:Nat}{r:List (Nat × Nat)}{a:Act}{w:World}{d:Bool}{v:Value}
theorem zf2(h:Q .normal a w):zkf P ops R Q t0 [] d a w:=h
section
variable{dst:Option Tmp}{op:Op}{ty:TypeId}{pos:String}{af:Array Edge}{gd:Option (Nat × Bool)}
theorem zct(ho:ops[i]? =some ⟨dst,op,ty,pos,af,gd⟩)(hw:Region.wanted ⟨dst,op,ty,pos,af,gd⟩ (yielded ops a.tmps)=true)(hv:∀w',R w w'->(execOp a.eval ⟨dst,op,ty,pos,af,gd⟩).run P w'= .ok (.value v) w')(h:zkf P ops R Q t0 r d (a.put dst v) w):zkf P ops R Q t0 ((0,i)::r) d a w:=
 ⟨_,v,ho,.inl ⟨hw,hv⟩,h⟩
theorem zb1(ho:ops[i]? =some ⟨dst,op,ty,pos,af,gd⟩)(hw:Region.wanted ⟨dst,op,ty,pos,af,gd⟩ (yielded ops a.tmps)=true)(hv:∀w',(execOp a.eval ⟨dst,op,ty,pos,af,gd⟩).run P w'= .ok (.value v) w')(h:zkf P ops R Q t0 r d (a.put dst v) w):zkf P ops R Q t0 ((1,i)::r) d a w:=
 ⟨_,v,ho,.inl ⟨hw,hv⟩,h⟩
theorem zbf(ho:ops[i]? =some ⟨dst,op,ty,pos,af,gd⟩)(hw:Region.wanted ⟨dst,op,ty,pos,af,gd⟩ (yielded ops a.tmps)=true)(h:∀K:Act->World->Prop,(∀a' w',(d=true\/i=t0\/R w w')->zkf P ops R Q t0 r (d||i==t0) a' w'->K a' w')->Oper.wp P ⟨dst,op,ty,pos,af,gd⟩ a w K (NoPanic Q)):zkf P ops R Q t0 ((2,i)::r) d a w:=
 ⟨_,ho,by rw[if_pos hw];exact h _ fun _ _ h1 h2=>⟨h1,h2⟩⟩
end
end
section
variable{P:Program}{o:Oper}{a:Act}{Q:Exit->Act->World->Prop}{K:Act->World->Prop}
theorem zkg{w:World}{t e:TypeId}{z:Value}{bytes:Nat}(E:ElT P t e z 1 bytes)(s x:Operand)
 (ho:o.op= .call {callee:= .builtin .append,args:= #[s,x],argTypes:= #[t,t]})
 {W:World}{B base m c:Nat}{v:Value}{xs news:List Value}{ad:Addr}(hown:Own w base e v xs)(hr:Reads w w.heap.size 1 (some ad) m news)(hm0:0<m)(hs:a.eval s=v)(hx:a.eval x= .slice (some ad) m c)
 (hb:Below B W w)(hbB:B<=base)(hbase:base<=w.heap.size)(h1:∀u∈news,u.oneCell'=true)
 (hn:(xs.length+m)*bytes<=140737488355328)(hm:xs.length+m<=maxLen)
 (h:∀A' c' w',xs.length+m<=c'->c'<=maxLen->Own w' base e (.slice A' (xs.length+m) c') (xs++news)->w.grownBy w' v.ownBlock->Below B W w'->K (a.put o.dst (.slice A' (xs.length+m) c')) w'):
 Oper.wp P o a w K Q:=by
 obtain⟨i,hi,hz0,hz1,hz2⟩:=info_parts E.hi;have hl:news.length=m:=by have:=hr.1;omega
 have hcells:∀j u,news[j]? =some u->w.cell? (ad.add j)=some u:=by intro j u hu;obtain⟨ad',h',_,hc⟩:=hr.2 hm0;injection h' with h';subst h';exact hc j u hu
 obtain⟨v',w',hr',hown',hg,_,_⟩:=run_append_own_at (P:=P) w base t o.type e i z 1 bytes E.ht hi hz0 hz1 hz2 E.hz (by omega) v xs.length xs hown ad m c news (by omega) hcells h1 hm hn hbase;have hxl:(xs++news).length=xs.length+m:=by simp[hl]
 have hown2:Own w' base e v' (xs++news):=by unfold Own;rw[hxl];exact hown'
 obtain⟨A',c',rfl,hc1,hc2⟩:=hown2.slice;rw[hxl] at hc1 hown2 hr';unfold Oper.wp execOp;simp only[ho,resolve,invoke,builtin,Sem.run_bind,Sem.run_pure,Result.andThen_ok,List.map_toArray,List.map_cons,List.map_nil,hs,hx,hr'];exact h A' c' w' hc1 hc2 hown2 hg (hb.grown hg (Nat.le_trans hbB hbase) (fun k hk=>by have:=(hown.lt k hk).1;omega))
end
open Go Go.RowKit
section
variable{P:Program}{o:Oper}{a:Act}{Q:Exit->Act->World->Prop}{K:Act->World->Prop}
theorem zw8{w:World}{t e:TypeId}{z:Value}{sz bytes:Nat}(E:ElT P t e z sz bytes)(s x:Operand)
 (ho:o.op= .call {callee:= .builtin .append,args:= #[s,x],argTypes:= #[t,t]})
 {W:World}{B base n m c:Nat}{v:Value}{xs news:List Value}{A:Option Addr}(hown:w.ownsRow base e sz v n xs)(hr:Reads w w.heap.size sz A m news)(hs:a.eval s=v)(hx:a.eval x= .slice A m c)
 (hb:Below B W w)(hbB:B<=base)(hbase:base<=w.heap.size)(h1:∀u∈news,u.oneCell'=true)
 (hn:(n+m)*bytes<=140737488355328)(hm:n+m<=maxLen)
 (h:∀A' c' w',n+m<=c'->c'<=maxLen->w'.ownsRow base e sz (.slice A' (n+m) c') (n+m) (xs++news)->w.grownBy w' v.ownBlock->Below B W w'->K (a.put o.dst (.slice A' (n+m) c')) w'):
 Oper.wp P o a w K Q:=by
 obtain⟨i,hi,hz0,hz1,hz2⟩:=info_parts E.hi;rcases A with _|ad
 ·have hm0:m=0:=by
   rcases Nat.eq_zero_or_pos m with h0|h0
   ·exact h0
   ·obtain⟨ad,h',_⟩:=hr.2 h0
    cases h'
  subst hm0;have hn0:news=[]:=List.eq_nil_of_length_eq_zero (by have:=hr.1;omega);subst hn0;have hrun:∀ty,(Builtin.append_ #[t,t] ty #[v,.slice none 0 c]).run P w= .ok v w:=by
   intro ty;rcases hown.2 with⟨rfl,hx0⟩|⟨g,cap,cur,rfl,_,_,hnc,_⟩
   ·simp[Builtin.append_,run_underlying E.ht,sizeOf,typeInfo,hi,Builtin.lenOf,Builtin.firstCells]
   ·simp[Builtin.append_,run_underlying E.ht,sizeOf,typeInfo,hi,Builtin.lenOf,Builtin.firstCells,hnc,storeCells]
  obtain⟨A',c',rfl,hc1,hc2⟩:=zd8 hown;unfold Oper.wp execOp;simp only[ho,resolve,invoke,builtin,Sem.run_bind,Sem.run_pure,Result.andThen_ok,List.map_toArray,List.map_cons,List.map_nil,hs,hx,hrun];exact h A' c' w hc1 hc2 (by simpa using hown) (World.grownBy.refl w _) hb
 ·have hl:news.length=m*sz:=hr.1
  have hcells:∀j u,news[j]? =some u->w.cell? (ad.add j)=some u:=by
   intro j u hu;rcases Nat.eq_zero_or_pos m with h0|h0
   ·subst h0
    have hn:news=[]:=List.eq_nil_of_length_eq_zero (by omega);subst hn;simp at hu
   ·obtain⟨ad',h',_,hc⟩:=hr.2 h0
    injection h' with h';subst h';exact hc j u hu
  obtain⟨v',w',hr',hown',hg,_,_⟩:=run_append_own_at (P:=P) w base t o.type e i z sz bytes E.ht hi hz0 hz1 hz2 E.hz E.hs v n xs hown ad m c news hl hcells h1 hm hn hbase;obtain⟨A',c',rfl,hc1,hc2⟩:=zd8 hown';unfold Oper.wp execOp;simp only[ho,resolve,invoke,builtin,Sem.run_bind,Sem.run_pure,Result.andThen_ok,List.map_toArray,List.map_cons,List.map_nil,hs,hx,hr'];exact h A' c' w' hc1 hc2 hown' hg (hb.grown hg (Nat.le_trans hbB hbase) (fun k hk=>by have:=(World.ownsRow.lt hown k hk).1;omega))
end
def zbm(v:Value):List Nat:=match v.ownBlock with|some g=>[g]|none=>[]
theorem Turns.row{w w':World}{v:Value}(h:w.grownBy w' v.ownBlock):Turns (zbm v) w w':=by
 unfold zbm;cases e:v.ownBlock with
 |none=>rw[e] at h;exact Turns.of_none h
 |some g=>rw[e] at h;exact Turns.of_far h (by simp)
theorem zoh{w:World}{base sz n:Nat}{e:TypeId}{v:Value}{xs:List Value}(h:w.ownsRow base e sz v n xs):∀x∈zbm v,base<=x/\x<w.heap.size:=by
 intro x hx;unfold zbm at hx;cases e:v.ownBlock with
 |none=>rw[e] at hx;simp at hx
 |some g=>rw[e] at hx;simp at hx;subst hx;exact World.ownsRow.lt h _ e
theorem ze2{w:World}{base sz n:Nat}{e t:TypeId}{v:Value}{xs:List Value}{g:Nat}{cs:Array Value}(h:w.ownsRow base e sz v n xs)(hg:Blk w g t cs)(hne:e≠t):g∉zbm v:=by
 intro hx;unfold zbm at hx;cases e':v.ownBlock with
 |none=>rw[e'] at hx;simp at hx
 |some g'=>rw[e'] at hx;simp at hx;subst hx;exact zas h hg hne e'
theorem zoi{w w':World}{base sz n:Nat}{e:TypeId}{v:Value}{xs:List Value}{T:List Nat}(h:w.ownsRow base e sz v n xs)(k:Turns T w w')(hT:∀x∈T,v.ownBlock≠some x):w'.ownsRow base e sz v n xs:=by
 refine⟨h.1,?_⟩;rcases h.2 with hn|⟨g,cap,cur,rfl,hbg,hgg,rest⟩
 ·exact .inl hn
 ·refine .inr ⟨g,cap,cur,rfl,hbg,?_,rest⟩
  rw[k.block g (Array.getElem?_eq_some_iff.1 hgg).1 (fun hm=>hT g hm rfl)];exact hgg
theorem zoj{w:World}{base base2 sz sz2 n n2:Nat}{e e2:TypeId}{v v2:Value}{xs xs2:List Value}(h:w.ownsRow base e sz v n xs)(h2:w.ownsRow base2 e2 sz2 v2 n2 xs2)(hne:e≠e2):∀x∈zbm v2,v.ownBlock≠some x:=by
 intro x hx;unfold zbm at hx;cases e':v2.ownBlock with
 |none=>rw[e'] at hx;simp at hx
 |some g=>
  rw[e'] at hx;simp at hx;subst hx;rcases h2.2 with⟨rfl,_⟩|⟨g',cap,cur,rfl,_,hh,_⟩
  ·simp[Value.ownBlock] at e'
  ·have:g'=x:=by simpa[Value.ownBlock] using e'
   subst this;exact zas h hh hne
open Go Go.RowKit
def zia(x y:Int):Int:=if x<y then-1 else if y<x then 1 else 0
end Go.Hm
namespace Go.Proofs.Y
open Go.RowKit Go.Hm
set_option maxRecDepth 100000 in
theorem z7d{w:World}{x:Int}:Calls Tryz.prog 184 #[.int .i64 x] w (zdl (.bool false) w):=by
 go_enter Tryz.func184,Tryz.ntmps184
 go_wp2
 go_ret
 exact⟨by simp,rfl⟩
set_option maxRecDepth 100000 in
theorem cmpI_any{w:World}{x y:Int}:Calls Tryz.prog 164 #[.int .i64 x,.int .i64 y] w (zdl (.int .i64 (zia x y)) w):=by
 have P:=fun z:Int=>Hz (z7d (w:=w) (x:=z))
 have K1:=Hz (fun(h:x<y)=>show zia x y= -1 by rw[zia,if_pos h]);have K2:=Hz (fun(h:y<x)=>show zia x y=1 by rw[zia,if_neg (by omega),if_pos h]);have K3:=Hz (fun(h: ¬x<y) (h2: ¬y<x)=>show zia x y=0 by rw[zia,if_neg h,if_neg h2]);generalize zia x y=O at*;by_cases h1:x<y
 ·have O1:=Hz (K1.out h1)
  clear K1 K2 K3;go_enter Tryz.func164,Tryz.ntmps164
  go_wp2_with (first|(go_at_call 184;refine((P _).out).mono ?_;rintro e w' ⟨rfl,rfl⟩))
  go_ret
  exact⟨by rw[O1.out];rfl,rfl⟩
 ·by_cases h2:y<x
  ·have O1:=Hz (K2.out h2)
   clear K1 K2 K3;go_enter Tryz.func164,Tryz.ntmps164
   go_wp2_with (first|(go_at_call 184;refine((P _).out).mono ?_;rintro e w' ⟨rfl,rfl⟩))
   go_ret
   exact⟨by rw[O1.out];rfl,rfl⟩
  ·have O1:=Hz (K3.out h1 h2)
   clear K1 K2 K3;go_enter Tryz.func164,Tryz.ntmps164
   go_wp2_with (first|(go_at_call 184;refine((P _).out).mono ?_;rintro e w' ⟨rfl,rfl⟩))
   go_ret
   exact⟨by rw[O1.out];rfl,rfl⟩
end Go.Proofs.Y
namespace Go.Hm
def zhy(f t s:Nat):Nat:=(t-f+s-1)/s
def z0f(f t s i:Nat):Int × Int:=(((f+i*s:Nat):Int),((min (f+(i+1)*s) t:Nat):Int))
def zgn(f t s:Nat):List (Int × Int):=(List.range (zhy f t s)).map (z0f f t s)
theorem zgo{f t s:Nat}(hs:0<s)(k:Nat):k<zhy f t s↔f+k*s<t:=by unfold zhy;rw[<-Nat.succ_le_iff,Nat.le_div_iff_mul_le hs,Nat.succ_mul];omega
theorem z0g{f t s:Nat}(hs:0<s):zhy f t s<=t-f:=by
 rcases Nat.eq_zero_or_pos (zhy f t s) with h|h
 ·omega
 ·have:=(zgo (f:=f) (t:=t) hs (zhy f t s-1)).1 (by omega)
  have:zhy f t s-1<=(zhy f t s-1)*s:=Nat.le_mul_of_pos_right _ hs;omega
theorem zfx(f t s:Nat):(zgn f t s).length=zhy f t s:=by simp[zgn]
theorem zpd{f t s i:Nat}(hi:i<zhy f t s):(zgn f t s).getD i (0,0)=z0f f t s i:=by simp[zgn,List.getD_eq_getElem?_getD,List.getElem?_map,List.getElem?_range hi]
theorem zpe{f t s k:Nat}(hk:k<zhy f t s):(zgn f t s).take (k+1)=(zgn f t s).take k++[z0f f t s k]:=by rw[zac _ k (0,0) (by rw[zfx];exact hk),zpd hk]
def atN(f t s k:Nat):Nat:=min (f+k*s) t
theorem z0h{f t s k:Nat}(hk:f+k*s<t):atN f t s k=f+k*s/\atN f t s (k+1)=atN f t s k+min s (t-atN f t s k)/\z0f f t s k=((atN f t s k:Int),(atN f t s (k+1):Int)):=by
 have h1:atN f t s k=f+k*s:=by unfold atN;omega
 refine⟨h1,?_,?_⟩
 ·rw[h1];unfold atN;rw[Nat.succ_mul];omega
 ·rw[h1];rfl
def zdq(f t s:Int):List (Int × Int):=if f<0\/t<=f\/65536<t\/s<1 then [] else zgn f.toNat t.toNat s.toNat
theorem zvd{f t s:Int}(h:f<0\/t<=f\/65536<t\/s<1):zdq f t s=[]:=by rw[zdq,if_pos h]
theorem z0i{f t s:Nat}(h1:f<t)(h2:t<=65536)(h3:0<s):zdq f t s=zgn f t s:=by rw[zdq,if_neg (by omega)];simp
theorem ztb(f t s:Int):(zdq f t s).length<=65536:=by
 unfold zdq;split
 ·simp
 ·rw[zfx]
  have:=z0g (f:=f.toNat) (t:=t.toNat) (s:=s.toNat) (by omega);omega
def qkd(x:Int × Int)(f t:Int):Prop:=x.1<t/\f<x.2/\f<t
instance(x:Int × Int)(f t:Int):Decidable (qkd x f t):=by unfold qkd;exact inferInstance
end Go.Hm
