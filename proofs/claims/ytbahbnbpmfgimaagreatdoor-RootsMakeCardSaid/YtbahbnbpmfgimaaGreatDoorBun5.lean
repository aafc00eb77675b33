import Derived.Test.YtbahbnbpmfgimaaGreatDoorBun2
set_option maxHeartbeats 400000
namespace Go.Hm
open Go.RowKit
section
variable{P:Program}{ops:Array Oper}{Q:Exit->Act->World->Prop}{md:Region.Mode}{S:World->Prop}{t0:Nat}
def zkp(P:Program)(md:Region.Mode)(ops:Array Oper)(Q:Exit->Act->World->Prop)(t0:Nat)(S:World->Prop):Nat->Array Bool->Act->World->Prop
 |0,listed,a,w=>Region.ready md ops listed=[]/\Q .normal a w
 |fuel+1,listed,a,w=>(Region.ready md ops listed=[]->Q .normal a w)/\
  ∀i∈Region.ready md ops listed,wpOp P ops Q i (fun a' w'=>((listed.setIfInBounds i true).getD t0 false=true\/S w')/\zkp P md ops Q t0 S fuel (listed.setIfInBounds i true) a' w') a w
theorem zl4:∀(fuel:Nat) (listed:Array Bool) (a:Act) (w:World),zkp P md ops Q t0 S fuel listed a w->wpAny P md ops Q fuel listed a w
 |0,_,_,_,h=>h
 |fuel+1,_,_,_,h=>⟨h.1,fun i hi=>wpOp_mono (fun a' w' h'=>zl4 fuel _ a' w' h'.2) (h.2 i hi)⟩
theorem zce{l:Array Bool}{i t:Nat}(h:l.getD t false=true):(l.setIfInBounds i true).getD t false=true:=by
 rw[qob] at h⊢;rw[qoc];split
 ·split
  ·rfl
  ·rename_i e h2;subst e;rw[qmb (by omega)] at h;simp at h
 ·exact h
theorem zg3{l:Array Bool}{i t:Nat}(hne:i≠t):(l.setIfInBounds i true).getD t false=l.getD t false:=by rw[qob,qob,qoc,if_neg hne]
theorem zhz{S':World->Prop}:∀(fuel:Nat) (listed:Array Bool) (a:Act) (w:World),(listed.getD t0 false=true\/ ∀w,S w->S' w)->zkp P md ops Q t0 S fuel listed a w->zkp P md ops Q t0 S' fuel listed a w
 |0,_,_,_,_,hh=>hh
 |fuel+1,listed,_,_,h,hh=>⟨hh.1,fun i hi=>wpOp_mono (fun a' w' h'=>⟨by
  rcases h with h|h
  ·exact .inl (zce h)
  ·exact h'.1.imp id (h w'),zhz fuel _ a' w' (h.imp zce id) h'.2⟩) (hh.2 i hi)⟩
theorem zul{i:Nat}{oi:Oper}{v:Value}(hi:ops[i]? =some oi)(hit:i≠t0)(hsel:∀(j:Nat) (o:Oper) cs b,ops[j]? =some o->o.op≠ .select cs b)
 (hQ:∀c a w,Q (.panic c) (a.put oi.dst v) w->Q (.panic c) a w)(V:World->Prop)
 (hV:(∀w,V w)\/((∀w,S w->V w)/\ ∃ot,ops[t0]? =some ot/\ ∃e∈ot.after,Region.binds md e=true/\e.on=i)):
 ∀(fuel:Nat) (listed:Array Bool) (a:Act) (w:World),
  (∀j oj,ops[j]? =some oj->j≠i->listed.getD j true=false->(∀e∈oj.after,Region.binds md e=true->e.on≠i)->oi.apart ops oj=true)->
  i∈Region.ready md ops listed->YieldsIf P ops V oi v a->(listed.getD t0 false=true\/S w)->((∀w,V w)\/listed.getD t0 false=false)->
  zkp P md ops Q t0 S fuel (listed.setIfInBounds i true) (a.put oi.dst v) w->zkp P md ops Q t0 S (fuel+1) listed a w:=by
 have hVw:∀(listed:Array Bool) (w:World),(listed.getD t0 false=true\/S w)->((∀w,V w)\/listed.getD t0 false=false)->V w:=by
  intro listed w hS ht;rcases ht with ht|ht
  ·exact ht w
  ·rcases hS with hS|hS
   ·rw[ht] at hS;cases hS
   ·rcases hV with hV|hV
    ·exact hV w
    ·exact hV.1 w hS
 intro fuel;induction fuel with
 |zero=>
  intro listed a w _ hr hy hS ht H;refine⟨fun h=>(by rw[h] at hr;cases hr),fun j hj=>?_⟩;by_cases hji:j=i
  ·subst hji
   exact hy.wpOp hi (hVw listed w hS ht) ⟨hS.imp zce id,H⟩
  ·have:=ready_mono hj hji
   rw[H.1] at this;cases this
 |succ fuel ih=>
  intro listed a w hfree hr hy hS ht H;refine⟨fun h=>(by rw[h] at hr;cases hr),fun j hj=>?_⟩;by_cases hji:j=i
  ·subst hji
   exact hy.wpOp hi (hVw listed w hS ht) ⟨hS.imp zce id,H⟩
  ·have h1:=H.2 j (ready_mono hj hji)
   obtain⟨hjun,oj,hoj,hall⟩:=mem_ready.1 hj;have hnot:∀e∈oj.after,Region.binds md e=true->e.on≠i:=fun e he hb heq=>by
    have h1:=hall e he hb;have h0:=(mem_ready.1 hr).1;rw[heq] at h1;rcases qma i listed.size with h'|h'
    ·simp[h'] at h0 h1;rw[h0] at h1;cases h1
    ·simp[Array.getElem?_eq_none h'] at h1
   have h2:=wpOp_putIf hoj (hfree j oj hoj hji hjun hnot) (fun cs b=>hsel i oi cs b hi) (fun cs b=>hsel j oj cs b hoj) hQ hy h1;have hfree':∀k ok,ops[k]? =some ok->k≠i->(listed.setIfInBounds j true).getD k true=false->
    (∀e∈ok.after,Region.binds md e=true->e.on≠i)->oi.apart ops ok=true:=fun k ok hk hki hun hno=>by
    refine hfree k ok hk hki ?_ hno;by_cases hjk:j=k
    ·subst hjk;exact hjun
    ·rw[getD_set_ne true hjk] at hun;exact hun
   have ht':(∀w,V w)\/(listed.setIfInBounds j true).getD t0 false=false:=by
    rcases hV with hV|⟨_,ot,hot,e,he,hb,heq⟩
    ·exact .inl hV
    ·refine ht.imp id fun ht=>?_
     have hjt:j≠t0:=by rintro rfl;rw[hoj] at hot;injection hot with hot;subst hot;exact hnot e he hb heq
     rw[zg3 hjt];exact ht
   refine wpOp_mono (fun a' w' h3=>?_) h2;have hS':(listed.setIfInBounds j true).getD t0 false=true\/S w':=by refine h3.2.1.imp (fun h4=>?_) id;rw[qod _ _ (fun e=>hji e.symm),zg3 hit] at h4;exact h4
   refine⟨hS',ih (listed.setIfInBounds j true) a' w' hfree' (ready_mono hr (qoe hji)) h3.1 hS' ht' ?_⟩;rw[qod _ _ hji];exact h3.2.2
theorem zor{i:Nat}{oi:Oper}{v:Value}{fuel:Nat}{listed:Array Bool}{a:Act}{w:World}(V:World->Prop)(hi:ops[i]? =some oi)(hit:i≠t0)
 (hs:Region.noSelect ops=true)(hf:Region.free md ops listed i=true)(hr:(Region.ready md ops listed).contains i=true)
 (hQ:∀c a w,Q (.panic c) (a.put oi.dst v) w->Q (.panic c) a w)
 (hV:(∀w,V w)\/((∀w,S w->V w)/\ ∃ot,ops[t0]? =some ot/\ ∃e∈ot.after,Region.binds md e=true/\e.on=i))
 (hy:YieldsIf P ops V oi v a)(hS:listed.getD t0 false=true\/S w)(ht:(∀w,V w)\/listed.getD t0 false=false)
 (h:zkp P md ops Q t0 S fuel (listed.setIfInBounds i true) (a.put oi.dst v) w):zkp P md ops Q t0 S (fuel+1) listed a w:=
 zul hi hit (Region.noSelect_spec hs) hQ V hV fuel listed a w (Region.free_spec hi hf) (by simpa using hr) hy hS ht h
def z5e(md:Region.Mode)(ops:Array Oper)(t0 i:Nat):Bool:=match ops[t0]? with
 |some ot=>ot.after.any fun e=>Region.binds md e&&e.on==i
 |none=>false
def zqw(ops:Array Oper)(t0:Nat):Array Bool->List (Nat × Nat)->Bool
 |listed,[]=>(Region.ready .any ops listed).isEmpty
 |listed,(0,i)::r=>(Region.ready .any ops listed).contains i&&(Region.free .any ops listed i&&(z5e .any ops t0 i&&(decide (i≠t0)&&(!listed.getD t0 false&&zqw ops t0 (listed.setIfInBounds i true) r))))
 |listed,(1,i)::r=>(Region.ready .any ops listed).contains i&&(Region.free .any ops listed i&&(decide (i≠t0)&&zqw ops t0 (listed.setIfInBounds i true) r))
 |listed,(_,i)::r=>decide (Region.ready .any ops listed=[i])&&zqw ops t0 (listed.setIfInBounds i true) r
def zkq(P:Program)(ops:Array Oper)(R:World->World->Prop)(Q:Exit->Act->World->Prop)(t0:Nat):List (Nat × Nat)->Bool->Act->World->Prop
 | [],_,a,w=>Q .normal a w
 |(0,i)::r,d,a,w=>∃o v,ops[i]? =some o/\((Region.wanted o (yielded ops a.tmps)=true/\ ∀w',R w w'->(execOp a.eval o).run P w'= .ok (.value v) w')\/(Region.wanted o (yielded ops a.tmps)=false/\v=undef))/\zkq P ops R Q t0 r d (a.put o.dst v) w
 |(1,i)::r,d,a,w=>∃o v,ops[i]? =some o/\((Region.wanted o (yielded ops a.tmps)=true/\ ∀w',(execOp a.eval o).run P w'= .ok (.value v) w')\/(Region.wanted o (yielded ops a.tmps)=false/\v=undef))/\zkq P ops R Q t0 r d (a.put o.dst v) w
 |(_,i)::r,d,a,w=>∃o,ops[i]? =some o/\if Region.wanted o (yielded ops a.tmps) then o.wp P a w (fun a' w'=>(d=true\/i=t0\/R w w')/\zkq P ops R Q t0 r (d||i==t0) a' w') (NoPanic Q) else zkq P ops R Q t0 r (d||i==t0) (a.put o.dst undef) w
variable{R:World->World->Prop}
theorem zxj{i:Nat}(h:z5e md ops t0 i=true):∃ot,ops[t0]? =some ot/\ ∃e∈ot.after,Region.binds md e=true/\e.on=i:=by
 unfold z5e at h;split at h
 ·rename_i ot hot
  rw[Array.any_eq_true] at h;obtain⟨j,hj,h⟩:=h;simp only[qnt,beq_iff_eq] at h;exact⟨ot,hot,ot.after[j],Array.getElem_mem hj,h.1,h.2⟩
 ·cases h
theorem zm3(hrefl:∀w,R w w)(htrans:∀{x y z},R x y->R y z->R x z)(hs:Region.noSelect ops=true):
 ∀(ord:List (Nat × Nat)) (fuel:Nat) (listed:Array Bool) (d:Bool) (a:Act) (w:World),(d=true->listed.getD t0 false=true)->(∀i∈ord.map (·.2),i<listed.size)->ord.length<=fuel->zqw ops t0 listed ord=true->zkq P ops R Q t0 ord d a w->zkp P .any ops (NoPanic Q) t0 (R w) fuel listed a w:=by
 intro ord;induction ord with
 |nil=>
  intro fuel listed d a w _ _ _ hok h;have hr:Region.ready .any ops listed=[]:=by simpa[zqw] using hok
  cases fuel with
  |zero=>exact⟨hr,NoPanic.normal h⟩
  |succ fuel=>exact⟨fun _=>NoPanic.normal h,by rw[hr];simp⟩
 |cons x r ih=>
  obtain⟨b,i⟩:=x;intro fuel listed d a w hd hsz hl hok h;obtain⟨fuel,rfl⟩:∃k,fuel=k+1:=⟨fuel-1,by simp at hl;omega⟩;have hl':r.length<=fuel:=by simp at hl;omega
  have hsz':∀k∈r.map (·.2),k<(listed.setIfInBounds i true).size:=fun k hk=>by rw[Array.size_setIfInBounds];exact hsz k (by simp at hk⊢;exact .inr hk)
  have hi0:i<listed.size:=hsz i (by simp)
  match b with
  |0=>
   obtain⟨o,v,ho,hv,hr⟩:=h;simp only[zqw,qnt,decide_eq_true_eq,Bool.not_eq_true'] at hok;obtain⟨h1,h2,h3,h4,h5,h6⟩:=hok;exact zor (R w) ho h4 hs h2 h1 (fun _ _ _ hp=>hp) (.inr ⟨fun _ hh=>hh,zxj h3⟩) hv (.inr (hrefl w)) (.inr h5) (ih fuel _ d _ w (fun e=>zce (hd e)) hsz' hl' h6 hr)
  |1=>
   obtain⟨o,v,ho,hv,hr⟩:=h;simp only[zqw,qnt,decide_eq_true_eq] at hok;obtain⟨h1,h2,h3,h4⟩:=hok;exact zor (fun _=>True) ho h3 hs h2 h1 (fun _ _ _ hp=>hp) (.inl fun _=>trivial) (hv.imp (fun hh=>⟨hh.1,fun w' _=>hh.2 w'⟩) id) (.inr (hrefl w)) (.inl fun _=>trivial) (ih fuel _ d _ w (fun e=>zce (hd e)) hsz' hl' h4 hr)
  |b+2=>
   obtain⟨o,ho,hc⟩:=h;simp only[zqw,qnt,decide_eq_true_eq] at hok;obtain⟨h1,h3⟩:=hok;refine⟨fun h0=>(by rw[h1] at h0;cases h0),fun j hj=>?_⟩;rw[h1] at hj;obtain rfl:j=i:=by simpa using hj
   have hd':(d||j==t0)=true->(listed.setIfInBounds j true).getD t0 false=true:=by
    intro e;rw[qof,beq_iff_eq] at e;rcases e with e|rfl
    ·exact zce (hd e)
    ·rw[qob,qoc,if_pos rfl,if_pos hi0];rfl
   unfold wpOp;simp only[ho];split
   ·rename_i hw
    rw[if_pos hw] at hc;refine .inl (Oper.wp_mono (fun a' w' hh=>?_) hc);obtain⟨hR,hh⟩:=hh;have hI:=ih fuel _ _ a' w' hd' hsz' hl' h3 hh;by_cases ht:(listed.setIfInBounds j true).getD t0 false=true
    ·exact⟨.inl ht,zhz fuel _ a' w' (.inl ht) hI⟩
    ·have hR':R w w':=by
      rcases hR with hR|hR|hR
      ·exact absurd (zce (hd hR)) ht
      ·exact absurd (hd' (by simp[hR])) ht
      ·exact hR
     exact⟨.inr hR',zhz fuel _ a' w' (.inr fun z hz=>htrans hR' hz) hI⟩
   ·rename_i hw
    rw[if_neg hw] at hc;exact⟨.inr (hrefl w),ih fuel _ _ _ w hd' hsz' hl' h3 hc⟩
theorem zcf{id:Nat}{a:Act}{w:World}(R:World->World->Prop)(t0:Nat)(ord:List (Nat × Nat))(hrefl:∀w,R w w)(htrans:∀{x y z},R x y->R y z->R x z)(hm:P.follows .mixedOrders=true)
 (hs:Region.noSelect ops=true)(hl:(decide (ord.length<=ops.size)&&ord.all fun x=>decide (x.2<ops.size))=true)(hok:zqw ops t0 (Array.replicate ops.size false) ord=true)(h:zkq P ops R Q t0 ord false a w.drew):(Code.region id ops true).wp P Q a w:=by
 simp only[qnt,decide_eq_true_eq,qog] at hl;refine wp_region_noPanic (wp_region_any hm (zl4 _ _ _ _ (zm3 hrefl htrans hs ord ops.size _ false a _ (by simp) ?_ hl.1 hok h)));intro i hi;simp only[qly] at hi;obtain⟨x,hx,rfl⟩:=hi;rw[Array.size_replicate];exact hl.2 x hx
variable{i:Nat}{r:List (Nat × Nat)}{a:Act}{w:World}{d:Bool}{v:Value}
theorem zfd(h:Q .normal a w):zkq P ops R Q t0 [] d a w:=h
section
variable{dst:Option Tmp}{op:Op}{ty:TypeId}{pos:String}{af:Array Edge}{gd:Option (Nat × Bool)}
theorem zco(ho:ops[i]? =some ⟨dst,op,ty,pos,af,gd⟩)(hw:Region.wanted ⟨dst,op,ty,pos,af,gd⟩ (yielded ops a.tmps)=true)(hv:∀w',R w w'->(execOp a.eval ⟨dst,op,ty,pos,af,gd⟩).run P w'= .ok (.value v) w')(h:zkq P ops R Q t0 r d (a.put dst v) w):zkq P ops R Q t0 ((0,i)::r) d a w:=
 ⟨_,v,ho,.inl ⟨hw,hv⟩,h⟩
theorem zb2(ho:ops[i]? =some ⟨dst,op,ty,pos,af,gd⟩)(hw:Region.wanted ⟨dst,op,ty,pos,af,gd⟩ (yielded ops a.tmps)=true)(hv:∀w',(execOp a.eval ⟨dst,op,ty,pos,af,gd⟩).run P w'= .ok (.value v) w')(h:zkq P ops R Q t0 r d (a.put dst v) w):zkq P ops R Q t0 ((1,i)::r) d a w:=
 ⟨_,v,ho,.inl ⟨hw,hv⟩,h⟩
theorem zbl(ho:ops[i]? =some ⟨dst,op,ty,pos,af,gd⟩)(hw:Region.wanted ⟨dst,op,ty,pos,af,gd⟩ (yielded ops a.tmps)=true)(h:∀K:Act->World->Prop,(∀a' w',(d=true\/i=t0\/R w w')->zkq P ops R Q t0 r (d||i==t0) a' w'->K a' w')->Oper.wp P ⟨dst,op,ty,pos,af,gd⟩ a w K (NoPanic Q)):zkq P ops R Q t0 ((2,i)::r) d a w:=
 ⟨_,ho,by rw[if_pos hw];exact h _ fun _ _ h1 h2=>⟨h1,h2⟩⟩
end
end
section
variable{P:Program}{o:Oper}{a:Act}{Q:Exit->Act->World->Prop}{K:Act->World->Prop}
theorem zkr{w:World}{t e:TypeId}{z:Value}{bytes:Nat}(E:ElT P t e z 1 bytes)(s x:Operand)
 (ho:o.op= .call {callee:= .builtin .append,args:= #[s,x],argTypes:= #[t,t]})
 {W:World}{B base m c:Nat}{v:Value}{xs news:List Value}{ad:Addr}(hown:Own w base e v xs)(hr:Reads w w.heap.size 1 (some ad) m news)(hm0:0<m)(hs:a.eval s=v)(hx:a.eval x= .slice (some ad) m c)
 (hb:Below B W w)(hbB:B<=base)(hbase:base<=w.heap.size)(h1:∀u∈news,u.oneCell'=true)
 (hn:(xs.length+m)*bytes<=140737488355328)(hm:xs.length+m<=maxLen)
 (h:∀A' c' w',xs.length+m<=c'->c'<=maxLen->Own w' base e (.slice A' (xs.length+m) c') (xs++news)->w.grownBy w' v.ownBlock->Below B W w'->K (a.put o.dst (.slice A' (xs.length+m) c')) w'):
 Oper.wp P o a w K Q:=by
 obtain⟨i,hi,hz0,hz1,hz2⟩:=info_parts E.hi;have hl:news.length=m:=by have:=hr.1;omega
 have hcells:∀j u,news[j]? =some u->w.cell? (ad.add j)=some u:=by intro j u hu;obtain⟨ad',h',_,hc⟩:=hr.2 hm0;injection h' with h';subst h';exact hc j u hu
 obtain⟨v',w',hr',hown',hg,_,_⟩:=run_append_own_at (P:=P) w base t o.type e i z 1 bytes E.ht hi hz0 hz1 hz2 E.hz (by omega) v xs.length xs hown ad m c news (by omega) hcells h1 hm hn hbase;have hxl:(xs++news).length=xs.length+m:=by simp[hl]
 have hown2:Own w' base e v' (xs++news):=by unfold Own;rw[hxl];exact hown'
 obtain⟨A',c',rfl,hc1,hc2⟩:=hown2.slice;rw[hxl] at hc1 hown2 hr';unfold Oper.wp execOp;simp only[ho,resolve,invoke,builtin,qrb,qrc,qrd,qmo,qmp,qmq,hs,hx,hr'];exact h A' c' w' hc1 hc2 hown2 hg (hb.grown hg (qlw hbB hbase) (fun k hk=>by have:=(hown.lt k hk).1;omega))
end
end Go.Hm
namespace Go.Proofs.Y
open Go.RowKit Go.Hm
def Cur(w:World)(g:Nat)(l:List Nat)(bad:Bool):Prop:=
 ∃A c,Blk w g 180 #[.slice A l.length c,.bool bad]/\l.length<=c/\c<=maxLen/\TR w 5 A l.length (zah .u8 l)/\(∀x∈l,x<256)/\(bad=true->l=[])
section
variable{w w':World}{g:Nat}{l:List Nat}{bad:Bool}
theorem Cur.lt(h:Cur w g l bad):g<w.heap.size:=by obtain⟨A,c,h1,_⟩:=h;exact h1.lt
theorem Cur.len(h:Cur w g l bad):l.length<=maxLen:=by obtain⟨A,c,_,h1,h2,_⟩:=h;omega
theorem Cur.below(h:Cur w g l bad)(hb:Below w.heap.size w w'):Cur w' g l bad:=by obtain⟨A,c,h1,h2,h3,h4,h5,h6⟩:=h;exact⟨A,c,h1.below hb h1.lt,h2,h3,h4.below hb,h5,h6⟩
theorem Cur.keep{g':Nat}{t:TypeId}{cs:Array Value}(h:Cur w g l bad)(hg:w.grownBy w' (some g'))(hT:Blk w g' t cs)(hne:g≠g')(ht:5≠t):Cur w' g l bad:=by obtain⟨A,c,h1,h2,h3,h4,h5,h6⟩:=h;exact⟨A,c,h1.grown hg (by simpa using hne),h2,h3,h4.keep hg hT ht,h5,h6⟩
theorem Cur.blk(h:Cur w g l bad):∃cs,Blk w g 180 cs:=by obtain⟨A,c,h1,_⟩:=h;exact⟨_,h1⟩
end
def zdk(e0:Ending)(g:Nat)(l:List Nat)(bad:Bool)(w:World)(e:Ending)(w':World):Prop:=e=e0/\Cur w' g l bad/\w.grownBy w' (some g)
theorem zq0{w:World}{g i j:Nat}{x y:Value}:w.grownBy ((w.setCell ⟨g,i,none⟩ x).setCell ⟨g,j,none⟩ y) (some g):=
 ⟨rfl,rfl,rfl,by simp[World.setCell],fun k _ hne=>(qq7 _ _ _ _ (by intro e;exact hne (by rw[e]))).trans (qq7 _ _ _ _ (by intro e;exact hne (by rw[e])))⟩
theorem zch{w:World}{g i:Nat}{x:Value}:w.grownBy (w.setCell ⟨g,i,none⟩ x) (some g):=
 ⟨rfl,rfl,rfl,by simp[World.setCell],fun k _ hne=>qq7 _ _ _ _ (by intro e;exact hne (by rw[e]))⟩
theorem zh2{w:World}{g:Nat}{l:List Nat}{bad:Bool}(h:Cur w g l bad):
 Calls Tryz.prog 116 #[.pointer (some ⟨g,0,none⟩)] w (zdk (.returned (.tuple #[])) g [] true w):=by
 obtain⟨A,c,h1,h2,h3,h4,h5,h6⟩:=h;have c0:=h1.cell 0;have c1:=h1.cell 1;have f0:=h1.frozen 0;have f1:=h1.frozen 1;simp at c0 c1;have H1:=qrf h1;clear h1;go_enter Tryz.func116,Tryz.ntmps116
 go_wp2
 go_end0
 refine⟨rfl,⟨none,0,?_,by simp,by simp[maxLen],TR.nil_,by simp,by simp⟩,zq0⟩;simpa using(H1.out.set_ 0 (.slice none 0 0)).set_ 1 (.bool true)
def zs4(l:List Nat)(w:World)(e:Ending)(w':World):Prop:=e= .returned (.int .i64 (l.length:Int))/\w=w'
def zs5(b:Bool)(w:World)(e:Ending)(w':World):Prop:=e= .returned (.bool b)/\w=w'
theorem qby{w:World}{g:Nat}{l:List Nat}{bad:Bool}(h:Cur w g l bad):Calls Tryz.prog 168 #[.pointer (some ⟨g,0,none⟩)] w (zs4 l w):=by
 obtain⟨A,c,h1,h2,h3,h4,h5,h6⟩:=h;have c0:=h1.cell 0;simp at c0;clear h1 h4 h5 h6;go_enter Tryz.func168,Tryz.ntmps168
 go_wp2
 go_ret
 exact⟨rfl,rfl⟩
theorem zj9{w:World}{g:Nat}{l:List Nat}{bad:Bool}(h:Cur w g l bad):Calls Tryz.prog 98 #[.pointer (some ⟨g,0,none⟩)] w (zs5 bad w):=by
 obtain⟨A,c,h1,h2,h3,h4,h5,h6⟩:=h;have c1:=h1.cell 1;simp at c1;clear h1 h4 h5 h6;go_enter Tryz.func98,Tryz.ntmps98
 go_wp2
 go_ret
 exact⟨rfl,rfl⟩
theorem qgn{w:World}{g:Nat}{l:List Nat}{bad:Bool}(h:Cur w g l bad):Calls Tryz.prog 100 #[.pointer (some ⟨g,0,none⟩)] w (zs5 (!bad&&l.isEmpty) w):=by
 obtain⟨A,c,h1,h2,h3,h4,h5,h6⟩:=h;have c0:=h1.cell 0;have c1:=h1.cell 1;simp at c0 c1;clear h1 h4 h5 h6;cases bad
 ·go_enter Tryz.func100,Tryz.ntmps100
  go_wp2
  go_ret
  refine⟨?_,rfl⟩;cases l<;> simp;omega
 ·go_enter Tryz.func100,Tryz.ntmps100
  go_wp2
  go_ret
  exact⟨rfl,rfl⟩
def zk0(g:Nat)(l:List Nat)(n:Nat)(w:World)(e:Ending)(w':World):Prop:=
 ∃A c,e= .returned (.slice A n c)/\TR w' 5 A n (zah .u8 (l.take n))/\Cur w' g (l.drop n) false/\w.grownBy w' (some g)
theorem qbz{w:World}{g:Nat}{l:List Nat}{n c:Nat}{A A':Option Addr}(h1:Blk w g 180 #[.slice A l.length c,.bool false])(h2:l.length<=c)(h3:c<=maxLen)(h4:TR w 5 A l.length (zah .u8 l))(h5:∀x∈l,x<256)(hn:n<=l.length)
 (hA:A'=if c=n then A else A.map (·.add n)):zk0 g l n w (.returned (.slice A n c)) (w.setCell ⟨g,0,none⟩ (.slice A' (l.length-n) (c-n))):=by
 have hg:w.grownBy (w.setCell ⟨g,0,none⟩ (.slice A' (l.length-n) (c-n))) (some g):=zch;have ht:=h4.take hn;rw[ze2] at ht;have hc:=h4.cut hn h2;rw[zei,<-hA] at hc;refine⟨A,c,rfl,ht.keep hg h1 (by decide),⟨A',c-n,?_,by rw[ql0];omega,by omega,?_,fun x hx=>h5 x (qoo hx),by simp⟩,hg⟩
 ·rw[ql0]
  simpa using h1.set_ 0 (.slice A' (l.length-n) (c-n))
 ·rw[ql0]
  exact hc.keep hg h1 (by decide)
theorem zk1{w:World}{g:Nat}{l:List Nat}{n:Nat}(h:Cur w g l false)(hn:n<=l.length):Calls Tryz.prog 135 #[.pointer (some ⟨g,0,none⟩),.int .i64 (n:Int)] w (zk0 g l n w):=by
 obtain⟨A,c,h1,h2,h3,h4,h5,_⟩:=h;have c0:=h1.cell 0;have c1:=h1.cell 1;have f0:=h1.frozen 0;simp at c0 c1;have F:=qrf (qbz (A':=if c=n then A else A.map (·.add n)) h1 h2 h3 h4 h5 hn rfl);clear h1 h4 h5;have h3':=h3;unfold maxLen at h3';by_cases hcn:c=n
 ·subst hcn
  go_enter Tryz.func135,Tryz.ntmps135
  go_wp2
  all_goals first|(exfalso;omega)|go_ret
  have F':=F.out;rw[show l.length-c=0 by omega,qn6] at F';simpa using F'
 ·have Hcn:=qrf hcn
  clear hcn;go_enter Tryz.func135,Tryz.ntmps135
  go_wp2
  all_goals first|(exfalso;have:=Hcn.out;omega)|go_ret
  have F':=F.out;rw[if_neg Hcn.out] at F';exact F'
theorem zs6{w:World}{g:Nat}{l:List Nat}{bad:Bool}{n:Int}(h:Cur w g l bad)(hn:bad=true\/n<0\/(l.length:Int)<n)(h1: -9223372036854775808<=n)(h2:n<=9223372036854775807):
 Calls Tryz.prog 135 #[.pointer (some ⟨g,0,none⟩),.int .i64 n] w (zdk (.returned (.slice none 0 0)) g [] true w):=by
 have hF:=zh2 h;have HF:=qrf hF;clear hF;obtain⟨A,c,b1,_,_,_,_,_⟩:=h;have c0:=b1.cell 0;have c1:=b1.cell 1;simp at c0 c1;clear b1;cases bad
 ·by_cases hn0:n<0
  ·clear hn
   go_enter Tryz.func135,Tryz.ntmps135
   go_wp2_with (go_at_call 116;refine HF.out.mono ?_;rintro e w' ⟨rfl,k1,k2⟩)
   go_ret
   exact⟨rfl,k1,k2⟩
  ·have hn1:(l.length:Int)<n:=by rcases hn with hn|hn|hn<;> first|cases hn|omega
   clear hn;have hn0':0<=n:=by omega
   clear hn0;go_enter Tryz.func135,Tryz.ntmps135
   go_wp2_with (go_at_call 116;refine HF.out.mono ?_;rintro e w' ⟨rfl,k1,k2⟩)
   go_ret
   exact⟨rfl,k1,k2⟩
 ·clear hn
  go_enter Tryz.func135,Tryz.ntmps135
  go_wp2_with (go_at_call 116;refine HF.out.mono ?_;rintro e w' ⟨rfl,k1,k2⟩)
  go_ret
  exact⟨rfl,k1,k2⟩
def z6q(l:List Nat)(w:World)(e:Ending)(w':World):Prop:=
 ∃A n c,e= .returned (.slice A n c)/\Own w' w.heap.size 5 (.slice A n c) (zah .u8 l)/\Below w.heap.size w w'
theorem zhk{w:World}{A:Option Addr}{n c:Nat}{l:List Nat}(h:Reads w w.heap.size 1 A n (zah .u8 l))(hl:n<=140737488355328):
 Calls Tryz.prog 42 #[.slice A n c] w (z6q l w):=by
 obtain rfl:=h.len;rcases A with _|ad
 ·have hl0:l.length=0:=by
   rcases qmm l.length with h0|h0
   ·exact h0
   ·obtain⟨ad,h',_⟩:=h.2 h0
    cases h'
  obtain rfl:l=[]:=qmn hl0;have hq:=fun W:World=>qrm (P:=Tryz.prog) W 24 5 none 0 c 0 0 elB.ht
  go_enter Tryz.func42,Tryz.ntmps42
  go_wp2
  go_ret
  exact⟨none,0,0,rfl,qru,qq8 _ _⟩
 ·have hq:=fun W:World=>qrm (P:=Tryz.prog) W 24 5 (some ad) l.length c 0 0 elB.ht
  go_enter Tryz.func42,Tryz.ntmps42
  go_wp2_with (first
   |(refine zal elB rfl (.tmp 5) (.tmp 6) rfl (W:=w) (B:=w.heap.size) (k:= .u8) (l:=[]) (l2:=l) (c2:=c) (Own.empty _ _) ((h.alloc (ql6 _) _).more (by simp)) rfl rfl ((qq8 _ _).alloc (ql6 _) _) (ql6 _) (by simp) (by omega) (by simp only[maxLen];omega) ?_
     simp only[qmy,qmx];intro A' c' w' k1 k2 k3 k4 k5 k6))
  go_ret
  exact⟨A',_,c',rfl,k3,k5⟩
def qb0(l:List Nat)(w:World)(e:Ending)(w':World):Prop:=
 ∃g,e= .returned (.pointer (some ⟨g,0,none⟩))/\w.heap.size<=g/\Cur w' g l false/\Below w.heap.size w w'
theorem zs7{w:World}{A:Option Addr}{n c:Nat}{l:List Nat}(h:Reads w w.heap.size 1 A n (zah .u8 l))(hl:n<=140737488355328)(h8:∀x∈l,x<256):
 Calls Tryz.prog 94 #[.slice A n c] w (qb0 l w):=by
 obtain rfl:=h.len;go_enter Tryz.func94,Tryz.ntmps94
 go_wp2_with (go_at_call 42;refine(zhk h hl).mono ?_;rintro e w1 ⟨A',n',c',rfl,k1,k2⟩)
 go_ret
 have hc:=k1.cap;obtain rfl:n'=l.length:=by have:=k1.len;rwa[zaa] at this
 exact⟨_,rfl,k2.size,⟨A',c',qrv _ _ _,by omega,by omega,(qry k1).alloc _,h8,by simp⟩,k2.alloc k2.size _⟩
def qb1(g:Nat)(l:List Nat)(n:Nat)(w:World)(e:Ending)(w':World):Prop:=
 ∃A c,e= .returned (.slice A n c)/\Own w' w.heap.size 5 (.slice A n c) (zah .u8 (l.take n))/\Cur w' g (l.drop n) false/\w.grownBy w' (some g)
theorem zh3{w w1 w2:World}{row:Option Nat}(h:w.grownBy w1 row)(hb:Below w1.heap.size w1 w2):w.grownBy w2 row:=
 ⟨hb.os.trans h.os,hb.tape.trans h.tape,hb.output.trans h.output,qlw h.size hb.size,fun k hk hne=>(hb.block k (qlz hk h.size)).trans (h.block k hk hne)⟩
theorem z6r{w:World}{g:Nat}{l:List Nat}{n:Nat}(h:Cur w g l false)(hn:n<=l.length)(hs:n<=140737488355328):
 Calls Tryz.prog 136 #[.pointer (some ⟨g,0,none⟩),.int .i64 (n:Int)] w (qb1 g l n w):=by
 have hlt:(l.take n).length=n:=by rw[ql2];omega
 go_enter Tryz.func136,Tryz.ntmps136
 go_wp2_with (first
  |(go_at_call 135;refine(zk1 h hn).mono ?_;rintro e w1 ⟨A',c',rfl,k1,k2,k3⟩
    have k4:=k1.1;have C:=qrf (zhk (c:=c') k4 hs);have hg:=k3.size)
  |(go_at_call 42;refine C.out.mono ?_;rintro e w2 ⟨A2,n2,c2,rfl,k5,k6⟩))
 go_ret
 obtain rfl:n2=n:=by have:=k5.len;rwa[zaa,hlt] at this
 exact⟨A2,c2,rfl,k5.base_le hg,k2.below k6,zh3 k3 k6⟩
theorem qb2{w:World}{g:Nat}{l:List Nat}{bad:Bool}{n:Int}(h:Cur w g l bad)(hn:bad=true\/n<0\/(l.length:Int)<n)(h1: -9223372036854775808<=n)(h2:n<=9223372036854775807):
 Calls Tryz.prog 136 #[.pointer (some ⟨g,0,none⟩),.int .i64 n] w (zdk (.returned (.slice none 0 0)) g [] true w):=by
 have HN:=qrf (zs6 h hn h1 h2);clear hn h1 h2;have hq:=fun W:World=>qrm (P:=Tryz.prog) W 24 5 none 0 0 0 0 elB.ht
 go_enter Tryz.func136,Tryz.ntmps136
 go_wp2_with (first
  |(go_at_call 135;refine HN.out.mono ?_;rintro e w1 ⟨rfl,k1,k2⟩)
  |(go_at_call 42;go_in))
 go_ret
 exact⟨rfl,k1,k2⟩
end Go.Proofs.Y
