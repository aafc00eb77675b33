/- Merged. -/
import Derived.Lib.Bytealg
import Derived.Test.YtbahbnbpmfgimaaGreatDoorBun4
import Derived.Test.YtbahbnbpmfgimaaGreatDoorBun5
set_option maxHeartbeats 2000000
namespace Go.Proofs.Y
open Go.RowKit Go.Hm
set_option maxRecDepth 100000 in
theorem ze7{w:World}(x:Int)(n:Nat)(hx:U32 x)(hn:1<=n/\n<=31):
 Calls Tryz.prog 80 #[.int .u32 x,.int .i64 (n:Int)] w (DrewPost (.int .u32 (rot x n)) w):=by
 obtain⟨h1,h2⟩:=hn;have HO:=Hz (qi9 hx h2);clear hx;go_enter Tryz.func80,Tryz.ntmps80
 go_wp2
 go_quiet (fail)
 go_wp2
 go_ret
 exact⟨by rw[<-HO.out];rfl,_,rfl⟩
end Go.Proofs.Y
namespace Go.Hm
open Go.RowKit
section
variable{P:Program}{ops:Array Oper}{Q:Exit->Act->World->Prop}{md:Region.Mode}{S:World->Prop}{t0:Nat}
def zgm(P:Program)(md:Region.Mode)(ops:Array Oper)(Q:Exit->Act->World->Prop)(t0:Nat)(S:World->Prop):Nat->Array Bool->Act->World->Prop
 |0,listed,a,w=>Region.ready md ops listed=[]/\Q .normal a w
 |fuel+1,listed,a,w=>(Region.ready md ops listed=[]->Q .normal a w)/\
  ∀i∈Region.ready md ops listed,wpOp P ops Q i (fun a' w'=>((listed.setIfInBounds i true).getD t0 false=true\/S w')/\zgm P md ops Q t0 S fuel (listed.setIfInBounds i true) a' w') a w
theorem zi2:∀(fuel:Nat) (listed:Array Bool) (a:Act) (w:World),zgm P md ops Q t0 S fuel listed a w->wpAny P md ops Q fuel listed a w
 |0,_,_,_,h=>h
 |fuel+1,_,_,_,h=>⟨h.1,fun i hi=>wpOp_mono (fun a' w' h'=>zi2 fuel _ a' w' h'.2) (h.2 i hi)⟩
theorem zbd{l:Array Bool}{i t:Nat}(h:l.getD t false=true):(l.setIfInBounds i true).getD t false=true:=by
 rw[qox] at h⊢;rw[qoy];split
 ·split
  ·rfl
  ·rename_i e h2;subst e;rw[qmy (by omega)] at h;simp at h
 ·exact h
theorem zd7{l:Array Bool}{i t:Nat}(hne:i≠t):(l.setIfInBounds i true).getD t false=l.getD t false:=by rw[qox,qox,qoy,if_neg hne]
theorem zen{S':World->Prop}:∀(fuel:Nat) (listed:Array Bool) (a:Act) (w:World),(listed.getD t0 false=true\/ ∀w,S w->S' w)->zgm P md ops Q t0 S fuel listed a w->zgm P md ops Q t0 S' fuel listed a w
 |0,_,_,_,_,hh=>hh
 |fuel+1,listed,_,_,h,hh=>⟨hh.1,fun i hi=>wpOp_mono (fun a' w' h'=>⟨by
  rcases h with h|h
  ·exact .inl (zbd h)
  ·exact h'.1.imp id (h w'),zen fuel _ a' w' (h.imp zbd id) h'.2⟩) (hh.2 i hi)⟩
theorem zuo{i:Nat}{oi:Oper}{v:Value}(hi:ops[i]? =some oi)(hit:i≠t0)(hsel:∀(j:Nat) (o:Oper) cs b,ops[j]? =some o->o.op≠ .select cs b)
 (hQ:∀c a w,Q (.panic c) (a.put oi.dst v) w->Q (.panic c) a w)(V:World->Prop)
 (hV:(∀w,V w)\/((∀w,S w->V w)/\ ∃ot,ops[t0]? =some ot/\ ∃e∈ot.after,Region.binds md e=true/\e.on=i)):
 ∀(fuel:Nat) (listed:Array Bool) (a:Act) (w:World),
  (∀j oj,ops[j]? =some oj->j≠i->listed.getD j true=false->(∀e∈oj.after,Region.binds md e=true->e.on≠i)->oi.apart ops oj=true)->
  i∈Region.ready md ops listed->YieldsIf P ops V oi v a->(listed.getD t0 false=true\/S w)->((∀w,V w)\/listed.getD t0 false=false)->
  zgm P md ops Q t0 S fuel (listed.setIfInBounds i true) (a.put oi.dst v) w->zgm P md ops Q t0 S (fuel+1) listed a w:=by
 have hVw:∀(listed:Array Bool) (w:World),(listed.getD t0 false=true\/S w)->((∀w,V w)\/listed.getD t0 false=false)->V w:=by
  intro listed w hS ht;rcases ht with ht|ht
  ·exact ht w
  ·rcases hS with hS|hS
   ·rw[ht] at hS;cases hS
   ·rcases hV with hV|hV
    ·exact hV w
    ·exact hV.1 w hS
 intro fuel;induction fuel with
 |zero=>
  intro listed a w _ hr hy hS ht H;refine⟨fun h=>(by rw[h] at hr;cases hr),fun j hj=>?_⟩;by_cases hji:j=i
  ·subst hji
   exact hy.wpOp hi (hVw listed w hS ht) ⟨hS.imp zbd id,H⟩
  ·have:=ready_mono hj hji
   rw[H.1] at this;cases this
 |succ fuel ih=>
  intro listed a w hfree hr hy hS ht H;refine⟨fun h=>(by rw[h] at hr;cases hr),fun j hj=>?_⟩;by_cases hji:j=i
  ·subst hji
   exact hy.wpOp hi (hVw listed w hS ht) ⟨hS.imp zbd id,H⟩
  ·have h1:=H.2 j (ready_mono hj hji)
   obtain⟨hjun,oj,hoj,hall⟩:=mem_ready.1 hj;have hnot:∀e∈oj.after,Region.binds md e=true->e.on≠i:=fun e he hb heq=>by
    have h1:=hall e he hb;have h0:=(mem_ready.1 hr).1;rw[heq] at h1;rcases qmx i listed.size with h'|h'
    ·simp[h'] at h0 h1;rw[h0] at h1;cases h1
    ·simp[Array.getElem?_eq_none h'] at h1
   have h2:=wpOp_putIf hoj (hfree j oj hoj hji hjun hnot) (fun cs b=>hsel i oi cs b hi) (fun cs b=>hsel j oj cs b hoj) hQ hy h1;have hfree':∀k ok,ops[k]? =some ok->k≠i->(listed.setIfInBounds j true).getD k true=false->
    (∀e∈ok.after,Region.binds md e=true->e.on≠i)->oi.apart ops ok=true:=fun k ok hk hki hun hno=>by
    refine hfree k ok hk hki ?_ hno;by_cases hjk:j=k
    ·subst hjk;exact hjun
    ·rw[getD_set_ne true hjk] at hun;exact hun
   have ht':(∀w,V w)\/(listed.setIfInBounds j true).getD t0 false=false:=by
    rcases hV with hV|⟨_,ot,hot,e,he,hb,heq⟩
    ·exact .inl hV
    ·refine ht.imp id fun ht=>?_
     have hjt:j≠t0:=by rintro rfl;rw[hoj] at hot;injection hot with hot;subst hot;exact hnot e he hb heq
     rw[zd7 hjt];exact ht
   refine wpOp_mono (fun a' w' h3=>?_) h2;have hS':(listed.setIfInBounds j true).getD t0 false=true\/S w':=by refine h3.2.1.imp (fun h4=>?_) id;rw[qoz _ _ (fun e=>hji e.symm),zd7 hit] at h4;exact h4
   refine⟨hS',ih (listed.setIfInBounds j true) a' w' hfree' (ready_mono hr (qo0 hji)) h3.1 hS' ht' ?_⟩;rw[qoz _ _ hji];exact h3.2.2
theorem zof{i:Nat}{oi:Oper}{v:Value}{fuel:Nat}{listed:Array Bool}{a:Act}{w:World}(V:World->Prop)(hi:ops[i]? =some oi)(hit:i≠t0)
 (hs:Region.noSelect ops=true)(hf:Region.free md ops listed i=true)(hr:(Region.ready md ops listed).contains i=true)
 (hQ:∀c a w,Q (.panic c) (a.put oi.dst v) w->Q (.panic c) a w)
 (hV:(∀w,V w)\/((∀w,S w->V w)/\ ∃ot,ops[t0]? =some ot/\ ∃e∈ot.after,Region.binds md e=true/\e.on=i))
 (hy:YieldsIf P ops V oi v a)(hS:listed.getD t0 false=true\/S w)(ht:(∀w,V w)\/listed.getD t0 false=false)
 (h:zgm P md ops Q t0 S fuel (listed.setIfInBounds i true) (a.put oi.dst v) w):zgm P md ops Q t0 S (fuel+1) listed a w:=
 zuo hi hit (Region.noSelect_spec hs) hQ V hV fuel listed a w (Region.free_spec hi hf) (by simpa using hr) hy hS ht h
def z5y(md:Region.Mode)(ops:Array Oper)(t0 i:Nat):Bool:=match ops[t0]? with
 |some ot=>ot.after.any fun e=>Region.binds md e&&e.on==i
 |none=>false
def zqp(ops:Array Oper)(t0:Nat):Array Bool->List (Nat × Nat)->Bool
 |listed,[]=>(Region.ready .any ops listed).isEmpty
 |listed,(0,i)::r=>(Region.ready .any ops listed).contains i&&(Region.free .any ops listed i&&(z5y .any ops t0 i&&(decide (i≠t0)&&(!listed.getD t0 false&&zqp ops t0 (listed.setIfInBounds i true) r))))
 |listed,(1,i)::r=>(Region.ready .any ops listed).contains i&&(Region.free .any ops listed i&&(decide (i≠t0)&&zqp ops t0 (listed.setIfInBounds i true) r))
 |listed,(_,i)::r=>decide (Region.ready .any ops listed=[i])&&zqp ops t0 (listed.setIfInBounds i true) r
def zjr(P:Program)(ops:Array Oper)(R:World->World->Prop)(Q:Exit->Act->World->Prop)(t0:Nat):List (Nat × Nat)->Bool->Act->World->Prop
 | [],_,a,w=>Q .normal a w
 |(0,i)::r,d,a,w=>∃o v,ops[i]? =some o/\((Region.wanted o (yielded ops a.tmps)=true/\ ∀w',R w w'->(execOp a.eval o).run P w'= .ok (.value v) w')\/(Region.wanted o (yielded ops a.tmps)=false/\v=undef))/\zjr P ops R Q t0 r d (a.put o.dst v) w
 |(1,i)::r,d,a,w=>∃o v,ops[i]? =some o/\((Region.wanted o (yielded ops a.tmps)=true/\ ∀w',(execOp a.eval o).run P w'= .ok (.value v) w')\/(Region.wanted o (yielded ops a.tmps)=false/\v=undef))/\zjr P ops R Q t0 r d (a.put o.dst v) w
 |(_,i)::r,d,a,w=>∃o,ops[i]? =some o/\if Region.wanted o (yielded ops a.tmps) then o.wp P a w (fun a' w'=>(d=true\/i=t0\/R w w')/\zjr P ops R Q t0 r (d||i==t0) a' w') (NoPanic Q) else zjr P ops R Q t0 r (d||i==t0) (a.put o.dst undef) w
variable{R:World->World->Prop}
theorem zxv{i:Nat}(h:z5y md ops t0 i=true):∃ot,ops[t0]? =some ot/\ ∃e∈ot.after,Region.binds md e=true/\e.on=i:=by
 unfold z5y at h;split at h
 ·rename_i ot hot
  rw[Array.any_eq_true] at h;obtain⟨j,hj,h⟩:=h;simp only[qoe,beq_iff_eq] at h;exact⟨ot,hot,ot.after[j],qo1 hj,h.1,h.2⟩
 ·cases h
theorem zms(hrefl:∀w,R w w)(htrans:∀{x y z},R x y->R y z->R x z)(hs:Region.noSelect ops=true):
 ∀(ord:List (Nat × Nat)) (fuel:Nat) (listed:Array Bool) (d:Bool) (a:Act) (w:World),(d=true->listed.getD t0 false=true)->(∀i∈ord.map (·.2),i<listed.size)->ord.length<=fuel->zqp ops t0 listed ord=true->zjr P ops R Q t0 ord d a w->zgm P .any ops (NoPanic Q) t0 (R w) fuel listed a w:=by
 intro ord;induction ord with
 |nil=>
  intro fuel listed d a w _ _ _ hok h;have hr:Region.ready .any ops listed=[]:=by simpa[zqp] using hok
  cases fuel with
  |zero=>exact⟨hr,NoPanic.normal h⟩
  |succ fuel=>exact⟨fun _=>NoPanic.normal h,by rw[hr];simp⟩
 |cons x r ih=>
  obtain⟨b,i⟩:=x;intro fuel listed d a w hd hsz hl hok h;obtain⟨fuel,rfl⟩:∃k,fuel=k+1:=⟨fuel-1,by simp at hl;omega⟩;have hl':r.length<=fuel:=by simp at hl;omega
  have hsz':∀k∈r.map (·.2),k<(listed.setIfInBounds i true).size:=fun k hk=>by rw[qo2];exact hsz k (by simp at hk⊢;exact .inr hk)
  have hi0:i<listed.size:=hsz i (by simp)
  match b with
  |0=>
   obtain⟨o,v,ho,hv,hr⟩:=h;simp only[zqp,qoe,decide_eq_true_eq,Bool.not_eq_true'] at hok;obtain⟨h1,h2,h3,h4,h5,h6⟩:=hok;exact zof (R w) ho h4 hs h2 h1 (fun _ _ _ hp=>hp) (.inr ⟨fun _ hh=>hh,zxv h3⟩) hv (.inr (hrefl w)) (.inr h5) (ih fuel _ d _ w (fun e=>zbd (hd e)) hsz' hl' h6 hr)
  |1=>
   obtain⟨o,v,ho,hv,hr⟩:=h;simp only[zqp,qoe,decide_eq_true_eq] at hok;obtain⟨h1,h2,h3,h4⟩:=hok;exact zof (fun _=>True) ho h3 hs h2 h1 (fun _ _ _ hp=>hp) (.inl fun _=>trivial) (hv.imp (fun hh=>⟨hh.1,fun w' _=>hh.2 w'⟩) id) (.inr (hrefl w)) (.inl fun _=>trivial) (ih fuel _ d _ w (fun e=>zbd (hd e)) hsz' hl' h4 hr)
  |b+2=>
   obtain⟨o,ho,hc⟩:=h;simp only[zqp,qoe,decide_eq_true_eq] at hok;obtain⟨h1,h3⟩:=hok;refine⟨fun h0=>(by rw[h1] at h0;cases h0),fun j hj=>?_⟩;rw[h1] at hj;obtain rfl:j=i:=by simpa using hj
   have hd':(d||j==t0)=true->(listed.setIfInBounds j true).getD t0 false=true:=by
    intro e;rw[qo3,beq_iff_eq] at e;rcases e with e|rfl
    ·exact zbd (hd e)
    ·rw[qox,qoy,if_pos rfl,if_pos hi0];rfl
   unfold wpOp;simp only[ho];split
   ·rename_i hw
    rw[if_pos hw] at hc;refine .inl (Oper.wp_mono (fun a' w' hh=>?_) hc);obtain⟨hR,hh⟩:=hh;have hI:=ih fuel _ _ a' w' hd' hsz' hl' h3 hh;by_cases ht:(listed.setIfInBounds j true).getD t0 false=true
    ·exact⟨.inl ht,zen fuel _ a' w' (.inl ht) hI⟩
    ·have hR':R w w':=by
      rcases hR with hR|hR|hR
      ·exact absurd (zbd (hd hR)) ht
      ·exact absurd (hd' (by simp[hR])) ht
      ·exact hR
     exact⟨.inr hR',zen fuel _ a' w' (.inr fun z hz=>htrans hR' hz) hI⟩
   ·rename_i hw
    rw[if_neg hw] at hc;exact⟨.inr (hrefl w),ih fuel _ _ _ w hd' hsz' hl' h3 hc⟩
theorem zb2{id:Nat}{a:Act}{w:World}(R:World->World->Prop)(t0:Nat)(ord:List (Nat × Nat))(hrefl:∀w,R w w)(htrans:∀{x y z},R x y->R y z->R x z)(hm:P.follows .mixedOrders=true)
 (hs:Region.noSelect ops=true)(hl:(decide (ord.length<=ops.size)&&ord.all fun x=>decide (x.2<ops.size))=true)(hok:zqp ops t0 (Array.replicate ops.size false) ord=true)(h:zjr P ops R Q t0 ord false a w.drew):(Code.region id ops true).wp P Q a w:=by
 simp only[qoe,decide_eq_true_eq,qo4] at hl;refine wp_region_noPanic (wp_region_any hm (zi2 _ _ _ _ (zms hrefl htrans hs ord ops.size _ false a _ (by simp) ?_ hl.1 hok h)));intro i hi;simp only[qmn] at hi;obtain⟨x,hx,rfl⟩:=hi;rw[qo5];exact hl.2 x hx
variable{i:Nat}{r:List (Nat × Nat)}{a:Act}{w:World}{d:Bool}{v:Value}
theorem zed(h:Q .normal a w):zjr P ops R Q t0 [] d a w:=h
section
variable{dst:Option Tmp}{op:Op}{ty:TypeId}{pos:String}{af:Array Edge}{gd:Option (Nat × Bool)}
theorem zbm(ho:ops[i]? =some ⟨dst,op,ty,pos,af,gd⟩)(hw:Region.wanted ⟨dst,op,ty,pos,af,gd⟩ (yielded ops a.tmps)=true)(hv:∀w',R w w'->(execOp a.eval ⟨dst,op,ty,pos,af,gd⟩).run P w'= .ok (.value v) w')(h:zjr P ops R Q t0 r d (a.put dst v) w):zjr P ops R Q t0 ((0,i)::r) d a w:=
 ⟨_,v,ho,.inl ⟨hw,hv⟩,h⟩
theorem zbh(ho:ops[i]? =some ⟨dst,op,ty,pos,af,gd⟩)(hw:Region.wanted ⟨dst,op,ty,pos,af,gd⟩ (yielded ops a.tmps)=true)(hv:∀w',(execOp a.eval ⟨dst,op,ty,pos,af,gd⟩).run P w'= .ok (.value v) w')(h:zjr P ops R Q t0 r d (a.put dst v) w):zjr P ops R Q t0 ((1,i)::r) d a w:=
 ⟨_,v,ho,.inl ⟨hw,hv⟩,h⟩
theorem zav(ho:ops[i]? =some ⟨dst,op,ty,pos,af,gd⟩)(hw:Region.wanted ⟨dst,op,ty,pos,af,gd⟩ (yielded ops a.tmps)=true)(h:∀K:Act->World->Prop,(∀a' w',(d=true\/i=t0\/R w w')->zjr P ops R Q t0 r (d||i==t0) a' w'->K a' w')->Oper.wp P ⟨dst,op,ty,pos,af,gd⟩ a w K (NoPanic Q)):zjr P ops R Q t0 ((2,i)::r) d a w:=
 ⟨_,ho,by rw[if_pos hw];exact h _ fun _ _ h1 h2=>⟨h1,h2⟩⟩
end
end
section
variable{P:Program}{o:Oper}{a:Act}{Q:Exit->Act->World->Prop}{K:Act->World->Prop}
theorem zkn{w:World}{t e:TypeId}{z:Value}{bytes:Nat}(E:ElT P t e z 1 bytes)(s x:Operand)
 (ho:o.op= .call {callee:= .builtin .append,args:= #[s,x],argTypes:= #[t,t]})
 {W:World}{B base m c:Nat}{v:Value}{xs news:List Value}{ad:Addr}(hown:Own w base e v xs)(hr:Reads w w.heap.size 1 (some ad) m news)(hm0:0<m)(hs:a.eval s=v)(hx:a.eval x= .slice (some ad) m c)
 (hb:Below B W w)(hbB:B<=base)(hbase:base<=w.heap.size)(h1:∀u∈news,u.oneCell'=true)
 (hn:(xs.length+m)*bytes<=140737488355328)(hm:xs.length+m<=maxLen)
 (h:∀A' c' w',xs.length+m<=c'->c'<=maxLen->Own w' base e (.slice A' (xs.length+m) c') (xs++news)->w.grownBy w' v.ownBlock->Below B W w'->K (a.put o.dst (.slice A' (xs.length+m) c')) w'):
 Oper.wp P o a w K Q:=by
 obtain⟨i,hi,hz0,hz1,hz2⟩:=info_parts E.hi;have hl:news.length=m:=by have:=hr.1;omega
 have hcells:∀j u,news[j]? =some u->w.cell? (ad.add j)=some u:=by intro j u hu;obtain⟨ad',h',_,hc⟩:=hr.2 hm0;injection h' with h';subst h';exact hc j u hu
 obtain⟨v',w',hr',hown',hg,_,_⟩:=run_append_own_at (P:=P) w base t o.type e i z 1 bytes E.ht hi hz0 hz1 hz2 E.hz (by omega) v xs.length xs hown ad m c news (by omega) hcells h1 hm hn hbase;have hxl:(xs++news).length=xs.length+m:=by simp[hl]
 have hown2:Own w' base e v' (xs++news):=by unfold Own;rw[hxl];exact hown'
 obtain⟨A',c',rfl,hc1,hc2⟩:=hown2.slice;rw[hxl] at hc1 hown2 hr';unfold Oper.wp execOp;simp only[ho,resolve,invoke,builtin,Sem.run_bind,Sem.run_pure,Result.andThen_ok,qnb,qnc,qnd,hs,hx,hr'];exact h A' c' w' hc1 hc2 hown2 hg (hb.grown hg (qml hbB hbase) (fun k hk=>by have:=(hown.lt k hk).1;omega))
end
end Go.Hm
namespace Go.Proofs.Y
open Go.RowKit Go.Hm
def zcm(l:List Nat)(w:World)(e:Ending)(w':World):Prop:=
 ∃A n c,e= .returned (.slice A n c)/\Own w' w.heap.size 5 (.slice A n c) (zan .u8 l)/\Below w.heap.size w w'
open Go.RowKit Go.Hm
set_option maxRecDepth 100000 in
theorem qg4{w:World}{A:Option Addr}{n c:Nat}{l:List Nat}(x:Nat)(h:Reads w w.heap.size 1 A n (zan .u8 l))(hl:n<=140737488355200):
 Calls Tryz.prog 91 #[.slice A n c,.int .u32 (x:Int),.int .i64 4] w (zcm (l++low x 4) w):=by
 obtain rfl:=h.len;go_enter Tryz.func91,Tryz.ntmps91
 go_wp2_with (first
  |(refine zca elB rfl (.tmp 10) (.tmp 14) rfl (W:=w) (B:=w.heap.size) l.length (l.length+4) rfl rfl rfl (by simp) (by omega) (Below.refl _ _) (qmt _) rfl (by omega) (by simp only[maxLen];omega) ?_
    intro w1 hown1 hg1 hb1 hs1)
  |(refine zoa elB rfl (.tmp 16) (.tmp 17) rfl (W:=w) (B:=w.heap.size) hown1 (h.grown_far hg1 (by simp)) rfl rfl l.length (Nat.min_self _) hb1 (qmt _) (zci _ _) ?_
    intro w2 hown2 hg2 hb2 hs2))
 rw[qnn (by rw[zaa];omega),qqe (by simp),qm3] at hown2;have hs0:=hb2.size;clear hown1 hg1 hb1 hs1 hg2 hs2;go_loopw [7,20] (fun v i wr=>∃(k:Nat) (A:Option Addr) (c:Nat),k<=4/\i= .int .i64 (k:Int)/\v= .slice A (l.length+k) c/\Own wr w.heap.size 5 (.slice A (l.length+k) c) (zan .u8 (l++low x k))/\Below w.heap.size w wr) (fun _ i _=>4-(intOf i).toNat)
 case atStart=>exact⟨0,_,_,by omega,rfl,rfl,by simpa[low] using hown2,hb2⟩
 case round=>
  obtain⟨k,A',c',hk,rfl,rfl,hown,hb⟩:=hrel;have hz:=hb.size;by_cases hlt:k<4
  ·have S:=Hz (zxs x k)
   have hlen:(l++low x k).length=l.length+k:=by rw[qni,zbg]
   have HL:=Hz hlen;clear hlen;go_wp2_with (first
    |(refine zcj elB rfl (.tmp 23) (.tmp 29) rfl (W:=w) (B:=w.heap.size) hown rfl rfl (x/256^k%256) (by rw[S.out]) hb (qmt _) (by omega) (by omega) (by simp only[maxLen];omega) ?_
      intro A3 c3 w3 _ _ hown3 hg3 hb3 _ _))
   go_roundw
   case rel=>exact⟨k+1,A3,c3,by omega,by go_num,rfl,by rw[qm5] at hown3;exact hown3,hb3⟩
   case measure=>simp[intOf];omega
  ·obtain rfl:k=4:=by omega
   go_wp2
   go_ret
   exact⟨A',_,c',rfl,hown,hb⟩
set_option maxRecDepth 100000 in
theorem qg5{w:World}{A:Option Addr}{n c:Nat}{l:List Nat}(x:Nat)(h:Reads w w.heap.size 1 A n (zan .u8 l))(hl:n<=140737488355200):
 Calls Tryz.prog 53 #[.slice A n c,.int .u32 (x:Int)] w (zcm (l++low x 4) w):=by
 obtain rfl:=h.len;go_enter Tryz.func53,Tryz.ntmps53
 go_wp2_with (go_at_call 91;refine(qg4 x h hl).mono ?_;rintro e w1 ⟨A',n',c',rfl,k1,k2⟩)
 go_ret
 exact⟨A',n',c',rfl,k1,k2⟩
set_option maxRecDepth 100000 in
theorem qg6{w:World}{A:Option Addr}{n c:Nat}{l:List Nat}(x:Nat)(h:Reads w w.heap.size 1 A n (zan .u8 l))(hl:n<=140737488355200):
 Calls Tryz.prog 102 #[.slice A n c,.int .u64 (x:Int),.int .i64 8] w (zcm (l++low x 8) w):=by
 obtain rfl:=h.len;go_enter Tryz.func102,Tryz.ntmps102
 go_wp2_with (first
  |(refine zca elB rfl (.tmp 10) (.tmp 14) rfl (W:=w) (B:=w.heap.size) l.length (l.length+8) rfl rfl rfl (by simp) (by omega) (Below.refl _ _) (qmt _) rfl (by omega) (by simp only[maxLen];omega) ?_
    intro w1 hown1 hg1 hb1 hs1)
  |(refine zoa elB rfl (.tmp 16) (.tmp 17) rfl (W:=w) (B:=w.heap.size) hown1 (h.grown_far hg1 (by simp)) rfl rfl l.length (Nat.min_self _) hb1 (qmt _) (zci _ _) ?_
    intro w2 hown2 hg2 hb2 hs2))
 rw[qnn (by rw[zaa];omega),qqe (by simp),qm3] at hown2;have hs0:=hb2.size;clear hown1 hg1 hb1 hs1 hg2 hs2;go_loopw [7,20] (fun v i wr=>∃(k:Nat) (A:Option Addr) (c:Nat),k<=8/\i= .int .i64 (k:Int)/\v= .slice A (l.length+k) c/\Own wr w.heap.size 5 (.slice A (l.length+k) c) (zan .u8 (l++low x k))/\Below w.heap.size w wr) (fun _ i _=>8-(intOf i).toNat)
 case atStart=>exact⟨0,_,_,by omega,rfl,rfl,by simpa[low] using hown2,hb2⟩
 case round=>
  obtain⟨k,A',c',hk,rfl,rfl,hown,hb⟩:=hrel;have hz:=hb.size;by_cases hlt:k<8
  ·have S:=Hz (zxs x k)
   have hlen:(l++low x k).length=l.length+k:=by rw[qni,zbg]
   have HL:=Hz hlen;clear hlen;go_wp2_with (first
    |(refine zcj elB rfl (.tmp 23) (.tmp 29) rfl (W:=w) (B:=w.heap.size) hown rfl rfl (x/256^k%256) (by rw[S.out]) hb (qmt _) (by omega) (by omega) (by simp only[maxLen];omega) ?_
      intro A3 c3 w3 _ _ hown3 hg3 hb3 _ _))
   go_roundw
   case rel=>exact⟨k+1,A3,c3,by omega,by go_num,rfl,by rw[qm5] at hown3;exact hown3,hb3⟩
   case measure=>simp[intOf];omega
  ·obtain rfl:k=8:=by omega
   go_wp2
   go_ret
   exact⟨A',_,c',rfl,hown,hb⟩
set_option maxRecDepth 100000 in
theorem z6o{w:World}{A:Option Addr}{n c:Nat}{l:List Nat}(x:Nat)(h:Reads w w.heap.size 1 A n (zan .u8 l))(hl:n<=140737488355200):
 Calls Tryz.prog 70 #[.slice A n c,.int .u64 (x:Int)] w (zcm (l++low x 8) w):=by
 obtain rfl:=h.len;go_enter Tryz.func70,Tryz.ntmps70
 go_wp2_with (go_at_call 102;refine(qg6 x h hl).mono ?_;rintro e w1 ⟨A',n',c',rfl,k1,k2⟩)
 go_ret
 exact⟨A',n',c',rfl,k1,k2⟩
open Go.RowKit Go.Hm
theorem zx2{w:World}{g:Nat}{l:List Nat}(n:Nat)(h:Cur w g l false)(hn:n<=l.length)(hs:n<=1):
 Calls Tryz.prog 150 #[.pointer (some ⟨g,0,none⟩),.int .i64 (n:Int)] w (zdb (.returned (.int .u8 (num (l.take n):Int))) g (l.drop n) false w):=by
 have hlt:(l.take n).length=n:=by rw[qmq];omega
 have N:=Hz (zkw h hn);have h8:∀x∈l.take n,x<256:=by obtain⟨A,c,_,_,_,_,h5,_⟩:=h;exact fun x hx=>h5 x (qnh hx)
 unfold zkv at N;generalize l.take n=T at*;generalize hD:l.drop n=D at*;clear hD h hn;go_enter Tryz.func150,Tryz.ntmps150
 go_wp2_with (first
  |(go_at_call 135;refine N.out.mono ?_;rintro e w1 ⟨A',c',rfl,k1,k2,k3⟩
    have k4:=k1.1))
 clear N;subst hlt;go_loop [5,12] (fun v i=>∃k:Nat,k<=T.length/\i= .int .i64 (k:Int)/\v= .int .u8 (num (T.take k):Int)) (fun _ i=>T.length-(intOf i).toNat)
 case atStart=>exact⟨0,by omega,rfl,by simp[num]⟩
 case round=>
  obtain⟨k,hk,rfl,rfl⟩:=hrel;by_cases hlt':k<T.length
  ·obtain⟨ad,rfl,hb,hcell⟩:=k4.num hlt'
   have S:=Hz (zxr T k hlt' hs h8);generalize T.getD k 0=x at*;go_wp2
   go_round
   case rel=>exact⟨k+1,by omega,by go_num,by rw[S.out]⟩
   case measure=>simp[intOf];omega
  ·obtain rfl:k=T.length:=by omega
   go_wp2
   go_ret
   exact⟨rfl,k2,k3⟩
theorem z2z{w:World}{g:Nat}{l:List Nat}{bad:Bool}{n:Int}(h:Cur w g l bad)(hn:bad=true\/n<0\/(l.length:Int)<n)(h1: -9223372036854775808<=n)(h2:n<=9223372036854775807):
 Calls Tryz.prog 150 #[.pointer (some ⟨g,0,none⟩),.int .i64 n] w (zdb (.returned (.int .u8 0)) g [] true w):=by
 have HN:=Hz (zsw h hn h1 h2);clear hn h1 h2 h;go_enter Tryz.func150,Tryz.ntmps150
 go_wp2_with (first
  |(go_at_call 135;refine HN.out.mono ?_;rintro e w1 ⟨rfl,k1,k2⟩))
 refine wp_loop_rounds 1 ?_;rw[rounds_succ];go_wp2
 go_ret
 exact⟨rfl,k1,k2⟩
theorem z6x{w:World}{g:Nat}{l:List Nat}(h:Cur w g l false)(hn:1<=l.length):
 Calls Tryz.prog 137 #[.pointer (some ⟨g,0,none⟩)] w (zdb (.returned (.int .u8 (num (l.take 1):Int))) g (l.drop 1) false w):=by
 have N:=Hz (zx2 1 h hn (by omega));go_enter Tryz.func137,Tryz.ntmps137
 go_wp2_with (go_at_call 150;refine N.out.mono ?_;rintro e w1 ⟨rfl,k1,k2⟩)
 go_ret
 exact⟨rfl,k1,k2⟩
theorem znm{w:World}{g:Nat}{l:List Nat}{bad:Bool}(h:Cur w g l bad)(hn:bad=true\/l.length<1):
 Calls Tryz.prog 137 #[.pointer (some ⟨g,0,none⟩)] w (zdb (.returned (.int .u8 0)) g [] true w):=by
 have N:=Hz (z2z (n:=1) h (by rcases hn with hn|hn;exact .inl hn;exact .inr (.inr (by omega))) (by omega) (by omega));clear hn;go_enter Tryz.func137,Tryz.ntmps137
 go_wp2_with (go_at_call 150;refine N.out.mono ?_;rintro e w1 ⟨rfl,k1,k2⟩)
 go_ret
 exact⟨rfl,k1,k2⟩
theorem zuz{w:World}{g:Nat}{l:List Nat}(n:Nat)(h:Cur w g l false)(hn:n<=l.length)(hs:n<=4):
 Calls Tryz.prog 114 #[.pointer (some ⟨g,0,none⟩),.int .i64 (n:Int)] w (zdb (.returned (.int .u32 (num (l.take n):Int))) g (l.drop n) false w):=by
 have hlt:(l.take n).length=n:=by rw[qmq];omega
 have N:=Hz (zkw h hn);have h8:∀x∈l.take n,x<256:=by obtain⟨A,c,_,_,_,_,h5,_⟩:=h;exact fun x hx=>h5 x (qnh hx)
 unfold zkv at N;generalize l.take n=T at*;generalize hD:l.drop n=D at*;clear hD h hn;go_enter Tryz.func114,Tryz.ntmps114
 go_wp2_with (first
  |(go_at_call 135;refine N.out.mono ?_;rintro e w1 ⟨A',c',rfl,k1,k2,k3⟩
    have k4:=k1.1))
 clear N;subst hlt;go_loop [5,12] (fun v i=>∃k:Nat,k<=T.length/\i= .int .i64 (k:Int)/\v= .int .u32 (num (T.take k):Int)) (fun _ i=>T.length-(intOf i).toNat)
 case atStart=>exact⟨0,by omega,rfl,by simp[num]⟩
 case round=>
  obtain⟨k,hk,rfl,rfl⟩:=hrel;by_cases hlt':k<T.length
  ·obtain⟨ad,rfl,hb,hcell⟩:=k4.num hlt'
   have S:=Hz (zuk T k hlt' hs h8);generalize T.getD k 0=x at*;go_wp2
   go_round
   case rel=>exact⟨k+1,by omega,by go_num,by rw[S.out]⟩
   case measure=>simp[intOf];omega
  ·obtain rfl:k=T.length:=by omega
   go_wp2
   go_ret
   exact⟨rfl,k2,k3⟩
theorem qcn{w:World}{g:Nat}{l:List Nat}(h:Cur w g l false)(hn:4<=l.length):
 Calls Tryz.prog 95 #[.pointer (some ⟨g,0,none⟩)] w (zdb (.returned (.int .u32 (num (l.take 4):Int))) g (l.drop 4) false w):=by
 have N:=Hz (zuz 4 h hn (by omega));go_enter Tryz.func95,Tryz.ntmps95
 go_wp2_with (go_at_call 114;refine N.out.mono ?_;rintro e w1 ⟨rfl,k1,k2⟩)
 go_ret
 exact⟨rfl,k1,k2⟩
theorem zu0{w:World}{g:Nat}{l:List Nat}(n:Nat)(h:Cur w g l false)(hn:n<=l.length)(hs:n<=8):
 Calls Tryz.prog 205 #[.pointer (some ⟨g,0,none⟩),.int .i64 (n:Int)] w (zdb (.returned (.int .u64 (num (l.take n):Int))) g (l.drop n) false w):=by
 have hlt:(l.take n).length=n:=by rw[qmq];omega
 have N:=Hz (zkw h hn);have h8:∀x∈l.take n,x<256:=by obtain⟨A,c,_,_,_,_,h5,_⟩:=h;exact fun x hx=>h5 x (qnh hx)
 unfold zkv at N;generalize l.take n=T at*;generalize hD:l.drop n=D at*;clear hD h hn;go_enter Tryz.func205,Tryz.ntmps205
 go_wp2_with (first
  |(go_at_call 135;refine N.out.mono ?_;rintro e w1 ⟨A',c',rfl,k1,k2,k3⟩
    have k4:=k1.1))
 clear N;subst hlt;go_loop [5,12] (fun v i=>∃k:Nat,k<=T.length/\i= .int .i64 (k:Int)/\v= .int .u64 (num (T.take k):Int)) (fun _ i=>T.length-(intOf i).toNat)
 case atStart=>exact⟨0,by omega,rfl,by simp[num]⟩
 case round=>
  obtain⟨k,hk,rfl,rfl⟩:=hrel;by_cases hlt':k<T.length
  ·obtain⟨ad,rfl,hb,hcell⟩:=k4.num hlt'
   have S:=Hz (zul T k hlt' hs h8);generalize T.getD k 0=x at*;go_wp2
   go_round
   case rel=>exact⟨k+1,by omega,by go_num,by rw[S.out]⟩
   case measure=>simp[intOf];omega
  ·obtain rfl:k=T.length:=by omega
   go_wp2
   go_ret
   exact⟨rfl,k2,k3⟩
theorem zx3{w:World}{g:Nat}{l:List Nat}{bad:Bool}{n:Int}(h:Cur w g l bad)(hn:bad=true\/n<0\/(l.length:Int)<n)(h1: -9223372036854775808<=n)(h2:n<=9223372036854775807):
 Calls Tryz.prog 205 #[.pointer (some ⟨g,0,none⟩),.int .i64 n] w (zdb (.returned (.int .u64 0)) g [] true w):=by
 have HN:=Hz (zsw h hn h1 h2);clear hn h1 h2 h;go_enter Tryz.func205,Tryz.ntmps205
 go_wp2_with (first
  |(go_at_call 135;refine HN.out.mono ?_;rintro e w1 ⟨rfl,k1,k2⟩))
 refine wp_loop_rounds 1 ?_;rw[rounds_succ];go_wp2
 go_ret
 exact⟨rfl,k1,k2⟩
theorem qco{w:World}{g:Nat}{l:List Nat}(h:Cur w g l false)(hn:8<=l.length):
 Calls Tryz.prog 189 #[.pointer (some ⟨g,0,none⟩)] w (zdb (.returned (.int .u64 (num (l.take 8):Int))) g (l.drop 8) false w):=by
 have N:=Hz (zu0 8 h hn (by omega));go_enter Tryz.func189,Tryz.ntmps189
 go_wp2_with (go_at_call 205;refine N.out.mono ?_;rintro e w1 ⟨rfl,k1,k2⟩)
 go_ret
 exact⟨rfl,k1,k2⟩
theorem z6y{w:World}{g:Nat}{l:List Nat}{bad:Bool}(h:Cur w g l bad)(hn:bad=true\/l.length<8):
 Calls Tryz.prog 189 #[.pointer (some ⟨g,0,none⟩)] w (zdb (.returned (.int .u64 0)) g [] true w):=by
 have N:=Hz (zx3 (n:=8) h (by rcases hn with hn|hn;exact .inl hn;exact .inr (.inr (by omega))) (by omega) (by omega));clear hn;go_enter Tryz.func189,Tryz.ntmps189
 go_wp2_with (go_at_call 205;refine N.out.mono ?_;rintro e w1 ⟨rfl,k1,k2⟩)
 go_ret
 exact⟨rfl,k1,k2⟩
theorem z0h{w:World}{g x:Nat}{b:List Nat}(h:Cur w g (x::b) false):
 Calls Tryz.prog 137 #[.pointer (some ⟨g,0,none⟩)] w (zdb (.returned (.int .u8 (x:Int))) g b false w):=by
 have:=z6x h (by simp);simpa[num] using this
end Go.Proofs.Y
namespace Go.Hm
def ul(w p k B n:Nat):List Nat:=zqk w p B++(B/2^(w*p)%2^k)::List.replicate (n-p-1) 0
theorem qha(w p B n:Nat)(h:p<n):zqk w p B++List.replicate (n-p) 0=ul w p 0 B n:=by rw[ul,show n-p=(n-p-1)+1 by omega,qot,qqo,qnx];rfl
theorem qjg(w p B n:Nat):ul w p w B n=zqk w (p+1) B++List.replicate (n-(p+1)) 0:=by rw[ul,zqk,qm5,show n-p-1=n-(p+1) by omega];rfl
theorem qhb(w p k B n:Nat):(ul w p k B n).getD p 0=B/2^(w*p)%2^k:=by rw[ul,qoa,qpk (by rw[ze9];exact qmt _),ze9];simp
theorem qhc(w p k B n a t:Nat)(ha:a=w*p+k)(ht:t=B/2^a%2):(ul w p k B n).set p (B/2^(w*p)%2^k+t*2^k)=ul w p (k+1) B n:=by
 have e:B/2^(w*p)%2^(k+1)=B/2^(w*p)%2^k+t*2^k:=by rw[zmw,qpv,<-qol,<-ha,<-ht,qne t]
 rw[ul,ul,e,qor _ _ (by rw[ze9];exact qmt _),ze9,qos];rfl
theorem qjh(b:List Nat)(h:∀x∈b,x<256)(a q r:Nat)(hq:q=a/8/\r=a%8)(ha:a<8*b.length):b.getD q 0/2^r%2=num b/2^a%2:=by
 obtain⟨rfl,rfl⟩:=hq;rw[zz7 b h _ (by omega)];have e:(256:Nat)=2^(a%8)*2^(8-a%8):=by rw[<-qol,show a%8+(8-a%8)=8 by omega]
 have e2:2^(8-a%8)=2*2^(7-a%8):=by rw[<-Nat.pow_succ'];congr 1;omega
 rw[show num b/256^(a/8)%256=num b/256^(a/8)%(2^(a%8)*2^(8-a%8)) by rw[<-e],qpy,e2,Nat.mod_mul_right_mod,qpv,qgy,<-qol];congr 3
 omega
theorem z0j(b:List Nat)(h:∀x∈b,x<256)(M r:Nat)(hl:b.length=(M+7)/8)(hr:r=M%8):num b<2^M↔(r=0\/b.getD (b.length-1) 0/2^r=0):=by
 have hb:=zq7 b h;by_cases h0:r=0
 ·have:M=8*b.length:=by omega
  rw[qgy,<-this] at hb;simp[h0,hb]
 ·have hl2:b.length-1<b.length:=by omega
  have hM:M=8*(b.length-1)+r:=by omega
  have e:=zz7 b h _ hl2;have hlt:num b/256^(b.length-1)<256:=by apply qns;rw[<-qnq,show(b.length-1).succ=b.length by omega];exact hb
  rw[qn1 hlt] at e;rw[e,hM,qol,<-qgy];constructor
  ·intro hh
   exact .inr (qpx (qns hh))
  ·rintro(hh|hh)
   ·exact absurd hh h0
   ·have h1:num b/256^(b.length-1)<2^r:=by
     rcases qmx (num b/256^(b.length-1)) (2^r) with h2|h2
     ·exact h2
     ·have:=Nat.div_pos h2 (qog r)
      omega
    rw[qne];exact(Nat.div_lt_iff_lt_mul (qnr (by omega))).1 h1
theorem qcs(v k t:Nat)(hv:v<2^k)(ht:t<=1)(hk:k<64):bits .or .u64 (v:Int) (IntKind.u64.wrap ((t:Int)*2^k))=((v+t*2^k:Nat):Int):=by
 have h7:2^(k+1)<=2^64:=qn4 (by omega) (by omega);rw[qnq] at h7;have hq:t*2^k<=1*2^k:=qms _ ht;have e:IntKind.u64.wrap ((t:Int)*2^k)=((t*2^k:Nat):Int):=by
  have e2:((t*2^k:Nat):Int)=(t:Int)*2^k:=by simp
  rw[<-e2,IntKind.wrap_u64];omega
 rw[e,u64_or_nat _ _ (by omega) (by omega),qn5,<-qne (2^k),<-qn6 hv,qn7]
theorem qct(y r t:Nat)(hy:y<256)(ht:t=y/2^r%2):bits .and .u8 ((y:Int)/2^r) 1=(t:Int):=by have h1:y/2^r<=y:=qn2 _ _;have:=u8_and_nat (y/2^r) 1 (by omega) (by omega);rw[Nat.and_one_is_mod,<-ht] at this;rw[<-this];congr 1
end Go.Hm
namespace Go.Proofs.Y
open Go.RowKit Go.Hm
theorem zye(w:World)(a b:Obj):New w ((w.alloc a).alloc b):=New.trans ((Below.refl _ _).alloc (qmt _) _) ((Below.refl _ _).alloc (qmt _) _)
theorem zqv{s:List Nat}:(zae s).toList=[]↔s=[]:=by rw[zj1];simp
set_option maxRecDepth 100000 in
theorem zf0{w:World}{b:Bool}{n:Int}{s:List Nat}{x y:Int}{cn:List Nat}{t:Int}{nu:Bool}(hs:s.length<=140737488351232):
 Calls Tryz.prog 83 #[.agg #[.bool b,.int .i64 n,.string (zae s),.int .i64 x,.int .i64 y],.agg #[.string (zae cn),.int .i64 t,.bool nu]] w (zal (.bool (zaf (b,n,s,x,y) t nu)) w):=by
 have z1:=zbt s;generalize hO:zaf (b,n,s,x,y) t nu=O;have HO:=Hz hO;have Z:=Hz (zqv (s:=s));clear hO;have B0:=Blk.new w 75 #[.bool b,.int .i64 n,.string (zae s),.int .i64 x,.int .i64 y];have B1:=Blk.new (w.alloc (.cells #[.bool b,.int .i64 n,.string (zae s),.int .i64 x,.int .i64 y] 75)) 71 #[.string (zae cn),.int .i64 t,.bool nu];obtain⟨x0,x1,x2,x3,x4⟩:=zcs (B0.alloc (.cells #[.string (zae cn),.int .i64 t,.bool nu] 71));obtain⟨y0,y1,y2⟩:=zao B1;clear B0 B1;go_enter Tryz.func83,Tryz.ntmps83
 go_wp2_with (first
  |(go_at_call 107;refine(zrj x y).mono ?_;rintro e w' ⟨rfl,b1⟩))
 all_goals go_ret
 all_goals try refine⟨?_,zye w _ _⟩
 all_goals try refine⟨?_,New.trans (zye w _ _) (by assumption)⟩
 all_goals
  rw[<-HO.out];have Z:=Z.out;clear x0 x1 x2 x3 x4 y0 y1 y2 HO;simp_all[zaf]
 ·by_cases h1:n=1<;> simp[*]
 ·omega
end Go.Proofs.Y
namespace Go.Hm
open Go Go.RowKit
def qdo(a b:List Nat):Int:=Lib.compareBytes (a.map UInt8.ofNat) (b.map UInt8.ofNat)
def z5l(a b:Bool):Int:=if a&&b then 0 else if a then-1 else 1
def qjx(t:Int)(a b:zab):Int:=if a.1||b.1 then z5l a.1 b.1 else if t=0\/t=1 then zid a.2.1 b.2.1 else if t=2 then qdo a.2.2.1 b.2.2.1 else 0
end Go.Hm
namespace Go.Proofs.Y
open Go.RowKit Go.Hm
set_option maxRecDepth 100000 in
theorem bstrCmp_any{w:World}{a b:List Nat}:Calls Tryz.prog 185 #[.string (zae a),.string (zae b)] w (zdm (.int .i64 (qdo a b)) w):=by
 go_enter Tryz.func185,Tryz.ntmps185
 go_wp2
 rw[run_callFunc_extern Tryz.func203 (by kernel_rfl) (by kernel_rfl) (by kernel_rfl) (e:=Extern.BytealgCompare.compare) (by kernel_rfl),Lib.run_compareString];simp only[Result.andThen];rw[Oper.upon_value];go_wp2
 go_ret
 exact⟨rfl,rfl⟩
set_option maxRecDepth 100000 in
theorem strCmp_any{w:World}{a b:List Nat}:Calls Tryz.prog 165 #[.string (zae a),.string (zae b)] w (zdm (.int .i64 (qdo a b)) w):=by
 go_enter Tryz.func165,Tryz.ntmps165
 go_wp2_with (go_at_call 185;refine bstrCmp_any.mono ?_;rintro e w' ⟨rfl,rfl⟩)
 go_ret
 exact⟨rfl,rfl⟩
set_option maxRecDepth 100000 in
theorem cmpNulls_any{w:World}{a b:Bool}{n m:Int}{s r:ByteArray}{x y x2 y2:Int}:
 Calls Tryz.prog 163 #[.agg #[.bool a,.int .i64 n,.string s,.int .i64 x,.int .i64 y],.agg #[.bool b,.int .i64 m,.string r,.int .i64 x2,.int .i64 y2]] w (zal (.int .i64 (z5l a b)) w):=by
 have B0:=Blk.new w 75 #[.bool a,.int .i64 n,.string s,.int .i64 x,.int .i64 y];have B1:=Blk.new (w.alloc (.cells #[.bool a,.int .i64 n,.string s,.int .i64 x,.int .i64 y] 75)) 75 #[.bool b,.int .i64 m,.string r,.int .i64 x2,.int .i64 y2];obtain⟨x0,_⟩:=zcs (B0.alloc (.cells #[.bool b,.int .i64 m,.string r,.int .i64 x2,.int .i64 y2] 75));obtain⟨y0,_⟩:=zcs B1;clear B0 B1;go_enter Tryz.func163,Tryz.ntmps163
 cases a<;> cases b;all_goals
  go_wp2
  go_ret
  exact⟨rfl,zye w _ _⟩
set_option maxRecDepth 100000 in
theorem zys{w:World}{t:Int}{a b:Bool}{n m:Int}{s r:List Nat}{x y x2 y2:Int}(h3: ¬(t=3/\a=false/\b=false)):
 Calls Tryz.prog 144 #[.int .i64 t,.agg #[.bool a,.int .i64 n,.string (zae s),.int .i64 x,.int .i64 y],.agg #[.bool b,.int .i64 m,.string (zae r),.int .i64 x2,.int .i64 y2]] w (zal (.int .i64 (qjx t (a,n,s,x,y) (b,m,r,x2,y2))) w):=by
 have B0:=Blk.new w 75 #[.bool a,.int .i64 n,.string (zae s),.int .i64 x,.int .i64 y];have B1:=Blk.new (w.alloc (.cells #[.bool a,.int .i64 n,.string (zae s),.int .i64 x,.int .i64 y] 75)) 75 #[.bool b,.int .i64 m,.string (zae r),.int .i64 x2,.int .i64 y2];obtain⟨x0,x1,x2',x3,x4⟩:=zcs (B0.alloc (.cells #[.bool b,.int .i64 m,.string (zae r),.int .i64 x2,.int .i64 y2] 75));obtain⟨y0,y1,y2',y3,y4⟩:=zcs B1;generalize hO:qjx t (a,n,s,x,y) (b,m,r,x2,y2)=O;have HO:=Hz hO;have H3:=Hz h3;clear B0 B1 hO h3;cases a<;> cases b
 case' false.false=>have h3: ¬t=3:=fun e=>H3.out ⟨e,rfl,rfl⟩
 all_goals
  clear H3;go_enter Tryz.func144,Tryz.ntmps144
  go_wp2_with (first
   |(go_at_call 163;refine cmpNulls_any.mono ?_;rintro e w' ⟨rfl,b1⟩)
   |(go_at_call 164;refine cmpI_any.mono ?_;rintro e w' ⟨rfl,rfl⟩)
   |(go_at_call 165;refine strCmp_any.mono ?_;rintro e w' ⟨rfl,rfl⟩))
 all_goals go_ret
 all_goals try refine⟨?_,zye w _ _⟩
 all_goals try refine⟨?_,New.trans (zye w _ _) (by assumption)⟩
 all_goals
  rw[<-HO.out];clear x0 x1 x2' x3 x4 y0 y1 y2' y3 y4 HO;simp_all[qjx]
open Go.RowKit Go.Hm
def qhz(x y:Int)(w:World)(e:Ending)(w':World):Prop:=∃a b,e= .returned (.complex .f64 a b)/\z3k x y a b/\New w w'
set_option maxRecDepth 100000 in
theorem zl6{w:World}{x y:Int}(hx:x.natAbs<9007199254740992)(hy:y.natAbs<9007199254740992):
 Calls Tryz.prog 204 #[.agg #[.int .i64 x,.int .i64 y]] w (qhz x y w):=by
 obtain⟨W0,hW0⟩:∃W,W=w.alloc (.cells #[.int .i64 x,.int .i64 y] 73):=⟨_,rfl⟩;have b0:New w W0:=by rw[hW0];exact(Below.refl _ _).alloc (qmt _) _
 have B0:Blk W0 w.heap.size 73 #[.int .i64 x,.int .i64 y]:=by rw[hW0];exact Blk.new _ _ _
 obtain⟨x0,x1⟩:=zbz B0;rw[hW0] at x0 x1;have R:=Hz (show z3k x y (floatOfInt .f64 x) (floatOfInt .f64 y) from⟨zvk x hx,zvk y hy⟩);clear B0 hx hy;go_enter Tryz.func204,Tryz.ntmps204
 go_wp2
 go_ret
 exact⟨_,_,rfl,R.out,by rw[<-hW0];exact b0⟩
set_option maxRecDepth 100000 in
theorem z01{w:World}{x y:Int}(hx: -2097152<=x/\x<=2097152)(hy: -2097152<=y/\y<=2097152):
 Calls Tryz.prog 187 #[.agg #[.int .i64 x,.int .i64 y]] w (zal (.int .i64 (x*x+y*y)) w):=by
 obtain⟨W0,hW0⟩:∃W,W=w.alloc (.cells #[.int .i64 x,.int .i64 y] 73):=⟨_,rfl⟩;have b0:New w W0:=by rw[hW0];exact(Below.refl _ _).alloc (qmt _) _
 have B0:Blk W0 w.heap.size 73 #[.int .i64 x,.int .i64 y]:=by rw[hW0];exact Blk.new _ _ _
 obtain⟨x0,x1⟩:=zbz B0;rw[hW0] at x0 x1;have P:=Hz (zl6 (w:=W0) (x:=x) (y:=y) (by omega) (by omega));have KN:=Hz (fun(a b:Nat) (h:z3k x y a b)=>z76 h hx hy);have HW:=Hz hW0;have HB:=Hz b0;clear B0 hx hy hW0 b0;go_enter Tryz.func187,Tryz.ntmps187
 go_wp2_with fail
 rw[<-HW.out];refine P.out.mono ?_;rintro e w1 ⟨a,b,rfl,hr,b1⟩;obtain⟨re,im,e1,e2⟩:=KN.out a b hr;have u:=z3l .f64 b;have m:=fun w:World=>run_complex_mul (P:=Tryz.prog) w 262 a b a (Op.negFloat .f64 b) re im e1
 have f:=fun w:World=>run_convert_float_int (P:=Tryz.prog) w 264 3 .f64 .i64 re _ (by kernel_rfl) (by kernel_rfl) e2
 clear x0 x1 e1 e2 hr P KN;go_wp2
 go_ret
 exact⟨rfl,New.trans HB.out b1⟩
end Go.Proofs.Y
namespace Go.Hm
open Go Go.RowKit
def orI:List Int->Int
 | []=>0
 |x::l=>if x=0 then orI l else x
theorem qjy{l:List Int}{k:Nat}(h:∀j,j<k->l.getD j 0=0)(hk:k<l.length)(hn:l.getD k 0≠0):orI l=l.getD k 0:=by
 induction l generalizing k with
 |nil=>simp at hk
 |cons x l ih=>
  cases k with
  |zero=>
   have:x≠0:=by simpa using hn
   simp[orI,this]
  |succ k=>
   have hx:x=0:=by simpa using h 0 (by omega)
   have:=ih (k:=k) (fun j hj=>by simpa using h (j+1) (by omega)) (by simpa using hk) (by simpa using hn);simp[orI,hx,this]
theorem qds{l:List Int}(h:∀j,j<l.length->l.getD j 0=0):orI l=0:=by
 induction l with
 |nil=>rfl
 |cons x l ih=>
  have hx:x=0:=by simpa using h 0 (by simp)
  have:=ih (fun j hj=>by simpa using h (j+1) (by simpa using hj));simp[orI,hx,this]
def cmpP(x y u v:Int):Int:=orI [zid (x*x+y*y) (u*u+v*v),zid x u,zid y v]
theorem z77(x:Int):zid x x=0:=by simp[zid]
end Go.Hm
namespace Go.Proofs.Y
open Go.RowKit Go.Hm
set_option maxRecDepth 100000 in
theorem qjz{w:World}{A:Option Addr}{n c:Nat}{l:List Int}(h:Reads w w.heap.size 1 A n (za7 .i64 l))(hn:n<=4611686018427387903):
 Calls Tryz.prog 186 #[.slice A n c] w (zdm (.int .i64 (orI l)) w):=by
 obtain rfl:=h.lenI;have K1:=Hz (fun(k:Nat) (h:∀j,j<k->l.getD j 0=0) (hk:k<l.length) (hn:l.getD k 0≠0)=>qjy h hk hn);have K2:=Hz (fun(h:∀j,j<l.length->l.getD j 0=0)=>qds h);generalize orI l=O at*;go_enter Tryz.func186,Tryz.ntmps186
 go_wp2
 go_loop [8] (fun i=>∃k:Nat,k<=l.length/\i= .int .i64 (k:Int)/\Hid (∀j,j<k->l.getD j 0=0)) (fun i=>l.length-(intOf i).toNat)
 case atStart=>exact⟨0,by omega,rfl,Hz (by intro j hj;omega)⟩
 case round=>
  obtain⟨k,hk,rfl,H⟩:=hrel;by_cases hlt:k<l.length
  ·obtain⟨ad,rfl,hbk,hcell⟩:=h.int hlt
   have M1:=Hz (fun(hn:l.getD k 0≠0)=>K1.out k H.out hlt hn);have M0:=Hz (fun(hz:l.getD k 0=0)=>show∀j,j<k+1->l.getD j 0=0 by
    intro j hj;rcases qq9.1 hj with hj|rfl
    ·exact H.out j hj
    ·exact hz)
   generalize l.getD k 0=x at*;by_cases hx:x=0
   ·have M2:=Hz (M0.out hx)
    subst hx;clear M0 M1 K1 H;go_wp2
    go_round
    case rel=>exact⟨k+1,by omega,by go_num,M2⟩
    case measure=>simp[intOf];omega
   ·have M2:=Hz (M1.out hx)
    have e1:(x != 0)=true:=by simpa using hx
    clear M0 M1 K1 H hx;go_wp2
    go_ret
    exact⟨by rw[M2.out];rfl,rfl⟩
  ·obtain rfl:k=l.length:=by omega
   have M2:=Hz (K2.out H.out);clear K1 K2 H hlt;go_wp2
   go_ret
   exact⟨by rw[M2.out];rfl,rfl⟩
set_option maxRecDepth 100000 in
theorem zvl{w:World}{x y u v:Int}(hx: -2097152<=x/\x<=2097152)(hy: -2097152<=y/\y<=2097152)(hu: -2097152<=u/\u<=2097152)(hv: -2097152<=v/\v<=2097152):
 Calls Tryz.prog 166 #[.agg #[.int .i64 x,.int .i64 y],.agg #[.int .i64 u,.int .i64 v]] w (zal (.int .i64 (cmpP x y u v)) w):=by
 obtain⟨W0,hW0⟩:∃W,W=(w.alloc (.cells #[.int .i64 x,.int .i64 y] 73)).alloc (.cells #[.int .i64 u,.int .i64 v] 73):=⟨_,rfl⟩;have b0:New w W0:=by rw[hW0];exact((Below.refl _ _).alloc (qmt _) _).alloc (by simp) _
 have B0:Blk W0 w.heap.size 73 #[.int .i64 x,.int .i64 y]:=by rw[hW0];exact(Blk.new _ _ _).alloc _
 have C0:Blk W0 (w.heap.size+1) 73 #[.int .i64 u,.int .i64 v]:=by rw[hW0];have:=Blk.new (w.alloc (.cells #[.int .i64 x,.int .i64 y] 73)) 73 #[.int .i64 u,.int .i64 v];simpa using this
 have F1:=Hz (fun(W:World) (hW:New W0 W)=>zbz (B0.below hW B0.lt));have F2:=Hz (fun(W:World) (hW:New W0 W)=>zbz (C0.below hW C0.lt));have P1:=Hz (fun(W:World)=>z01 (w:=W) hx hy);have P2:=Hz (fun(W:World)=>z01 (w:=W) hu hv);have HW:=Hz hW0;have HB:=Hz b0;have HO:=Hz (show cmpP x y u v=orI [zid (x*x+y*y) (u*u+v*v),zid x u,zid y v] from rfl);generalize cmpP x y u v=O at*;generalize x*x+y*y=nx at*;generalize u*u+v*v=nu at*;clear B0 C0 hx hy hu hv hW0 b0;go_enter Tryz.func166,Tryz.ntmps166
 go_wp2_with fail
 rw[<-HW.out];refine zax New [(true,0),(true,2),(true,5),(true,6),(true,7),(true,8),(true,10),(true,11),(true,12),(true,13),(false,1),(false,3),(false,4),(false,9),(false,14),(false,15),(false,16),(true,17)]
  New.refl New.trans (by kernel_rfl) (by kernel_rfl) (by kernel_rfl) (by kernel_rfl) ?_
 have hU:=New.drew W0;repeat(first
  |(refine zar rfl rfl (v:=?_) (fun W hW=>?_) ?_;rotate_left;(obtain⟨x0,x1⟩:=F1.out W (New.trans hU hW);obtain⟨y0,y1⟩:=F2.out W (New.trans hU hW);go_simp<;> with_reducible rfl);simp only[Act.put,qo6,qou,qo7])
  |(refine zba rfl rfl (fun K hK=>?_);go_simp
    first
     |(with_reducible refine(P1.out _).mono ?_)
     |(with_reducible refine(P2.out _).mono ?_)
    rintro e w9 ⟨rfl,c⟩;refine hK _ _ c ?_;clear hK;replace hU:=New.trans hU c)
  |(refine zba rfl rfl (fun K hK=>?_);go_simp
    (with_reducible refine cmpI_any.mono ?_)
    rintro e w9 ⟨rfl,rfl⟩;refine hK _ _ (New.refl _) ?_;clear hK))
 have bA:New w9 (w9.alloc (.cells #[.int .i64 (zid nx nu),.int .i64 (zid x u),.int .i64 (zid y v)] 3)):=(Below.refl _ _).alloc (qmt _) _;have RL:=Hz (qjz (c:=3) (Reads.litV w9 3 #[.int .i64 (zid nx nu),.int .i64 (zid x u),.int .i64 (zid y v)] 3 (za7 .i64 [zid nx nu,zid x u,zid y v]) rfl rfl) (by omega));rw[<-HO.out] at RL;refine zba rfl rfl (fun K hK=>?_);go_simp
 refine hK _ _ bA ?_;clear hK;refine zba rfl rfl (fun K hK=>?_);go_simp
 refine RL.out.mono ?_;rintro e w8 ⟨rfl,rfl⟩;refine hK _ _ (New.refl _) ?_;clear hK;replace hU:=New.trans hU bA;refine zar rfl rfl (v:=?_) (fun W hW=>?_) ?_;rotate_left
 ·go_simp<;> with_reducible rfl
 simp only[Act.put,qo6,qou,qo7];refine zdh ?_;go_wp2
 go_ret
 exact⟨rfl,New.trans HB.out hU⟩
end Go.Proofs.Y
namespace Go.Hm
open Go Go.RowKit
theorem zo9{x y:Int}:zid x y<=0↔x<=y:=by
 unfold zid;split
 ·omega
 ·split<;> omega
theorem cmpI_zero{x y:Int}:zid x y=0↔x=y:=by
 unfold zid;split
 ·omega
 ·split<;> omega
theorem znq(x y:Int):zid y x= -zid x y:=by
 unfold zid;by_cases h1:x<y
 ·rw[if_pos h1,if_neg (by omega),if_pos h1];rfl
 ·by_cases h2:y<x
  ·rw[if_pos h2,if_neg h1,if_pos h2]
  ·rw[if_neg h2,if_neg h1,if_neg h1,if_neg h2];rfl
theorem qk5(a b c:Int):orI [a,b,c]=if a=0 then(if b=0 then c else b) else a:=by simp only[orI];by_cases h1:a=0<;> by_cases h2:b=0<;> by_cases h3:c=0<;> simp[h1,h2,h3]
theorem qdt(x y u v:Int):cmpP u v x y= -cmpP x y u v:=by
 unfold cmpP;rw[znq (x*x+y*y),znq x,znq y,qk5,qk5];by_cases h1:zid (x*x+y*y) (u*u+v*v)=0
 ·rw[if_pos (by omega),if_pos h1]
  by_cases h2:zid x u=0
  ·rw[if_pos (by omega),if_pos h2]
  ·rw[if_neg (by omega),if_neg h2]
 ·rw[if_neg (by omega),if_neg h1]
theorem z78{x y u v:Int}:cmpP x y u v=0↔x=u/\y=v:=by
 unfold cmpP;rw[qk5];constructor
 ·intro h
  split at h
  ·split at h
   ·rename_i h1 h2
    exact⟨cmpI_zero.1 h2,cmpI_zero.1 h⟩
   ·rename_i h1 h2
    exact absurd h h2
  ·rename_i h1
   exact absurd h h1
 ·rintro⟨rfl,rfl⟩
  simp[z77]
theorem z79{x y u v:Int}:cmpP x y u v<=0↔x*x+y*y<u*u+v*v\/(x*x+y*y=u*u+v*v/\(x<u\/(x=u/\y<=v))):=by
 unfold cmpP;rw[qk5];generalize x*x+y*y=n;generalize u*u+v*v=m;have a1:= @zo9 n m;have a2:= @cmpI_zero n m;have b1:= @zo9 x u;have b2:= @cmpI_zero x u;have c1:= @zo9 y v;split
 ·split
  ·omega
  ·omega
 ·omega
open Go Go.RowKit
variable{P:Program}
theorem zlu{o:Oper}{a:Act}{w:World}{K:Act->World->Prop}{Q:Exit->Act->World->Prop}(ty:TypeId)(x y:Operand)(ho:o.op= .store ty x y)
 (g:Nat)(cells:Array Value)(hx:a.eval x= .pointer (some ⟨g,0,none⟩))(hy:a.eval y= .agg cells){t:TypeId}{old:Array Value}(hB:Blk w g t old)(hi:(P.info? ty).map (·.size)=some cells.size)
 (hold:old.size=cells.size)(h1:cells.all (·.oneCell')=true)
 (h:∀W,Blk W g t cells->w.grownBy W (some g)->K (a.put o.dst undef) W):o.wp P a w K Q:=by
 refine wp_store_row ty x y ho g cells hx hy t old hB hi hold h1 ?_;refine h _ ?_ ⟨rfl,rfl,rfl,by simp[World.setRow],fun k _ hne=>?_⟩
 ·unfold Blk at hB⊢
  simp[World.setRow,Array.getElem?_modify,hB]
 ·simp[World.setRow,Array.getElem?_modify]
  intro e;exact absurd (by rw[e]) hne
end Go.Hm
