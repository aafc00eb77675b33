/- Merged. -/
import Derived.Deep.RegionHeld3
import Derived.Test.YtbahbnbpmfgimaaGreatDoorBun1
set_option maxHeartbeats 200000
namespace Go.Hm
def vp(n:Nat):List Nat:=if _h:n<128 then [n] else(n%128+128)::vp (n/128)
theorem zfz{n:Nat}(h:n<128):vp n=[n]:=by rw[vp,dif_pos h]
theorem zf0{n:Nat}(h: ¬n<128):vp n=(n%128+128)::vp (n/128):=by rw[vp,dif_neg h]
theorem qhq(k:Nat):∀n,n<128^(k+1)->(vp n).length<=k+1:=by
 induction k with
 |zero=>intro n h;rw[zfz (by omega)];simp
 |succ k ih=>
  intro n h;by_cases hn:n<128
  ·rw[zfz hn];simp
  ·rw[zf0 hn]
   have:=ih (n/128) (Nat.div_lt_of_lt_mul (by rw[Nat.pow_succ] at h;omega));simp;omega
theorem zap{n:Nat}(h:n<18446744073709551616):(vp n).length<=10:=qhq 9 n (by omega)
theorem zt1(n:Nat):0<(vp n).length:=by
 by_cases hn:n<128
 ·rw[zfz hn];simp
 ·rw[zf0 hn];simp
def low(n:Nat):Nat->List Nat
 |0=>[]
 |k+1=>low n k++[n/256^k%256]
theorem za6(n k:Nat):(low n k).length=k:=by induction k<;> simp_all[low]
def num:List Nat->Nat
 | []=>0
 |b::l=>b+256*num l
theorem zy9(l:List Nat)(b:Nat):num (l++[b])=num l+b*256^l.length:=by
 induction l with
 |nil=>simp[num]
 |cons a l ih=>simp only[List.cons_append,num,ih,List.length_cons,Nat.pow_succ];rw[Nat.mul_add,Nat.add_assoc];congr 2;rw[Nat.mul_left_comm,Nat.mul_comm 256]
theorem zqw(l:List Nat)(h:∀x∈l,x<256):num l<256^l.length:=by
 induction l with
 |nil=>simp[num]
 |cons a l ih=>
  have h1:=ih fun x hx=>h x (by simp[hx])
  have h2:=h a (by simp);simp only[num,List.length_cons,Nat.pow_succ];omega
theorem zac{α:Type}(l:List α)(k:Nat)(d:α)(h:k<l.length):l.take (k+1)=l.take k++[l.getD k d]:=by rw[List.take_add_one,List.getElem?_eq_getElem h];simp[h]
theorem z4r(n k:Nat):num (low n k)=n%256^k:=by
 induction k with
 |zero=>simp[low,num,Nat.mod_one]
 |succ k ih=>
  rw[low,zy9,ih,za6,Nat.pow_succ,Nat.mod_mul,Nat.mul_comm (256^k)]
theorem zg0(n k:Nat):∀x∈low n k,x<256:=by
 induction k with
 |zero=>intro x hx;simp[low] at hx
 |succ k ih=>
  intro x hx;simp only[low,List.mem_append,List.mem_singleton] at hx;rcases hx with hx|hx
  ·exact ih x hx
  ·subst hx;exact Nat.mod_lt _ (by omega)
theorem zjs{α:Type}(l:List α)(k:Nat)(d:α)(h:k<l.length):l.drop k=l.getD k d::l.drop (k+1):=by rw[List.drop_eq_getElem_cons h];simp[h]
theorem zhk{n k:Nat}(h:n<256^k):num (low n k)=n:=by rw[z4r,Nat.mod_eq_of_lt h]
open Go.RowKit
section
variable{P:Program}{ops:Array Oper}{Q:Exit->Act->World->Prop}
theorem zhl{S S':World->Prop}(h:∀w,S w->S' w):∀(fuel:Nat) (listed:Array Bool) (a:Act) (w:World),wpAnyH P .any ops Q S fuel listed a w->wpAnyH P .any ops Q S' fuel listed a w
 |0,_,_,_,hh=>hh
 |fuel+1,_,_,_,hh=>⟨hh.1,fun i hi=>wpOp_mono (fun a' w' h'=>⟨h w' h'.1,zhl h fuel _ a' w' h'.2⟩) (hh.2 i hi)⟩
def qfa(ops:Array Oper):Array Bool->List (Bool × Nat)->Bool
 |listed,[]=>(Region.ready .any ops listed).isEmpty
 |listed,(true,i)::r=>(Region.ready .any ops listed).contains i&&(Region.free .any ops listed i&&qfa ops (listed.setIfInBounds i true) r)
 |listed,(false,i)::r=>decide (Region.ready .any ops listed=[i])&&qfa ops (listed.setIfInBounds i true) r
def z4n(P:Program)(ops:Array Oper)(R:World->World->Prop)(Q:Exit->Act->World->Prop):List (Bool × Nat)->Act->World->Prop
 | [],a,w=>Q .normal a w
 |(true,i)::r,a,w=>∃o v,ops[i]? =some o/\((Region.wanted o (yielded ops a.tmps)=true/\ ∀w',R w w'->(execOp a.eval o).run P w'= .ok (.value v) w')\/(Region.wanted o (yielded ops a.tmps)=false/\v=undef))/\z4n P ops R Q r (a.put o.dst v) w
 |(false,i)::r,a,w=>∃o,ops[i]? =some o/\if Region.wanted o (yielded ops a.tmps) then o.wp P a w (fun a' w'=>R w w'/\z4n P ops R Q r a' w') (NoPanic Q) else z4n P ops R Q r (a.put o.dst undef) w
variable{R:World->World->Prop}
theorem zt3(hrefl:∀w,R w w)(htrans:∀{x y z},R x y->R y z->R x z)(hs:Region.noSelect ops=true):
 ∀(ord:List (Bool × Nat)) (fuel:Nat) (listed:Array Bool) (a:Act) (w:World),ord.length<=fuel->qfa ops listed ord=true->z4n P ops R Q ord a w->wpAnyH P .any ops (NoPanic Q) (R w) fuel listed a w:=by
 intro ord;induction ord with
 |nil=>
  intro fuel listed a w _ hok h;exact wpAnyH_done (by simpa[qfa] using hok) (NoPanic.normal h) fuel
 |cons x r ih=>
  obtain⟨b,i⟩:=x;intro fuel listed a w hl hok h;obtain⟨fuel,rfl⟩:∃k,fuel=k+1:=⟨fuel-1,by simp at hl;omega⟩;have hl':r.length<=fuel:=by simp at hl;omega
  cases b with
  |true=>
   obtain⟨o,v,ho,hv,hr⟩:=h;simp only[qfa,Bool.and_eq_true] at hok;obtain⟨h1,h2,h3⟩:=hok;exact wpAnyH_take ho hs h2 h1 (fun _ _ _ hp=>hp) hv (hrefl w) (ih fuel _ _ w hl' h3 hr)
  |false=>
   obtain⟨o,ho,hc⟩:=h;simp only[qfa,Bool.and_eq_true,decide_eq_true_eq] at hok;obtain⟨h1,h3⟩:=hok;refine wpAnyH_all h1 (by simp) ?_;intro j hj;obtain rfl:j=i:=by simpa using hj
   unfold wpOp;simp only[ho];split
   ·rename_i hw
    rw[if_pos hw] at hc;exact .inl (Oper.wp_mono (fun a' w' hh=>⟨hh.1,zhl (fun z hz=>htrans hh.1 hz) fuel _ a' w' (ih fuel _ a' w' hl' h3 hh.2)⟩) hc)
   ·rename_i hw
    rw[if_neg hw] at hc;exact⟨hrefl w,ih fuel _ _ w hl' h3 hc⟩
theorem zaw{id:Nat}{a:Act}{w:World}(R:World->World->Prop)(ord:List (Bool × Nat))(hrefl:∀w,R w w)(htrans:∀{x y z},R x y->R y z->R x z)(hm:P.follows .mixedOrders=true)
 (hs:Region.noSelect ops=true)(hl:decide (ord.length<=ops.size)=true)(hok:qfa ops (Array.replicate ops.size false) ord=true)(h:z4n P ops R Q ord a w.drew):(Code.region id ops true).wp P Q a w:=
 wp_region_noPanic (wp_region_held hm (zt3 hrefl htrans hs ord ops.size _ a _ (by simpa using hl) hok h))
abbrev New(w w':World):Prop:=Below w.heap.size w w'
theorem New.refl(w:World):New w w:=Below.refl _ _
theorem New.trans{x y z:World}(h:New x y)(k:New y z):New x z:=Below.trans h (Below.mono k h.size)
theorem New.drew(w:World):New w w.drew:=(Below.refl _ _).drew
abbrev Far(g:Nat)(w w':World):Prop:=w.grownBy w' (some g)
theorem Far.refl(g:Nat)(w:World):Far g w w:=World.grownBy.refl w _
theorem Far.trans{g:Nat}{x y z:World}(h:Far g x y)(k:Far g y z):Far g x z:=World.grownBy.trans h k
theorem Far.drew(g:Nat)(w:World):Far g w w.drew:=⟨rfl,rfl,rfl,Nat.le_refl _,fun _ _ _=>rfl⟩
theorem Far.of_new{g:Nat}{w w':World}(h:New w w'):Far g w w':=⟨h.os,h.tape,h.output,h.size,fun k hk _=>h.block k hk⟩
theorem Far.below{g B:Nat}{a w w':World}(h:Below B a w)(hg:Far g w w')(hB:B<=g)(hBw:B<=a.heap.size):Below B a w':=zbe h hg hB hBw
theorem New.far{w w0 w1:World}{g:Nat}(h:New w w0)(k:Far g w0 w1)(hg:w.heap.size<=g):New w w1:=Far.below h k hg (Nat.le_refl _)
variable{i:Nat}{r:List (Bool × Nat)}{a:Act}{w:World}{o:Oper}{v:Value}
theorem zdh(h:Q .normal a w):z4n P ops R Q [] a w:=h
section
variable{dst:Option Tmp}{op:Op}{ty:TypeId}{pos:String}{af:Array Edge}{gd:Option (Nat × Bool)}
theorem zar(ho:ops[i]? =some ⟨dst,op,ty,pos,af,gd⟩)(hw:Region.wanted ⟨dst,op,ty,pos,af,gd⟩ (yielded ops a.tmps)=true)(hv:∀w',R w w'->(execOp a.eval ⟨dst,op,ty,pos,af,gd⟩).run P w'= .ok (.value v) w')(h:z4n P ops R Q r (a.put dst v) w):z4n P ops R Q ((true,i)::r) a w:=
 ⟨_,v,ho,.inl ⟨hw,hv⟩,h⟩
theorem qfb{b:Bool}(ho:ops[i]? =some ⟨dst,op,ty,pos,af,gd⟩)(hw:Region.wanted ⟨dst,op,ty,pos,af,gd⟩ (yielded ops a.tmps)=false)(h:z4n P ops R Q r (a.put dst undef) w):z4n P ops R Q ((b,i)::r) a w:=by
 cases b
 ·exact⟨_,ho,by rw[if_neg (by simp[hw])];exact h⟩
 ·exact⟨_,undef,ho,.inr ⟨hw,rfl⟩,h⟩
theorem za7(ho:ops[i]? =some ⟨dst,op,ty,pos,af,gd⟩)(hw:Region.wanted ⟨dst,op,ty,pos,af,gd⟩ (yielded ops a.tmps)=true)(h:∀K:Act->World->Prop,(∀a' w',R w w'->z4n P ops R Q r a' w'->K a' w')->Oper.wp P ⟨dst,op,ty,pos,af,gd⟩ a w K (NoPanic Q)):z4n P ops R Q ((false,i)::r) a w:=
 ⟨_,ho,by rw[if_pos hw];exact h _ fun _ _ h1 h2=>⟨h1,h2⟩⟩
end
end
open Go.RowKit Go.WideShapes Go.ChangeShapes
section
variable{H:Type}{enc:TypeId × Value->H}{P:Program}
theorem zkj(hl:laidOutB P=true){W W':World}{sp:Nat->Bool}(hb:Below W.heap.size W W'):
 ∀{ts:List TypeId} {vs:List Value} {ds:List (DataW H)} {ps:List MemPlace},(∀t∈ts,P.readableRec t=true/\t<P.types.size)->DataW.TrodAll enc P W 0 (fun _=>true) true ts vs ds ps->
  (∀p∈ps,p.block<W.heap.size)->(∀p∈ps,sp p.block=true)->DataW.TrodAll enc P W' 0 sp true ts vs ds ps
 | [],_,_,_,_,h,_,_=>by
   obtain⟨rfl,rfl,rfl⟩:=trodAll_nil h;rfl
 |t::ts,_,_,_,hr,h,hlt,hsp=>by
  obtain⟨v,vs,d,ds,p,q,rfl,rfl,rfl,h1,h2⟩:=trodAll_cons h;refine⟨p,q,?_,zkj hl hb (fun t ht=>hr t (by simp[ht])) h2 (fun x hx=>hlt x (by simp[hx])) (fun x hx=>hsp x (by simp[hx])),rfl⟩;exact WideElems.Trod_stays hl (hr t (by simp)).1 (hr t (by simp)).2 h1 (fun x hx=>hb.same (hlt x (by simp[hx]))) (fun x hx=>hsp x (by simp[hx]))
theorem qas{f:Func}{s:ChangeSpec}{tb:TypeId}{W W':World}{args:Array Value}{ds gs:List (DataW H)}{before:List MemPlace}
 (hl:laidOutB P=true)(hrt:f.resultTypes= #[tb])(htb:P.underlying tb=some .bool)(hr:∀t∈f.params.toList,P.readableRec t=true/\t<P.types.size)
 (hv:s.vars=[])(hs:s.fn H (ds++gs)={results:=[.lit (.bool true)],args:=ds})
 (hW:DataW.Whole enc P f.params.toList s.vars false W args.toList ds gs before)(hb:Below W.heap.size W W'):
 s.post enc P f false true false false W args (.bool true) W':=by
 have hlt:∀p∈before,p.block<W.heap.size:=fun p hp=>hW.lt p hp
 obtain⟨p,q,hA,hV,rfl,hfz,hnd⟩:=id hW;rw[hv] at hV;obtain⟨rfl,rfl⟩:=trodVars_none hV;simp only[List.append_nil] at hlt;have hargs:=zkj (sp:=fun b=>decide (b<W.heap.size)) hl hb hr hA hlt (fun x hx=>by simpa using hlt x hx);refine⟨ds,[],p++[],[],p,[],hW,?_,?_,?_,World.keptBut_mono (fun x hx=>⟨hx,?_⟩) (hb.frame (· ∈p++[])),fun h=>by cases h⟩
 ·rw[hs,hrt]
  exact trodAll_mk1 (shut_bool htb true)
 ·rw[hs];exact hargs
 ·rw[hs,hv];rfl
 ·exact .inr (.inl (by simpa using hx))
end
theorem zzg{H:Type}{P:Program}{ts:List TypeId}{ds:List (DataW H)}(h:(DataW.weightsEach P ts ds).all (· <=reachBytes)=true){j:Nat}{t:TypeId}{d:DataW H}(ht:ts[j]? =some t)(hd:ds[j]? =some d):
 ∀n∈d.weights P t,n<=reachBytes:=fun n hn=>by
 have:=List.all_eq_true.1 h n (DataW.weights_mem_each ht hd n hn);simpa using this
theorem z5b{H:Type}{enc:TypeId × Value->H}{P:Program}{W:World}{t e:TypeId}{k:IntKind}{base:Nat}{v:Value}{d:DataW H}{ps:List MemPlace}{sz:Nat}
 (ht:P.underlying t=some (.slice e))(he:P.underlying e=some (.int k))(hc:P.cellsOf e=1)(hs:k.signed=false)(hby:P.bytesOf e=sz)
 (hval:Value.okWide P W .any base t v)(h:DataW.Trod enc P W 0 (fun _=>true) true t v d ps)(hlt:∀p∈ps,p.block<W.heap.size)(hw:∀n∈d.weights P t,n<=reachBytes):
 ∃A c,∃l:List Nat,v= .slice A l.length c/\l.length<=c/\c<=maxLen/\c*sz<=reachBytes/\Reads W W.heap.size 1 A l.length (zao k l)/\ ∀x∈l,(x:Int)<=k.max:=by
 obtain⟨a0,len,cap,rfl⟩:=okWide_slice ht hval;obtain⟨fuel,hf⟩:=h;rcases open_ints ht he hc hf with⟨hcs,hx⟩|⟨a,len',cap',zs,hcs,_,hl,hm,hz,hx,hcell,hwz⟩
 ·have:a0=none/\len=0/\cap=0:=by simpa[Value.cells] using hcs
  obtain⟨rfl,rfl,rfl⟩:=this;exact⟨none,0,[],rfl,by simp,by simp[maxLen],by simp,⟨by simp[zao],fun h=>by simp at h⟩,by simp⟩
 ·have:a0=some a/\len=len'/\cap=cap':=by simpa[Value.cells] using hcs
  obtain⟨rfl,rfl,rfl⟩:=this;simp only[Prod.mk.injEq] at hx;obtain⟨rfl,rfl⟩:=hx;rw[if_pos rfl] at hz;have hzl:(zs.take len).length=len:=by rw[List.length_take];omega
  have hll:((zs.take len).map Int.toNat).length=len:=by rw[List.length_map,hzl]
  have hnn:∀n∈zs,0<=n/\n<=k.max:=fun n hn=>by have:=hwz n hn;simpa[Lit.wf,IntKind.min,hs] using this
  have hnums:zao k ((zs.take len).map Int.toNat)=(zs.take len).map (Value.int k):=by
   unfold zao;rw[List.map_map];refine List.map_congr_left fun n hn=>?_
   have:=(hnn n (List.mem_of_mem_take hn)).1;simp[Int.toNat_of_nonneg this]
  refine⟨some a,cap,(zs.take len).map Int.toNat,by rw[hll],by rw[hll];exact hl,hm,?_,⟨by rw[zaa,hll];simp,fun hn=>⟨a,rfl,?_,?_⟩⟩,?_⟩
  ·have h1:=hw (cap*sz) (by
    simp only[DataW.weights,ht,hby,List.mem_cons];left;congr 1
    simp[lits,hz];omega)
   exact h1
  ·rw[hll] at hn
   exact hlt (.cell a.block a.off) (by unfold MemPlace.row;simp only[List.mem_map,List.mem_range];exact⟨0,by omega,rfl⟩)
  ·intro j u hu
   rw[hnums] at hu;have hj:j<(zs.take len).length:=by
    rcases Nat.lt_or_ge j (zs.take len).length with h1|h1
    ·exact h1
    ·rw[List.getElem?_eq_none (by simpa using h1)] at hu
     cases hu
   have hjz:j<zs.length:=by rw[hzl] at hj;omega
   rw[hcell j hjz];rw[List.getElem?_map,List.getElem?_take_of_lt (by rw[hzl] at hj;exact hj),List.getElem?_eq_getElem hjz] at hu;simpa[List.getD,List.getElem?_eq_getElem hjz] using hu
  ·intro x hx
   simp only[List.mem_map] at hx;obtain⟨n,hn,rfl⟩:=hx;have:=hnn n (List.mem_of_mem_take hn);rw[Int.toNat_of_nonneg this.1];exact this.2
def st(l:List Nat):Nat:=(l.takeWhile fun y=>y==l.getD 0 0).length
theorem qie(p:Nat->Bool):∀(l:List Nat) (n:Nat),n<=l.length->(∀i,i<n->p (l.getD i 0)=true)->(n=l.length\/p (l.getD n 0)=false)->(l.takeWhile p).length=n
 | [],n,h1,_,_=>by simp at h1;simp[h1]
 |x::r,0,_,_,h3=>by
  rcases h3 with h3|h3
  ·simp at h3
  ·have:p x=false:=by simpa using h3
   simp[this]
 |x::r,n+1,h1,h2,h3=>by
  have hx:p x=true:=by simpa using h2 0 (by omega)
  rw[List.takeWhile_cons,if_pos hx,List.length_cons,qie p r n (by simpa using h1) (fun i hi=>by simpa using h2 (i+1) (by omega)) (by simpa using h3)]
theorem qb6{l:List Nat}{n:Nat}(h1:n<=l.length)(h2:∀i,i<n->l.getD i 0=l.getD 0 0)(h3:n=l.length\/l.getD n 0≠l.getD 0 0):st l=n:=
 qie _ l n h1 (fun i hi=>by simpa using h2 i hi) (h3.imp id fun h=>by simpa using h)
theorem z60(p:Nat->Bool):∀l:List Nat,(l.takeWhile p).length<=l.length/\(∀i,i<(l.takeWhile p).length->p (l.getD i 0)=true)/\((l.takeWhile p).length=l.length\/p (l.getD (l.takeWhile p).length 0)=false)
 | []=>by simp
 |x::r=>by
  obtain⟨a,b,c⟩:=z60 p r;by_cases hx:p x=true
  ·rw[List.takeWhile_cons,if_pos hx,List.length_cons]
   refine⟨by simpa using a,fun i hi=>?_,by simpa using c⟩;cases i with
   |zero=>simpa using hx
   |succ i=>simpa using b i (by omega)
  ·rw[List.takeWhile_cons,if_neg hx]
   refine⟨by simp,by simp,.inr (by simpa using hx)⟩
theorem zf8(l:List Nat):st l<=l.length/\(∀i,i<st l->l.getD i 0=l.getD 0 0)/\(st l=l.length\/l.getD (st l) 0≠l.getD 0 0):=by obtain⟨a,b,c⟩:=z60 (fun y=>y==l.getD 0 0) l;exact⟨a,fun i hi=>by simpa using b i hi,c.imp id fun h=>by unfold st;simpa using h⟩
theorem zmz{l:List Nat}(h:0<l.length):1<=st l:=by
 obtain⟨a,b,c⟩:=zf8 l;rcases Nat.eq_zero_or_pos (st l) with h0|h0
 ·rw[h0] at c
  rcases c with c|c
  ·omega
  ·exact absurd rfl c
 ·exact h0
theorem zjc{l m:List Nat}{i:Nat}(h:i<l.length):(l++m).getD i 0=l.getD i 0:=by simp[List.getD_eq_getElem?_getD,List.getElem?_append_left h]
theorem zq8{l:List Nat}{i k:Nat}(h:i<k):(l.take k).getD i 0=l.getD i 0:=by simp[List.getD_eq_getElem?_getD,h]
theorem qif{l m:List Nat}(h:st (l++m)<=l.length)(h0:0<l.length):st l=st (l++m):=by
 obtain⟨a,b,c⟩:=zf8 (l++m);refine qb6 h (fun i hi=>?_) ?_
 ·have:=b i hi
  rwa[zjc (by omega),zjc h0] at this
 ·by_cases e:st (l++m)=l.length
  ·exact .inl e
  ·rcases c with c|c
   ·rw[c,List.length_append] at h e
    omega
   ·rw[zjc (by omega),zjc h0] at c
    exact .inr c
theorem z61{l m:List Nat}:st l<=st (l++m):=by
 rcases Nat.eq_zero_or_pos l.length with h0|h0
 ·have:=(zf8 l).1
  omega
 by_cases h:st (l++m)<=l.length
 ·exact Nat.le_of_eq (qif h h0)
 ·have:=(zf8 l).1
  omega
theorem qgk(l:List Nat):st (l.take (st l))=st l:=by
 obtain⟨a,b,c⟩:=zf8 l;have hl:(l.take (st l)).length=st l:=by rw[List.length_take];omega
 rcases Nat.eq_zero_or_pos (st l) with h0|h0
 ·have:=(zf8 (l.take (st l))).1
  omega
 ·refine qb6 (by omega) (fun i hi=>?_) (.inl hl.symm)
  rw[zq8 hi,zq8 h0];exact b i hi
def zz3(rest l:List Nat):List (List Nat):=
 if _h:l.length=0 then(if rest.length=0 then [] else [rest])
 else if 4<=st l then(if rest.length=0 then [] else [rest])++(l.take (st l)::zz3 [] (l.drop (st l)))
 else zz3 (rest++l.take (st l)) (l.drop (st l))
termination_by l.length
decreasing_by
 ·have:=zmz (l:=l) (by omega)
  rw[List.length_drop];omega
 ·have:=zmz (l:=l) (by omega)
  rw[List.length_drop];omega
def pcs(l:List Nat):List (List Nat):=zz3 [] l
def zuw(rest:List Nat):List (List Nat):=if rest.length=0 then [] else [rest]
theorem zsz(rest:List Nat):zz3 rest []=zuw rest:=by rw[zz3];rfl
theorem zs0{rest l:List Nat}(h0:0<l.length)(h:4<=st l):zz3 rest l=zuw rest++(l.take (st l)::zz3 [] (l.drop (st l))):=by rw[zz3,dif_neg (by omega),if_pos h];rfl
theorem zo4{rest l:List Nat}(h0:0<l.length)(h: ¬4<=st l):zz3 rest l=zz3 (rest++l.take (st l)) (l.drop (st l)):=by rw[zz3,dif_neg (by omega),if_neg h]
theorem z62{C:List Nat->List Nat->Prop}(h0:∀rest,C rest [])
 (h1:∀rest l,0<l.length->4<=st l->C [] (l.drop (st l))->C rest l)
 (h2:∀rest l,0<l.length-> ¬4<=st l->C (rest++l.take (st l)) (l.drop (st l))->C rest l):∀rest l,C rest l:=by
 intro rest l;induction hn:l.length using Nat.strongRecOn generalizing rest l with
 |_ n ih=>
  rcases Nat.eq_zero_or_pos l.length with hz|hz
  ·obtain rfl:=List.eq_nil_of_length_eq_zero hz
   exact h0 rest
  ·have hp:=zmz hz
   have hd:(l.drop (st l)).length<n:=by rw[List.length_drop];omega
   by_cases h:4<=st l
   ·exact h1 rest l hz h (ih _ hd _ _ rfl)
   ·exact h2 rest l hz h (ih _ hd _ _ rfl)
theorem zq9(rest:List Nat):(zuw rest).flatten=rest:=by
 unfold zuw;split
 ·rename_i h
  exact(List.eq_nil_of_length_eq_zero h).symm
 ·simp
theorem z63:∀rest l,(zz3 rest l).flatten=rest++l:=by
 refine z62 ?_ ?_ ?_
 ·intro rest
  rw[zsz,zq9,List.append_nil]
 ·intro rest l h0 h ih
  rw[zs0 h0 h,List.flatten_append,zq9,List.flatten_cons,ih,List.nil_append,List.take_append_drop]
 ·intro rest l h0 h ih
  rw[zo4 h0 h,ih,List.append_assoc,List.take_append_drop]
def zxx(p:List Nat):Prop:=0<p.length/\(4<=st p->st p=p.length)
theorem qgl:∀rest l,(rest=[]\/st (rest++l)<4)-> ∀p∈zz3 rest l,zxx p:=by
 have hr:∀rest l:List Nat,(rest=[]\/st (rest++l)<4)-> ∀p∈zuw rest,zxx p:=by
  intro rest l hc p hp;unfold zuw at hp;split at hp
  ·cases hp
  ·rename_i hl
   obtain rfl:=List.mem_singleton.1 hp;refine⟨by omega,fun h4=>?_⟩;rcases hc with rfl|hc
   ·simp at hl
   ·have:=z61 (l:=p) (m:=l)
    omega
 refine z62 ?_ ?_ ?_
 ·intro rest hc p hp
  rw[zsz] at hp;exact hr rest [] hc p hp
 ·intro rest l h0 h ih hc p hp
  rw[zs0 h0 h] at hp;rcases List.mem_append.1 hp with hp|hp
  ·exact hr rest l hc p hp
  ·rcases List.mem_cons.1 hp with rfl|hp
   ·have hl:(l.take (st l)).length=st l:=by have:=(zf8 l).1;rw[List.length_take];omega
    exact⟨by omega,fun _=>by rw[qgk,hl]⟩
   ·exact ih (.inl rfl) p hp
 ·intro rest l h0 h ih hc p hp
  rw[zo4 h0 h] at hp;refine ih (.inr ?_) p hp;rw[List.append_assoc,List.take_append_drop];rcases hc with rfl|hc
  ·simpa using h
  ·exact hc
theorem qig(l:List Nat):∀p∈pcs l,zxx p:=qgl [] l (.inl rfl)
theorem zz4(l:List Nat):(pcs l).flatten=l:=z63 [] l
end Go.Hm
