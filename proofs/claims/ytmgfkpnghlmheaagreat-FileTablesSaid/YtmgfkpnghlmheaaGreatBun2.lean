/- Merged. -/
import Derived.Deep.RegionHeld3
import Derived.Test.YtmgfkpnghlmheaaGreatBun1
set_option maxHeartbeats 200000
namespace Go.Hm
def vp(n:Nat):List Nat:=if _h:n<128 then [n] else(n%128+128)::vp (n/128)
theorem zez{n:Nat}(h:n<128):vp n=[n]:=by rw[vp,dif_pos h]
theorem zfr{n:Nat}(h: ¬n<128):vp n=(n%128+128)::vp (n/128):=by rw[vp,dif_neg h]
theorem qgt(k:Nat):∀n,n<128^(k+1)->(vp n).length<=k+1:=by
 induction k with
 |zero=>intro n h;rw[zez (by omega)];simp
 |succ k ih=>
  intro n h;by_cases hn:n<128
  ·rw[zez hn];simp
  ·rw[zfr hn]
   have:=ih (n/128) (Nat.div_lt_of_lt_mul (by rw[Nat.pow_succ] at h;omega));simp;omega
theorem zaj{n:Nat}(h:n<18446744073709551616):(vp n).length<=10:=qgt 9 n (by omega)
theorem zma(n:Nat):0<(vp n).length:=by
 by_cases hn:n<128
 ·rw[zez hn];simp
 ·rw[zfr hn];simp
def low(n:Nat):Nat->List Nat
 |0=>[]
 |k+1=>low n k++[n/256^k%256]
theorem zbg(n k:Nat):(low n k).length=k:=by induction k<;> simp_all[low]
def num:List Nat->Nat
 | []=>0
 |b::l=>b+256*num l
theorem zym(l:List Nat)(b:Nat):num (l++[b])=num l+b*256^l.length:=by
 induction l with
 |nil=>simp[num]
 |cons a l ih=>simp only[List.cons_append,num,ih,List.length_cons,Nat.pow_succ];rw[Nat.mul_add,Nat.add_assoc];congr 2;rw[Nat.mul_left_comm,Nat.mul_comm 256]
theorem zqn(l:List Nat)(h:∀x∈l,x<256):num l<256^l.length:=by
 induction l with
 |nil=>simp[num]
 |cons a l ih=>
  have h1:=ih fun x hx=>h x (by simp[hx])
  have h2:=h a (by simp);simp only[num,List.length_cons,Nat.pow_succ];omega
theorem zae{α:Type}(l:List α)(k:Nat)(d:α)(h:k<l.length):l.take (k+1)=l.take k++[l.getD k d]:=by rw[List.take_add_one,List.getElem?_eq_getElem h];simp[h]
theorem z3w(n k:Nat):num (low n k)=n%256^k:=by
 induction k with
 |zero=>simp[low,num,Nat.mod_one]
 |succ k ih=>
  rw[low,zym,ih,zbg,Nat.pow_succ,Nat.mod_mul,Nat.mul_comm (256^k)]
theorem zmb(n k:Nat):∀x∈low n k,x<256:=by
 induction k with
 |zero=>intro x hx;simp[low] at hx
 |succ k ih=>
  intro x hx;simp only[low,List.mem_append,List.mem_singleton] at hx;rcases hx with hx|hx
  ·exact ih x hx
  ·subst hx;exact Nat.mod_lt _ (by omega)
theorem zd0{α:Type}(l:List α)(k:Nat)(d:α)(h:k<l.length):l.drop k=l.getD k d::l.drop (k+1):=by rw[List.drop_eq_getElem_cons h];simp[h]
theorem zkf{n k:Nat}(h:n<256^k):num (low n k)=n:=by rw[z3w,Nat.mod_eq_of_lt h]
open Go.RowKit
section
variable{P:Program}{ops:Array Oper}{Q:Exit->Act->World->Prop}
theorem zhm{S S':World->Prop}(h:∀w,S w->S' w):∀(fuel:Nat) (listed:Array Bool) (a:Act) (w:World),wpAnyH P .any ops Q S fuel listed a w->wpAnyH P .any ops Q S' fuel listed a w
 |0,_,_,_,hh=>hh
 |fuel+1,_,_,_,hh=>⟨hh.1,fun i hi=>wpOp_mono (fun a' w' h'=>⟨h w' h'.1,zhm h fuel _ a' w' h'.2⟩) (hh.2 i hi)⟩
def qel(ops:Array Oper):Array Bool->List (Bool × Nat)->Bool
 |listed,[]=>(Region.ready .any ops listed).isEmpty
 |listed,(true,i)::r=>(Region.ready .any ops listed).contains i&&(Region.free .any ops listed i&&qel ops (listed.setIfInBounds i true) r)
 |listed,(false,i)::r=>decide (Region.ready .any ops listed=[i])&&qel ops (listed.setIfInBounds i true) r
def zyn(P:Program)(ops:Array Oper)(R:World->World->Prop)(Q:Exit->Act->World->Prop):List (Bool × Nat)->Act->World->Prop
 | [],a,w=>Q .normal a w
 |(true,i)::r,a,w=>∃o v,ops[i]? =some o/\((Region.wanted o (yielded ops a.tmps)=true/\ ∀w',R w w'->(execOp a.eval o).run P w'= .ok (.value v) w')\/(Region.wanted o (yielded ops a.tmps)=false/\v=undef))/\zyn P ops R Q r (a.put o.dst v) w
 |(false,i)::r,a,w=>∃o,ops[i]? =some o/\if Region.wanted o (yielded ops a.tmps) then o.wp P a w (fun a' w'=>R w w'/\zyn P ops R Q r a' w') (NoPanic Q) else zyn P ops R Q r (a.put o.dst undef) w
variable{R:World->World->Prop}
theorem ztz(hrefl:∀w,R w w)(htrans:∀{x y z},R x y->R y z->R x z)(hs:Region.noSelect ops=true):
 ∀(ord:List (Bool × Nat)) (fuel:Nat) (listed:Array Bool) (a:Act) (w:World),ord.length<=fuel->qel ops listed ord=true->zyn P ops R Q ord a w->wpAnyH P .any ops (NoPanic Q) (R w) fuel listed a w:=by
 intro ord;induction ord with
 |nil=>
  intro fuel listed a w _ hok h;exact wpAnyH_done (by simpa[qel] using hok) (NoPanic.normal h) fuel
 |cons x r ih=>
  obtain⟨b,i⟩:=x;intro fuel listed a w hl hok h;obtain⟨fuel,rfl⟩:∃k,fuel=k+1:=⟨fuel-1,by simp at hl;omega⟩;have hl':r.length<=fuel:=by simp at hl;omega
  cases b with
  |true=>
   obtain⟨o,v,ho,hv,hr⟩:=h;simp only[qel,Bool.and_eq_true] at hok;obtain⟨h1,h2,h3⟩:=hok;exact wpAnyH_take ho hs h2 h1 (fun _ _ _ hp=>hp) hv (hrefl w) (ih fuel _ _ w hl' h3 hr)
  |false=>
   obtain⟨o,ho,hc⟩:=h;simp only[qel,Bool.and_eq_true,decide_eq_true_eq] at hok;obtain⟨h1,h3⟩:=hok;refine wpAnyH_all h1 (by simp) ?_;intro j hj;obtain rfl:j=i:=by simpa using hj
   unfold wpOp;simp only[ho];split
   ·rename_i hw
    rw[if_pos hw] at hc;exact .inl (Oper.wp_mono (fun a' w' hh=>⟨hh.1,zhm (fun z hz=>htrans hh.1 hz) fuel _ a' w' (ih fuel _ a' w' hl' h3 hh.2)⟩) hc)
   ·rename_i hw
    rw[if_neg hw] at hc;exact⟨hrefl w,ih fuel _ _ w hl' h3 hc⟩
theorem zat{id:Nat}{a:Act}{w:World}(R:World->World->Prop)(ord:List (Bool × Nat))(hrefl:∀w,R w w)(htrans:∀{x y z},R x y->R y z->R x z)(hm:P.follows .mixedOrders=true)
 (hs:Region.noSelect ops=true)(hl:decide (ord.length<=ops.size)=true)(hok:qel ops (Array.replicate ops.size false) ord=true)(h:zyn P ops R Q ord a w.drew):(Code.region id ops true).wp P Q a w:=
 wp_region_noPanic (wp_region_held hm (ztz hrefl htrans hs ord ops.size _ a _ (by simpa using hl) hok h))
abbrev New(w w':World):Prop:=Below w.heap.size w w'
theorem New.refl(w:World):New w w:=Below.refl _ _
theorem New.trans{x y z:World}(h:New x y)(k:New y z):New x z:=Below.trans h (Below.mono k h.size)
theorem New.drew(w:World):New w w.drew:=(Below.refl _ _).drew
abbrev Far(g:Nat)(w w':World):Prop:=w.grownBy w' (some g)
theorem Far.refl(g:Nat)(w:World):Far g w w:=World.grownBy.refl w _
theorem Far.trans{g:Nat}{x y z:World}(h:Far g x y)(k:Far g y z):Far g x z:=World.grownBy.trans h k
theorem Far.drew(g:Nat)(w:World):Far g w w.drew:=⟨rfl,rfl,rfl,Nat.le_refl _,fun _ _ _=>rfl⟩
theorem Far.of_new{g:Nat}{w w':World}(h:New w w'):Far g w w':=⟨h.os,h.tape,h.output,h.size,fun k hk _=>h.block k hk⟩
theorem Far.below{g B:Nat}{a w w':World}(h:Below B a w)(hg:Far g w w')(hB:B<=g)(hBw:B<=a.heap.size):Below B a w':=zax h hg hB hBw
theorem New.far{w w0 w1:World}{g:Nat}(h:New w w0)(k:Far g w0 w1)(hg:w.heap.size<=g):New w w1:=Far.below h k hg (Nat.le_refl _)
variable{i:Nat}{r:List (Bool × Nat)}{a:Act}{w:World}{o:Oper}{v:Value}
theorem zc3(h:Q .normal a w):zyn P ops R Q [] a w:=h
section
variable{dst:Option Tmp}{op:Op}{ty:TypeId}{pos:String}{af:Array Edge}{gd:Option (Nat × Bool)}
theorem za1(ho:ops[i]? =some ⟨dst,op,ty,pos,af,gd⟩)(hw:Region.wanted ⟨dst,op,ty,pos,af,gd⟩ (yielded ops a.tmps)=true)(hv:∀w',R w w'->(execOp a.eval ⟨dst,op,ty,pos,af,gd⟩).run P w'= .ok (.value v) w')(h:zyn P ops R Q r (a.put dst v) w):zyn P ops R Q ((true,i)::r) a w:=
 ⟨_,v,ho,.inl ⟨hw,hv⟩,h⟩
theorem zjw{b:Bool}(ho:ops[i]? =some ⟨dst,op,ty,pos,af,gd⟩)(hw:Region.wanted ⟨dst,op,ty,pos,af,gd⟩ (yielded ops a.tmps)=false)(h:zyn P ops R Q r (a.put dst undef) w):zyn P ops R Q ((b,i)::r) a w:=by
 cases b
 ·exact⟨_,ho,by rw[if_neg (by simp[hw])];exact h⟩
 ·exact⟨_,undef,ho,.inr ⟨hw,rfl⟩,h⟩
theorem zbb(ho:ops[i]? =some ⟨dst,op,ty,pos,af,gd⟩)(hw:Region.wanted ⟨dst,op,ty,pos,af,gd⟩ (yielded ops a.tmps)=true)(h:∀K:Act->World->Prop,(∀a' w',R w w'->zyn P ops R Q r a' w'->K a' w')->Oper.wp P ⟨dst,op,ty,pos,af,gd⟩ a w K (NoPanic Q)):zyn P ops R Q ((false,i)::r) a w:=
 ⟨_,ho,by rw[if_pos hw];exact h _ fun _ _ h1 h2=>⟨h1,h2⟩⟩
theorem qgu{src dst' e:TypeId}{x:Operand}{A:Option Addr}{n c:Nat}{l:List Nat}(hs:P.underlying src=some (.slice e))(he:P.underlying e=some (.int .u8))(hd:P.underlying dst'=some .string)
 (ho:ops[i]? =some ⟨dst,.convert src dst' x,ty,pos,af,gd⟩)(hw:Region.wanted ⟨dst,.convert src dst' x,ty,pos,af,gd⟩ (yielded ops a.tmps)=true)(hx:a.eval x= .slice A n c){w0:World}(hr:Reads w0 w0.heap.size 1 A n (za3 .u8 l))(hU:New w0 w)
 (h:zyn P ops New Q r (a.put dst (.string (zad l))) w):zyn P ops New Q ((true,i)::r) a w:=
 za1 ho hw (fun w' hb=>by have:=z3v (c:=c) hs he hd (hr.below (New.trans hU hb));simp[execOp,hx,this,Result.andThen]) h
end
end
theorem z9v(P:Program)(l m:List Nat)(h:l.length+m.length<=9223372036854775807)(w:World):(Op.stringOp .add (zad l) (zad m)).run P w= .ok (.string (zad (l++m))) w:=by rw[run_string_add_sum (P:=P) w (zad l) (zad m) (by rw[zbh,zbh];exact h),zwk]
open Go.RowKit
theorem Own.at0{w:World}{base:Nat}{e:TypeId}{g n c i:Nat}{xs:List Value}(h:Own w base e (.slice (some ⟨g,0,none⟩) n c) xs)(hi:i<n):
 ∃u,xs[i]? =some u/\base<=g/\g<w.heap.size/\w.cell? ⟨g,i,none⟩=some u/\w.frozen? ⟨g,i,none⟩=false/\
  ∀u':Value,Own (w.setCell ⟨g,i,none⟩ u') base e (.slice (some ⟨g,0,none⟩) n c) (xs.set i u'):=by
 obtain⟨g',u,he,h1,h2,h3,h4,h5,h6⟩:=h.at_ hi;injection he with he;injection he with he;subst he;exact⟨u,h3,h1,h2,h4,h5,h6⟩
theorem Own.num0{w:World}{base:Nat}{e:TypeId}{g n c i:Nat}{k:IntKind}{l:List Nat}(h:Own w base e (.slice (some ⟨g,0,none⟩) n c) (za3 k l))(hi:i<n):
 base<=g/\g<w.heap.size/\w.cell? ⟨g,i,none⟩=some (.int k ((l.getD i 0:Nat):Int))/\w.frozen? ⟨g,i,none⟩=false/\
  ∀y:Nat,Own (w.setCell ⟨g,i,none⟩ (.int k (y:Int))) base e (.slice (some ⟨g,0,none⟩) n c) (za3 k (l.set i y)):=by
 have hn:=h.len;rw[zaa] at hn;obtain⟨u,h3,h1,h2,h4,h5,h6⟩:=h.at0 hi;rw[z3s k l i (by omega)] at h3;injection h3 with h3;subst h3;exact⟨h1,h2,h4,h5,fun y=>by rw[<-z9p];exact h6 _⟩
theorem qi3(a b:Nat)(ha:a<=9223372036854775807):IntKind.i64.wrap ((a:Int)/(b:Int))=((a/b:Nat):Int):=by rw[<-Int.natCast_ediv];have:a/b<=a:=Nat.div_le_self _ _;generalize a/b=q at*;exact IntWalk.i64_in _ (by omega)
theorem zsb(a:Nat)(ha:a<=9223372036854775807):∃q r:Nat,Hid (q=a/8/\r=a%8)/\8*q<=a/\r<8/\a<8*q+8/\IntKind.i64.wrap ((a:Int)/8)=(q:Int)/\(a:Int).tmod 8=(r:Int):=
 ⟨a/8,a%8,Hz ⟨rfl,rfl⟩,by omega,by omega,by omega,qi3 a 8 ha,by rw[Int.tmod_eq_emod_of_nonneg (by omega)];omega⟩
theorem qii(y j:Nat)(hy:y<=18446744073709551615):∃t:Nat,Hid (t=y/2^j%2)/\t<=1/\bits .and .u64 ((y:Int)/2^j) 1=(t:Int)/\IntKind.u8.wrap (t:Int)=(t:Int):=by refine⟨y/2^j%2,Hz rfl,by omega,?_,by rw[IntKind.wrap_u8];omega⟩;have h1:y/2^j<=y:=Nat.div_le_self _ _;have:=u64_and_nat (y/2^j) 1 (by omega) (by omega);rw[Nat.and_one_is_mod] at this;rw[<-this];congr 1
theorem qem(b r q:Nat)(hb:b<2^r)(hc:q<=1)(hr:r<8):bits .or .u8 (b:Int) ((q:Int)*2^r%256)=((b+q*2^r:Nat):Int):=by
 have h7:2^r<=2^7:=Nat.pow_le_pow_right (by omega) (by omega);have hq:q*2^r<=1*2^r:=Nat.mul_le_mul_right _ hc;have e:((q:Int)*2^r%256)=((q*2^r:Nat):Int):=by
  have e2:((q*2^r:Nat):Int)=(q:Int)*2^r:=by simp
  rw[<-e2];omega
 rw[e,u8_or_nat _ _ (by omega) (by omega),Nat.or_comm,<-Nat.mul_comm (2^r),<-Nat.two_pow_add_eq_or_of_lt hb,Nat.add_comm]
open Go.RowKit Go.WideShapes Go.ChangeShapes
section
variable{H:Type}{enc:TypeId × Value->H}{P:Program}
theorem zkn(hl:laidOutB P=true){W W':World}{sp:Nat->Bool}(hb:Below W.heap.size W W'):
 ∀{ts:List TypeId} {vs:List Value} {ds:List (DataW H)} {ps:List MemPlace},(∀t∈ts,P.readableRec t=true/\t<P.types.size)->DataW.TrodAll enc P W 0 (fun _=>true) true ts vs ds ps->
  (∀p∈ps,p.block<W.heap.size)->(∀p∈ps,sp p.block=true)->DataW.TrodAll enc P W' 0 sp true ts vs ds ps
 | [],_,_,_,_,h,_,_=>by
   obtain⟨rfl,rfl,rfl⟩:=trodAll_nil h;rfl
 |t::ts,_,_,_,hr,h,hlt,hsp=>by
  obtain⟨v,vs,d,ds,p,q,rfl,rfl,rfl,h1,h2⟩:=trodAll_cons h;refine⟨p,q,?_,zkn hl hb (fun t ht=>hr t (by simp[ht])) h2 (fun x hx=>hlt x (by simp[hx])) (fun x hx=>hsp x (by simp[hx])),rfl⟩;exact WideElems.Trod_stays hl (hr t (by simp)).1 (hr t (by simp)).2 h1 (fun x hx=>hb.same (hlt x (by simp[hx]))) (fun x hx=>hsp x (by simp[hx]))
theorem qae{f:Func}{s:ChangeSpec}{tb:TypeId}{W W':World}{args:Array Value}{ds gs:List (DataW H)}{before:List MemPlace}
 (hl:laidOutB P=true)(hrt:f.resultTypes= #[tb])(htb:P.underlying tb=some .bool)(hr:∀t∈f.params.toList,P.readableRec t=true/\t<P.types.size)
 (hv:s.vars=[])(hs:s.fn H (ds++gs)={results:=[.lit (.bool true)],args:=ds})
 (hW:DataW.Whole enc P f.params.toList s.vars false W args.toList ds gs before)(hb:Below W.heap.size W W'):
 s.post enc P f false true false false W args (.bool true) W':=by
 have hlt:∀p∈before,p.block<W.heap.size:=fun p hp=>hW.lt p hp
 obtain⟨p,q,hA,hV,rfl,hfz,hnd⟩:=id hW;rw[hv] at hV;obtain⟨rfl,rfl⟩:=trodVars_none hV;simp only[List.append_nil] at hlt;have hargs:=zkn (sp:=fun b=>decide (b<W.heap.size)) hl hb hr hA hlt (fun x hx=>by simpa using hlt x hx);refine⟨ds,[],p++[],[],p,[],hW,?_,?_,?_,World.keptBut_mono (fun x hx=>⟨hx,?_⟩) (hb.frame (· ∈p++[])),fun h=>by cases h⟩
 ·rw[hs,hrt]
  exact trodAll_mk1 (shut_bool htb true)
 ·rw[hs];exact hargs
 ·rw[hs,hv];rfl
 ·exact .inr (.inl (by simpa using hx))
end
theorem qaf{H:Type}{P:Program}{ts:List TypeId}{ds:List (DataW H)}(h:(DataW.weightsEach P ts ds).all (· <=reachBytes)=true){j:Nat}{t:TypeId}{d:DataW H}(ht:ts[j]? =some t)(hd:ds[j]? =some d):
 ∀n∈d.weights P t,n<=reachBytes:=fun n hn=>by
 have:=List.all_eq_true.1 h n (DataW.weights_mem_each ht hd n hn);simpa using this
theorem z4j{H:Type}{enc:TypeId × Value->H}{P:Program}{W:World}{t e:TypeId}{k:IntKind}{base:Nat}{v:Value}{d:DataW H}{ps:List MemPlace}{sz:Nat}
 (ht:P.underlying t=some (.slice e))(he:P.underlying e=some (.int k))(hc:P.cellsOf e=1)(hs:k.signed=false)(hby:P.bytesOf e=sz)
 (hval:Value.okWide P W .any base t v)(h:DataW.Trod enc P W 0 (fun _=>true) true t v d ps)(hlt:∀p∈ps,p.block<W.heap.size)(hw:∀n∈d.weights P t,n<=reachBytes):
 ∃A c,∃l:List Nat,v= .slice A l.length c/\l.length<=c/\c<=maxLen/\c*sz<=reachBytes/\Reads W W.heap.size 1 A l.length (za3 k l)/\ ∀x∈l,(x:Int)<=k.max:=by
 obtain⟨a0,len,cap,rfl⟩:=okWide_slice ht hval;obtain⟨fuel,hf⟩:=h;rcases open_ints ht he hc hf with⟨hcs,hx⟩|⟨a,len',cap',zs,hcs,_,hl,hm,hz,hx,hcell,hwz⟩
 ·have:a0=none/\len=0/\cap=0:=by simpa[Value.cells] using hcs
  obtain⟨rfl,rfl,rfl⟩:=this;exact⟨none,0,[],rfl,by simp,by simp[maxLen],by simp,⟨by simp[za3],fun h=>by simp at h⟩,by simp⟩
 ·have:a0=some a/\len=len'/\cap=cap':=by simpa[Value.cells] using hcs
  obtain⟨rfl,rfl,rfl⟩:=this;simp only[Prod.mk.injEq] at hx;obtain⟨rfl,rfl⟩:=hx;rw[if_pos rfl] at hz;have hzl:(zs.take len).length=len:=by rw[List.length_take];omega
  have hll:((zs.take len).map Int.toNat).length=len:=by rw[List.length_map,hzl]
  have hnn:∀n∈zs,0<=n/\n<=k.max:=fun n hn=>by have:=hwz n hn;simpa[Lit.wf,IntKind.min,hs] using this
  have hnums:za3 k ((zs.take len).map Int.toNat)=(zs.take len).map (Value.int k):=by
   unfold za3;rw[List.map_map];refine List.map_congr_left fun n hn=>?_
   have:=(hnn n (List.mem_of_mem_take hn)).1;simp[Int.toNat_of_nonneg this]
  refine⟨some a,cap,(zs.take len).map Int.toNat,by rw[hll],by rw[hll];exact hl,hm,?_,⟨by rw[zaa,hll];simp,fun hn=>⟨a,rfl,?_,?_⟩⟩,?_⟩
  ·have h1:=hw (cap*sz) (by
    simp only[DataW.weights,ht,hby,List.mem_cons];left;congr 1
    simp[lits,hz];omega)
   exact h1
  ·rw[hll] at hn
   exact hlt (.cell a.block a.off) (by unfold MemPlace.row;simp only[List.mem_map,List.mem_range];exact⟨0,by omega,rfl⟩)
  ·intro j u hu
   rw[hnums] at hu;have hj:j<(zs.take len).length:=by
    rcases Nat.lt_or_ge j (zs.take len).length with h1|h1
    ·exact h1
    ·rw[List.getElem?_eq_none (by simpa using h1)] at hu
     cases hu
   have hjz:j<zs.length:=by rw[hzl] at hj;omega
   rw[hcell j hjz];rw[List.getElem?_map,List.getElem?_take_of_lt (by rw[hzl] at hj;exact hj),List.getElem?_eq_getElem hjz] at hu;simpa[List.getD,List.getElem?_eq_getElem hjz] using hu
  ·intro x hx
   simp only[List.mem_map] at hx;obtain⟨n,hn,rfl⟩:=hx;have:=hnn n (List.mem_of_mem_take hn);rw[Int.toNat_of_nonneg this.1];exact this.2
theorem z05{C:Checked}{os:Os}{f:FuncId}{fn:Func}{s:ChangeSpec}{tb:TypeId}{H:Type}{enc:TypeId × Value->H}
 (own:ownKnob C.prog.godebug=none)(hl:laidOutB C.prog=true)(started:os.Started)(noInit:C.prog.inits.idxOf? f=none)(hfn:C.prog.funcs[f]? =some fn)
 (hrt:fn.resultTypes= #[tb])(htb:C.prog.underlying tb=some .bool)(hr:∀t∈fn.params.toList,C.prog.readableRec t=true/\t<C.prog.types.size)
 (hv:s.vars=[])(hs:∀ds:List (DataW H),ds.length=fn.params.size->s.fn H ds={results:=[.lit (.bool true)],args:=ds})
 (witness:∃(w:World) (tape:Tape) (i:Input),w.os=os/\(w.forCall tape i).Shaped C.prog/\i.vars=[]/\Input.okWide C.prog (w.forCall tape i) .any w.heap.size f i/\
  s.pre6 enc C.prog fn [] false (w.forCall tape i).memory i.args/\({}:Assume).holds C.prog (lone (Frame.enter C.prog f i.args .normal) [] (w.forCall tape i)))
 (contract:∀(W:World) (base:Nat) (args:Array Value) (ds:List (DataW H)) (ps:List MemPlace),
  (∀(j:Nat) t v,fn.params[j]? =some t->args[j]? =some v->Value.okWide C.prog W .any base t v)->
  DataW.TrodAll enc C.prog W 0 (fun _=>true) true fn.params.toList args.toList ds ps->(∀p∈ps,p.block<W.heap.size)->W.noneFrozen ps->
  (DataW.weightsEach C.prog fn.params.toList ds).all (· <=reachBytes)=true->
  Calls C.prog f args W fun e W'=>e= .returned (.bool true)/\Below W.heap.size W W'):
 ReturnsInHanded {} C os f .any (s.pre6 enc C.prog fn [] false) (s.post enc C.prog fn false true false false):=by
 refine returnsInHanded_of_change_sized own started noInit hfn witness ?_;intro W base args ds gs before hval hW _ hsz _;have hlt:∀p∈before,p.block<W.heap.size:=fun p hp=>hW.lt p hp
 obtain⟨p,q,hA,hV,rfl,hfz,_⟩:=id hW;rw[hv] at hV;obtain⟨rfl,rfl⟩:=trodVars_none hV;have hvt:s.plain.varTypes C.prog=[]:=by simp[ChangeSpec.plain,DataSpec.varTypes,hv]
 rw[hvt,List.append_nil,List.append_nil] at hsz;simp only[List.append_nil] at hlt hfz;refine(contract W base args ds p hval hA hlt hfz hsz).mono fun e W' ⟨he,hb⟩=>⟨_,he,?_⟩
 have hdl:∀{ts:List TypeId} {vs:List Value} {ds:List (DataW H)} {ps:List MemPlace},DataW.TrodAll enc C.prog W 0 (fun _=>true) true ts vs ds ps->ds.length=ts.length:=by
  intro ts;induction ts with
  |nil=>intro vs ds ps h;obtain⟨_,rfl,_⟩:=trodAll_nil h;rfl
  |cons t ts ih=>intro vs ds ps h;obtain⟨v,vs',d,ds',p',q',_,rfl,_,_,h2⟩:=trodAll_cons h;simp[ih h2]
 exact qae hl hrt htb hr hv (by rw[List.append_nil];exact hs ds (by simpa using hdl hA)) hW hb
def st(l:List Nat):Nat:=(l.takeWhile fun y=>y==l.getD 0 0).length
theorem qha(p:Nat->Bool):∀(l:List Nat) (n:Nat),n<=l.length->(∀i,i<n->p (l.getD i 0)=true)->(n=l.length\/p (l.getD n 0)=false)->(l.takeWhile p).length=n
 | [],n,h1,_,_=>by simp at h1;simp[h1]
 |x::r,0,_,_,h3=>by
  rcases h3 with h3|h3
  ·simp at h3
  ·have:p x=false:=by simpa using h3
   simp[this]
 |x::r,n+1,h1,h2,h3=>by
  have hx:p x=true:=by simpa using h2 0 (by omega)
  rw[List.takeWhile_cons,if_pos hx,List.length_cons,qha p r n (by simpa using h1) (fun i hi=>by simpa using h2 (i+1) (by omega)) (by simpa using h3)]
theorem qaw{l:List Nat}{n:Nat}(h1:n<=l.length)(h2:∀i,i<n->l.getD i 0=l.getD 0 0)(h3:n=l.length\/l.getD n 0≠l.getD 0 0):st l=n:=
 qha _ l n h1 (fun i hi=>by simpa using h2 i hi) (h3.imp id fun h=>by simpa using h)
theorem z47(p:Nat->Bool):∀l:List Nat,(l.takeWhile p).length<=l.length/\(∀i,i<(l.takeWhile p).length->p (l.getD i 0)=true)/\((l.takeWhile p).length=l.length\/p (l.getD (l.takeWhile p).length 0)=false)
 | []=>by simp
 |x::r=>by
  obtain⟨a,b,c⟩:=z47 p r;by_cases hx:p x=true
  ·rw[List.takeWhile_cons,if_pos hx,List.length_cons]
   refine⟨by simpa using a,fun i hi=>?_,by simpa using c⟩;cases i with
   |zero=>simpa using hx
   |succ i=>simpa using b i (by omega)
  ·rw[List.takeWhile_cons,if_neg hx]
   refine⟨by simp,by simp,.inr (by simpa using hx)⟩
theorem ze8(l:List Nat):st l<=l.length/\(∀i,i<st l->l.getD i 0=l.getD 0 0)/\(st l=l.length\/l.getD (st l) 0≠l.getD 0 0):=by obtain⟨a,b,c⟩:=z47 (fun y=>y==l.getD 0 0) l;exact⟨a,fun i hi=>by simpa using b i hi,c.imp id fun h=>by unfold st;simpa using h⟩
theorem zmh{l:List Nat}(h:0<l.length):1<=st l:=by
 obtain⟨a,b,c⟩:=ze8 l;rcases Nat.eq_zero_or_pos (st l) with h0|h0
 ·rw[h0] at c
  rcases c with c|c
  ·omega
  ·exact absurd rfl c
 ·exact h0
theorem zi4{l m:List Nat}{i:Nat}(h:i<l.length):(l++m).getD i 0=l.getD i 0:=by simp[List.getD_eq_getElem?_getD,List.getElem?_append_left h]
theorem zqu{l:List Nat}{i k:Nat}(h:i<k):(l.take k).getD i 0=l.getD i 0:=by simp[List.getD_eq_getElem?_getD,h]
theorem qhb{l m:List Nat}(h:st (l++m)<=l.length)(h0:0<l.length):st l=st (l++m):=by
 obtain⟨a,b,c⟩:=ze8 (l++m);refine qaw h (fun i hi=>?_) ?_
 ·have:=b i hi
  rwa[zi4 (by omega),zi4 h0] at this
 ·by_cases e:st (l++m)=l.length
  ·exact .inl e
  ·rcases c with c|c
   ·rw[c,List.length_append] at h e
    omega
   ·rw[zi4 (by omega),zi4 h0] at c
    exact .inr c
theorem z48{l m:List Nat}:st l<=st (l++m):=by
 rcases Nat.eq_zero_or_pos l.length with h0|h0
 ·have:=(ze8 l).1
  omega
 by_cases h:st (l++m)<=l.length
 ·exact Nat.le_of_eq (qhb h h0)
 ·have:=(ze8 l).1
  omega
theorem qfj(l:List Nat):st (l.take (st l))=st l:=by
 obtain⟨a,b,c⟩:=ze8 l;have hl:(l.take (st l)).length=st l:=by rw[List.length_take];omega
 rcases Nat.eq_zero_or_pos (st l) with h0|h0
 ·have:=(ze8 (l.take (st l))).1
  omega
 ·refine qaw (by omega) (fun i hi=>?_) (.inl hl.symm)
  rw[zqu hi,zqu h0];exact b i hi
theorem qfk{p:List Nat}(h:st p=p.length):p=List.replicate p.length (p.getD 0 0):=by
 obtain⟨a,b,c⟩:=ze8 p;refine List.ext_getElem (by simp) fun i h1 h2=>?_
 have:=b i (by omega);rw[List.getD_eq_getElem?_getD,List.getElem?_eq_getElem h1] at this;simpa using this
def zy8(rest l:List Nat):List (List Nat):=
 if _h:l.length=0 then(if rest.length=0 then [] else [rest])
 else if 4<=st l then(if rest.length=0 then [] else [rest])++(l.take (st l)::zy8 [] (l.drop (st l)))
 else zy8 (rest++l.take (st l)) (l.drop (st l))
termination_by l.length
decreasing_by
 ·have:=zmh (l:=l) (by omega)
  rw[List.length_drop];omega
 ·have:=zmh (l:=l) (by omega)
  rw[List.length_drop];omega
def pcs(l:List Nat):List (List Nat):=zy8 [] l
def zue(rest:List Nat):List (List Nat):=if rest.length=0 then [] else [rest]
theorem zsj(rest:List Nat):zy8 rest []=zue rest:=by rw[zy8];rfl
theorem zsk{rest l:List Nat}(h0:0<l.length)(h:4<=st l):zy8 rest l=zue rest++(l.take (st l)::zy8 [] (l.drop (st l))):=by rw[zy8,dif_neg (by omega),if_pos h];rfl
theorem zoh{rest l:List Nat}(h0:0<l.length)(h: ¬4<=st l):zy8 rest l=zy8 (rest++l.take (st l)) (l.drop (st l)):=by rw[zy8,dif_neg (by omega),if_neg h]
theorem z49{C:List Nat->List Nat->Prop}(h0:∀rest,C rest [])
 (h1:∀rest l,0<l.length->4<=st l->C [] (l.drop (st l))->C rest l)
 (h2:∀rest l,0<l.length-> ¬4<=st l->C (rest++l.take (st l)) (l.drop (st l))->C rest l):∀rest l,C rest l:=by
 intro rest l;induction hn:l.length using Nat.strongRecOn generalizing rest l with
 |_ n ih=>
  rcases Nat.eq_zero_or_pos l.length with hz|hz
  ·obtain rfl:=List.eq_nil_of_length_eq_zero hz
   exact h0 rest
  ·have hp:=zmh hz
   have hd:(l.drop (st l)).length<n:=by rw[List.length_drop];omega
   by_cases h:4<=st l
   ·exact h1 rest l hz h (ih _ hd _ _ rfl)
   ·exact h2 rest l hz h (ih _ hd _ _ rfl)
theorem zqv(rest:List Nat):(zue rest).flatten=rest:=by
 unfold zue;split
 ·rename_i h
  exact(List.eq_nil_of_length_eq_zero h).symm
 ·simp
theorem z5a:∀rest l,(zy8 rest l).flatten=rest++l:=by
 refine z49 ?_ ?_ ?_
 ·intro rest
  rw[zsj,zqv,List.append_nil]
 ·intro rest l h0 h ih
  rw[zsk h0 h,List.flatten_append,zqv,List.flatten_cons,ih,List.nil_append,List.take_append_drop]
 ·intro rest l h0 h ih
  rw[zoh h0 h,ih,List.append_assoc,List.take_append_drop]
def zoi(p:List Nat):Prop:=0<p.length/\(4<=st p->st p=p.length)
theorem qfl:∀rest l,(rest=[]\/st (rest++l)<4)-> ∀p∈zy8 rest l,zoi p:=by
 have hr:∀rest l:List Nat,(rest=[]\/st (rest++l)<4)-> ∀p∈zue rest,zoi p:=by
  intro rest l hc p hp;unfold zue at hp;split at hp
  ·cases hp
  ·rename_i hl
   obtain rfl:=List.mem_singleton.1 hp;refine⟨by omega,fun h4=>?_⟩;rcases hc with rfl|hc
   ·simp at hl
   ·have:=z48 (l:=p) (m:=l)
    omega
 refine z49 ?_ ?_ ?_
 ·intro rest hc p hp
  rw[zsj] at hp;exact hr rest [] hc p hp
 ·intro rest l h0 h ih hc p hp
  rw[zsk h0 h] at hp;rcases List.mem_append.1 hp with hp|hp
  ·exact hr rest l hc p hp
  ·rcases List.mem_cons.1 hp with rfl|hp
   ·have hl:(l.take (st l)).length=st l:=by have:=(ze8 l).1;rw[List.length_take];omega
    exact⟨by omega,fun _=>by rw[qfj,hl]⟩
   ·exact ih (.inl rfl) p hp
 ·intro rest l h0 h ih hc p hp
  rw[zoh h0 h] at hp;refine ih (.inr ?_) p hp;rw[List.append_assoc,List.take_append_drop];rcases hc with rfl|hc
  ·simpa using h
  ·exact hc
theorem z5b(l:List Nat):∀p∈pcs l,zoi p:=qfl [] l (.inl rfl)
theorem zks(l:List Nat):(pcs l).flatten=l:=z5a [] l
end Go.Hm
