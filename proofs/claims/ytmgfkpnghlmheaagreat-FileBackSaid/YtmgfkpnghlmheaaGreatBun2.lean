/- Texts merged and made short: Spec, Up, More, Law, Held. -/
import Derived.Carry
import Derived.Deep.Fields
import Derived.Deep.RegionHeld3
import Derived.Deep.Slices
import Derived.IntWalk
import Derived.OpenShut
import Derived.SizedLaws
import Derived.Test.YtmgfkpnghlmheaaGreatBun1
set_option maxHeartbeats 200000
namespace Go.Hm
def vp(n:Nat):List Nat:=if _h:n<128 then [n] else(n%128+128)::vp (n/128)
theorem ze0{n:Nat}(h:n<128):vp n=[n]:=by rw[vp,dif_pos h]
theorem zfn{n:Nat}(h: ¬n<128):vp n=(n%128+128)::vp (n/128):=by rw[vp,dif_neg h]
theorem qgs(k:Nat):∀n,n<128^(k+1)→(vp n).length≤k+1:=by
 induction k with
 |zero=>intro n h;rw[ze0 (by omega)];simp
 |succ k ih=>
  intro n h;by_cases hn:n<128
  ·rw[ze0 hn];simp
  ·rw[zfn hn]
   have:=ih (n/128) (Nat.div_lt_of_lt_mul (by rw[Nat.pow_succ] at h;omega));simp;omega
theorem zaj{n:Nat}(h:n<18446744073709551616):(vp n).length≤10:=qgs 9 n (by omega)
theorem zl4(n:Nat):0<(vp n).length:=by
 by_cases hn:n<128
 ·rw[ze0 hn];simp
 ·rw[zfn hn];simp
def low(n:Nat):Nat→List Nat
 |0=>[]
 |k+1=>low n k++[n/256^k%256]
theorem zbh(n k:Nat):(low n k).length=k:=by induction k<;> simp_all[low]
def num:List Nat→Nat
 | []=>0
 |b::l=>b+256*num l
theorem zyk(l:List Nat)(b:Nat):num (l++[b])=num l+b*256^l.length:=by
 induction l with
 |nil=>simp[num]
 |cons a l ih=>simp only[List.cons_append,num,ih,List.length_cons,Nat.pow_succ];rw[Nat.mul_add,Nat.add_assoc];congr 2;rw[Nat.mul_left_comm,Nat.mul_comm 256]
theorem zqb(l:List Nat)(h:∀x∈l,x<256):num l<256^l.length:=by
 induction l with
 |nil=>simp[num]
 |cons a l ih=>
  have h1:=ih fun x hx=>h x (by simp[hx])
  have h2:=h a (by simp);simp only[num,List.length_cons,Nat.pow_succ];omega
theorem zad{α:Type}(l:List α)(k:Nat)(d:α)(h:k<l.length):l.take (k+1)=l.take k++[l.getD k d]:=by
 rw[List.take_add_one,List.getElem?_eq_getElem h];simp[h]
theorem z3r(n k:Nat):num (low n k)=n%256^k:=by
 induction k with
 |zero=>simp[low,num,Nat.mod_one]
 |succ k ih=>
  rw[low,zyk,ih,zbh,Nat.pow_succ,Nat.mod_mul,Nat.mul_comm (256^k)]
theorem zl5(n k:Nat):∀x∈low n k,x<256:=by
 induction k with
 |zero=>intro x hx;simp[low] at hx
 |succ k ih=>
  intro x hx;simp only[low,List.mem_append,List.mem_singleton] at hx;rcases hx with hx|hx
  ·exact ih x hx
  ·subst hx;exact Nat.mod_lt _ (by omega)
theorem zd0{α:Type}(l:List α)(k:Nat)(d:α)(h:k<l.length):l.drop k=l.getD k d::l.drop (k+1):=by
 rw[List.drop_eq_getElem_cons h];simp[h]
theorem zj7{n k:Nat}(h:n<256^k):num (low n k)=n:=by rw[z3r,Nat.mod_eq_of_lt h]
end Go.Hm
namespace Go.Hm
open Go.RowKit
section
variable{P:Program}{ops:Array Oper}{Q:Exit→Act→World→Prop}
theorem zhl{S S':World→Prop}(h:∀w,S w→S' w):∀(fuel:Nat) (listed:Array Bool) (a:Act) (w:World),wpAnyH P .any ops Q S fuel listed a w→wpAnyH P .any ops Q S' fuel listed a w
 |0,_,_,_,hh=>hh
 |fuel+1,_,_,_,hh=>⟨hh.1,fun i hi=>wpOp_mono (fun a' w' h'=>⟨h w' h'.1,zhl h fuel _ a' w' h'.2⟩) (hh.2 i hi)⟩
def qeh(ops:Array Oper):Array Bool→List (Bool × Nat)→Bool
 |listed,[]=>(Region.ready .any ops listed).isEmpty
 |listed,(true,i)::r=>(Region.ready .any ops listed).contains i&&(Region.free .any ops listed i&&qeh ops (listed.setIfInBounds i true) r)
 |listed,(false,i)::r=>decide (Region.ready .any ops listed=[i])&&qeh ops (listed.setIfInBounds i true) r
def zyl(P:Program)(ops:Array Oper)(R:World→World→Prop)(Q:Exit→Act→World→Prop):List (Bool × Nat)→Act→World→Prop
 | [],a,w=>Q .normal a w
 |(true,i)::r,a,w=>∃o v,ops[i]? =some o∧((Region.wanted o (yielded ops a.tmps)=true∧∀w',R w w'→(execOp a.eval o).run P w'= .ok (.value v) w')∨(Region.wanted o (yielded ops a.tmps)=false∧v=undef))∧zyl P ops R Q r (a.put o.dst v) w
 |(false,i)::r,a,w=>∃o,ops[i]? =some o∧if Region.wanted o (yielded ops a.tmps) then o.wp P a w (fun a' w'=>R w w'∧zyl P ops R Q r a' w') (NoPanic Q) else zyl P ops R Q r (a.put o.dst undef) w
variable{R:World→World→Prop}
theorem ztu(hrefl:∀w,R w w)(htrans:∀{x y z},R x y→R y z→R x z)(hs:Region.noSelect ops=true):
 ∀(ord:List (Bool × Nat)) (fuel:Nat) (listed:Array Bool) (a:Act) (w:World),ord.length≤fuel→qeh ops listed ord=true→zyl P ops R Q ord a w→wpAnyH P .any ops (NoPanic Q) (R w) fuel listed a w:=by
 intro ord
 induction ord with
 |nil=>
  intro fuel listed a w _ hok h;exact wpAnyH_done (by simpa[qeh] using hok) (NoPanic.normal h) fuel
 |cons x r ih=>
  obtain⟨b,i⟩:=x;intro fuel listed a w hl hok h;obtain⟨fuel,rfl⟩:∃k,fuel=k+1:=⟨fuel-1,by simp at hl;omega⟩
  have hl':r.length≤fuel:=by simp at hl;omega
  cases b with
  |true=>
   obtain⟨o,v,ho,hv,hr⟩:=h;simp only[qeh,Bool.and_eq_true] at hok;obtain⟨h1,h2,h3⟩:=hok;exact wpAnyH_take ho hs h2 h1 (fun _ _ _ hp=>hp) hv (hrefl w) (ih fuel _ _ w hl' h3 hr)
  |false=>
   obtain⟨o,ho,hc⟩:=h;simp only[qeh,Bool.and_eq_true,decide_eq_true_eq] at hok;obtain⟨h1,h3⟩:=hok;refine wpAnyH_all h1 (by simp) ?_;intro j hj
   obtain rfl:j=i:=by simpa using hj
   unfold wpOp;simp only[ho];split
   ·rename_i hw
    rw[if_pos hw] at hc;exact .inl (Oper.wp_mono (fun a' w' hh=>⟨hh.1,zhl (fun z hz=>htrans hh.1 hz) fuel _ a' w' (ih fuel _ a' w' hl' h3 hh.2)⟩) hc)
   ·rename_i hw
    rw[if_neg hw] at hc;exact⟨hrefl w,ih fuel _ _ w hl' h3 hc⟩
theorem zat{id:Nat}{a:Act}{w:World}(R:World→World→Prop)(ord:List (Bool × Nat))(hrefl:∀w,R w w)(htrans:∀{x y z},R x y→R y z→R x z)(hm:P.follows .mixedOrders=true)
 (hs:Region.noSelect ops=true)(hl:decide (ord.length≤ops.size)=true)(hok:qeh ops (Array.replicate ops.size false) ord=true)(h:zyl P ops R Q ord a w.drew):(Code.region id ops true).wp P Q a w:=
 wp_region_noPanic (wp_region_held hm (ztu hrefl htrans hs ord ops.size _ a _ (by simpa using hl) hok h))
abbrev New(w w':World):Prop:=Below w.heap.size w w'
theorem New.refl(w:World):New w w:=Below.refl _ _
theorem New.trans{x y z:World}(h:New x y)(k:New y z):New x z:=Below.trans h (Below.mono k h.size)
theorem New.drew(w:World):New w w.drew:=(Below.refl _ _).drew
abbrev Far(g:Nat)(w w':World):Prop:=w.grownBy w' (some g)
theorem Far.refl(g:Nat)(w:World):Far g w w:=World.grownBy.refl w _
theorem Far.trans{g:Nat}{x y z:World}(h:Far g x y)(k:Far g y z):Far g x z:=World.grownBy.trans h k
theorem Far.drew(g:Nat)(w:World):Far g w w.drew:=⟨rfl,rfl,rfl,Nat.le_refl _,fun _ _ _=>rfl⟩
theorem Far.of_new{g:Nat}{w w':World}(h:New w w'):Far g w w':=⟨h.os,h.tape,h.output,h.size,fun k hk _=>h.block k hk⟩
theorem Far.below{g B:Nat}{a w w':World}(h:Below B a w)(hg:Far g w w')(hB:B≤g)(hBw:B≤a.heap.size):Below B a w':=zaw h hg hB hBw
theorem New.far{w w0 w1:World}{g:Nat}(h:New w w0)(k:Far g w0 w1)(hg:w.heap.size≤g):New w w1:=Far.below h k hg (Nat.le_refl _)
variable{i:Nat}{r:List (Bool × Nat)}{a:Act}{w:World}{o:Oper}{v:Value}
theorem zc2(h:Q .normal a w):zyl P ops R Q [] a w:=h
section
variable{dst:Option Tmp}{op:Op}{ty:TypeId}{pos:String}{af:Array Edge}{gd:Option (Nat × Bool)}
theorem za2(ho:ops[i]? =some ⟨dst,op,ty,pos,af,gd⟩)(hw:Region.wanted ⟨dst,op,ty,pos,af,gd⟩ (yielded ops a.tmps)=true)(hv:∀w',R w w'→(execOp a.eval ⟨dst,op,ty,pos,af,gd⟩).run P w'= .ok (.value v) w')(h:zyl P ops R Q r (a.put dst v) w):zyl P ops R Q ((true,i)::r) a w:=
 ⟨_,v,ho,.inl ⟨hw,hv⟩,h⟩
theorem zjo{b:Bool}(ho:ops[i]? =some ⟨dst,op,ty,pos,af,gd⟩)(hw:Region.wanted ⟨dst,op,ty,pos,af,gd⟩ (yielded ops a.tmps)=false)(h:zyl P ops R Q r (a.put dst undef) w):zyl P ops R Q ((b,i)::r) a w:=by
 cases b
 ·exact⟨_,ho,by rw[if_neg (by simp[hw])];exact h⟩
 ·exact⟨_,undef,ho,.inr ⟨hw,rfl⟩,h⟩
theorem zba(ho:ops[i]? =some ⟨dst,op,ty,pos,af,gd⟩)(hw:Region.wanted ⟨dst,op,ty,pos,af,gd⟩ (yielded ops a.tmps)=true)(h:∀K:Act→World→Prop,(∀a' w',R w w'→zyl P ops R Q r a' w'→K a' w')→Oper.wp P ⟨dst,op,ty,pos,af,gd⟩ a w K (NoPanic Q)):zyl P ops R Q ((false,i)::r) a w:=
 ⟨_,ho,by rw[if_pos hw];exact h _ fun _ _ h1 h2=>⟨h1,h2⟩⟩
theorem qgt{src dst' e:TypeId}{x:Operand}{A:Option Addr}{n c:Nat}{l:List Nat}(hs:P.underlying src=some (.slice e))(he:P.underlying e=some (.int .u8))(hd:P.underlying dst'=some .string)
 (ho:ops[i]? =some ⟨dst,.convert src dst' x,ty,pos,af,gd⟩)(hw:Region.wanted ⟨dst,.convert src dst' x,ty,pos,af,gd⟩ (yielded ops a.tmps)=true)(hx:a.eval x= .slice A n c){w0:World}(hr:Reads w0 w0.heap.size 1 A n (za3 .u8 l))(hU:New w0 w)
 (h:zyl P ops New Q r (a.put dst (.string (zae l))) w):zyl P ops New Q ((true,i)::r) a w:=
 za2 ho hw (fun w' hb=>by
  have:=z3q (c:=c) hs he hd (hr.below (New.trans hU hb))
  simp[execOp,hx,this,Result.andThen]) h
end
end
theorem z9r(P:Program)(l m:List Nat)(h:l.length+m.length≤9223372036854775807)(w:World):(Op.stringOp .add (zae l) (zae m)).run P w= .ok (.string (zae (l++m))) w:=by
 rw[run_string_add_sum (P:=P) w (zae l) (zae m) (by rw[zbf,zbf];exact h),zwg]
end Go.Hm
namespace Go.Hm
open Go.RowKit
theorem Own.at0{w:World}{base:Nat}{e:TypeId}{g n c i:Nat}{xs:List Value}(h:Own w base e (.slice (some ⟨g,0,none⟩) n c) xs)(hi:i<n):
 ∃u,xs[i]? =some u∧base≤g∧g<w.heap.size∧w.cell? ⟨g,i,none⟩=some u∧w.frozen? ⟨g,i,none⟩=false∧
  ∀u':Value,Own (w.setCell ⟨g,i,none⟩ u') base e (.slice (some ⟨g,0,none⟩) n c) (xs.set i u'):=by
 obtain⟨g',u,he,h1,h2,h3,h4,h5,h6⟩:=h.at_ hi;injection he with he;injection he with he;subst he;exact⟨u,h3,h1,h2,h4,h5,h6⟩
theorem Own.num0{w:World}{base:Nat}{e:TypeId}{g n c i:Nat}{k:IntKind}{l:List Nat}(h:Own w base e (.slice (some ⟨g,0,none⟩) n c) (za3 k l))(hi:i<n):
 base≤g∧g<w.heap.size∧w.cell? ⟨g,i,none⟩=some (.int k ((l.getD i 0:Nat):Int))∧w.frozen? ⟨g,i,none⟩=false∧
  ∀y:Nat,Own (w.setCell ⟨g,i,none⟩ (.int k (y:Int))) base e (.slice (some ⟨g,0,none⟩) n c) (za3 k (l.set i y)):=by
 have hn:=h.len;rw[zaa] at hn;obtain⟨u,h3,h1,h2,h4,h5,h6⟩:=h.at0 hi;rw[z3n k l i (by omega)] at h3;injection h3 with h3;subst h3;exact⟨h1,h2,h4,h5,fun y=>by rw[←z9l];exact h6 _⟩
theorem qi3(a b:Nat)(ha:a≤9223372036854775807):IntKind.i64.wrap ((a:Int)/(b:Int))=((a/b:Nat):Int):=by
 rw[←Int.natCast_ediv];have:a/b≤a:=Nat.div_le_self _ _;generalize a/b=q at*;exact IntWalk.i64_in _ (by omega)
theorem zrz(a:Nat)(ha:a≤9223372036854775807):∃q r:Nat,Hid (q=a/8∧r=a%8)∧8*q≤a∧r<8∧a<8*q+8∧IntKind.i64.wrap ((a:Int)/8)=(q:Int)∧(a:Int).tmod 8=(r:Int):=
 ⟨a/8,a%8,Hz ⟨rfl,rfl⟩,by omega,by omega,by omega,qi3 a 8 ha,by rw[Int.tmod_eq_emod_of_nonneg (by omega)];omega⟩
theorem qih(y j:Nat)(hy:y≤18446744073709551615):∃t:Nat,Hid (t=y/2^j%2)∧t≤1∧bits .and .u64 ((y:Int)/2^j) 1=(t:Int)∧IntKind.u8.wrap (t:Int)=(t:Int):=by
 refine⟨y/2^j%2,Hz rfl,by omega,?_,by rw[IntKind.wrap_u8];omega⟩;have h1:y/2^j≤y:=Nat.div_le_self _ _;have:=u64_and_nat (y/2^j) 1 (by omega) (by omega);rw[Nat.and_one_is_mod] at this;rw[←this]
 congr 1
theorem qei(b r q:Nat)(hb:b<2^r)(hc:q≤1)(hr:r<8):bits .or .u8 (b:Int) ((q:Int)*2^r%256)=((b+q*2^r:Nat):Int):=by
 have h7:2^r≤2^7:=Nat.pow_le_pow_right (by omega) (by omega);have hq:q*2^r≤1*2^r:=Nat.mul_le_mul_right _ hc
 have e:((q:Int)*2^r%256)=((q*2^r:Nat):Int):=by
  have e2:((q*2^r:Nat):Int)=(q:Int)*2^r:=by simp
  rw[←e2];omega
 rw[e,u8_or_nat _ _ (by omega) (by omega),Nat.or_comm,←Nat.mul_comm (2^r),←Nat.two_pow_add_eq_or_of_lt hb,Nat.add_comm]
end Go.Hm
namespace Go.Hm
open Go.RowKit Go.WideShapes Go.ChangeShapes
section
variable{H:Type}{enc:TypeId × Value→H}{P:Program}
theorem zkf(hl:laidOutB P=true){W W':World}{sp:Nat→Bool}(hb:Below W.heap.size W W'):
 ∀{ts:List TypeId} {vs:List Value} {ds:List (DataW H)} {ps:List MemPlace},(∀t∈ts,P.readableRec t=true∧t<P.types.size)→DataW.TrodAll enc P W 0 (fun _=>true) true ts vs ds ps→
  (∀p∈ps,p.block<W.heap.size)→(∀p∈ps,sp p.block=true)→DataW.TrodAll enc P W' 0 sp true ts vs ds ps
 | [],_,_,_,_,h,_,_=>by
   obtain⟨rfl,rfl,rfl⟩:=trodAll_nil h;rfl
 |t::ts,_,_,_,hr,h,hlt,hsp=>by
  obtain⟨v,vs,d,ds,p,q,rfl,rfl,rfl,h1,h2⟩:=trodAll_cons h;refine⟨p,q,?_,zkf hl hb (fun t ht=>hr t (by simp[ht])) h2 (fun x hx=>hlt x (by simp[hx])) (fun x hx=>hsp x (by simp[hx])),rfl⟩;exact WideElems.Trod_stays hl (hr t (by simp)).1 (hr t (by simp)).2 h1 (fun x hx=>hb.same (hlt x (by simp[hx]))) (fun x hx=>hsp x (by simp[hx]))
theorem qaa{f:Func}{s:ChangeSpec}{tb:TypeId}{W W':World}{args:Array Value}{ds gs:List (DataW H)}{before:List MemPlace}
 (hl:laidOutB P=true)(hrt:f.resultTypes= #[tb])(htb:P.underlying tb=some .bool)(hr:∀t∈f.params.toList,P.readableRec t=true∧t<P.types.size)
 (hv:s.vars=[])(hs:s.fn H (ds++gs)={results:=[.lit (.bool true)],args:=ds})
 (hW:DataW.Whole enc P f.params.toList s.vars false W args.toList ds gs before)(hb:Below W.heap.size W W'):
 s.post enc P f false true false false W args (.bool true) W':=by
 have hlt:∀p∈before,p.block<W.heap.size:=fun p hp=>hW.lt p hp
 obtain⟨p,q,hA,hV,rfl,hfz,hnd⟩:=id hW;rw[hv] at hV;obtain⟨rfl,rfl⟩:=trodVars_none hV;simp only[List.append_nil] at hlt;have hargs:=zkf (sp:=fun b=>decide (b<W.heap.size)) hl hb hr hA hlt (fun x hx=>by simpa using hlt x hx);refine⟨ds,[],p++[],[],p,[],hW,?_,?_,?_,World.keptBut_mono (fun x hx=>⟨hx,?_⟩) (hb.frame (· ∈p++[])),fun h=>by cases h⟩
 ·rw[hs,hrt]
  exact trodAll_mk1 (shut_bool htb true)
 ·rw[hs];exact hargs
 ·rw[hs,hv];rfl
 ·exact .inr (.inl (by simpa using hx))
end
theorem zyz{H:Type}{P:Program}{ts:List TypeId}{ds:List (DataW H)}(h:(DataW.weightsEach P ts ds).all (· ≤reachBytes)=true){j:Nat}{t:TypeId}{d:DataW H}(ht:ts[j]? =some t)(hd:ds[j]? =some d):
 ∀n∈d.weights P t,n≤reachBytes:=fun n hn=>by
 have:=List.all_eq_true.1 h n (DataW.weights_mem_each ht hd n hn);simpa using this
theorem z03{C:Checked}{os:Os}{f:FuncId}{fn:Func}{s:ChangeSpec}{tb:TypeId}{H:Type}{enc:TypeId × Value→H}
 (own:ownKnob C.prog.godebug=none)(hl:laidOutB C.prog=true)(started:os.Started)(noInit:C.prog.inits.idxOf? f=none)(hfn:C.prog.funcs[f]? =some fn)
 (hrt:fn.resultTypes= #[tb])(htb:C.prog.underlying tb=some .bool)(hr:∀t∈fn.params.toList,C.prog.readableRec t=true∧t<C.prog.types.size)
 (hv:s.vars=[])(hs:∀ds:List (DataW H),ds.length=fn.params.size→s.fn H ds={results:=[.lit (.bool true)],args:=ds})
 (witness:∃(w:World) (tape:Tape) (i:Input),w.os=os∧(w.forCall tape i).Shaped C.prog∧i.vars=[]∧Input.okWide C.prog (w.forCall tape i) .any w.heap.size f i∧
  s.pre6 enc C.prog fn [] false (w.forCall tape i).memory i.args∧({}:Assume).holds C.prog (lone (Frame.enter C.prog f i.args .normal) [] (w.forCall tape i)))
 (contract:∀(W:World) (base:Nat) (args:Array Value) (ds:List (DataW H)) (ps:List MemPlace),
  (∀(j:Nat) t v,fn.params[j]? =some t→args[j]? =some v→Value.okWide C.prog W .any base t v)→
  DataW.TrodAll enc C.prog W 0 (fun _=>true) true fn.params.toList args.toList ds ps→(∀p∈ps,p.block<W.heap.size)→W.noneFrozen ps→
  (DataW.weightsEach C.prog fn.params.toList ds).all (· ≤reachBytes)=true→
  Calls C.prog f args W fun e W'=>e= .returned (.bool true)∧Below W.heap.size W W'):
 ReturnsInHanded {} C os f .any (s.pre6 enc C.prog fn [] false) (s.post enc C.prog fn false true false false):=by
 refine returnsInHanded_of_change_sized own started noInit hfn witness ?_;intro W base args ds gs before hval hW _ hsz _
 have hlt:∀p∈before,p.block<W.heap.size:=fun p hp=>hW.lt p hp
 obtain⟨p,q,hA,hV,rfl,hfz,_⟩:=id hW;rw[hv] at hV;obtain⟨rfl,rfl⟩:=trodVars_none hV
 have hvt:s.plain.varTypes C.prog=[]:=by simp[ChangeSpec.plain,DataSpec.varTypes,hv]
 rw[hvt,List.append_nil,List.append_nil] at hsz;simp only[List.append_nil] at hlt hfz
 refine(contract W base args ds p hval hA hlt hfz hsz).mono fun e W' ⟨he,hb⟩=>⟨_,he,?_⟩
 have hdl:∀{ts:List TypeId} {vs:List Value} {ds:List (DataW H)} {ps:List MemPlace},DataW.TrodAll enc C.prog W 0 (fun _=>true) true ts vs ds ps→ds.length=ts.length:=by
  intro ts
  induction ts with
  |nil=>intro vs ds ps h;obtain⟨_,rfl,_⟩:=trodAll_nil h;rfl
  |cons t ts ih=>intro vs ds ps h;obtain⟨v,vs',d,ds',p',q',_,rfl,_,_,h2⟩:=trodAll_cons h;simp[ih h2]
 exact qaa hl hrt htb hr hv (by rw[List.append_nil];exact hs ds (by simpa using hdl hA)) hW hb
end Go.Hm
namespace Go.Hm
open Go Go.RowKit Go.WideShapes Go.ChangeShapes Go.Deep
section
variable{H:Type}{enc:TypeId × Value→H}{P:Program}{W:World}{t e:TypeId}{cs:List Value}
def Held(enc:TypeId × Value→H)(P:Program)(W:World)(t:TypeId)(cs:List Value):Prop:=
 ∃(fuel:Nat) (d:DataW H) (ps:List MemPlace),DataW.trod enc P W 0 (fun _=>true) true fuel t cs=some (d,ps)∧(∀p∈ps,p.block<W.heap.size)∧∀n∈d.weights P t,n≤reachBytes
theorem Held.of{v:Value}{d:DataW H}{ps:List MemPlace}(h:DataW.Trod enc P W 0 (fun _=>true) true t v d ps)(hlt:∀p∈ps,p.block<W.heap.size)(hw:∀n∈d.weights P t,n≤reachBytes):Held enc P W t v.cells.toList:=by
 obtain⟨fuel,h⟩:=h;exact⟨fuel,d,ps,h,hlt,hw⟩
theorem Held.int{k:IntKind}(ht:P.underlying t=some (.int k))(h:Held enc P W t cs):∃n,cs=[.int k n]∧k.min≤n∧n≤k.max:=by
 obtain⟨fuel,d,ps,h,_,_⟩:=h;obtain⟨n,rfl,_,hw⟩:=DataW.trod_int ht h;simp only[Lit.wf,Bool.and_eq_true,decide_eq_true_eq] at hw;exact⟨n,rfl,hw.1,hw.2⟩
theorem Held.i64(ht:P.underlying t=some (.int .i64))(h:Held enc P W t cs):∃n:Int,cs=[.int .i64 n]∧ -9223372036854775808≤n∧n≤9223372036854775807:=by
 obtain⟨n,h1,h2,h3⟩:=h.int ht;simp[IntKind.min,IntKind.max,IntKind.signed,IntKind.bits] at h2 h3;exact⟨n,h1,h2,by omega⟩
theorem Held.bool(ht:P.underlying t=some .bool)(h:Held enc P W t cs):∃b,cs=[.bool b]:=by
 obtain⟨fuel,d,ps,h,_,_⟩:=h;obtain⟨b,rfl,_⟩:=DataW.trod_bool ht h;exact⟨b,rfl⟩
theorem qe0(s:ByteArray):∃l:List Nat,s=zae l∧(∀x∈l,x<256)∧l.length=s.size:=by
 refine⟨s.data.toList.map UInt8.toNat,?_,?_,by simp⟩
 ·refine ByteArray.ext ?_
  show s.data=((s.data.toList.map UInt8.toNat).map UInt8.ofNat).toArray;rw[List.map_map]
  have:(UInt8.ofNat ∘ UInt8.toNat)=id:=by funext x;simp
  rw[this];simp
 ·intro x hx
  simp only[List.mem_map] at hx;obtain⟨y,_,rfl⟩:=hx;exact y.toNat_lt
theorem Held.string(ht:P.underlying t=some .string)(h:Held enc P W t cs):∃l:List Nat,cs=[.string (zae l)]∧(∀x∈l,x<256)∧l.length≤140737488351232:=by
 obtain⟨fuel,d,ps,h,_,hw⟩:=h;obtain⟨s,rfl,hx,_⟩:=DataW.trod_string ht h;simp only[Prod.mk.injEq] at hx;obtain⟨rfl,_⟩:=hx;obtain⟨l,rfl,h8,hl⟩:=qe0 s;refine⟨l,rfl,h8,?_⟩;have:=hw (zae l).data.toList.length (by simp[DataW.weights]);rw[Array.length_toList] at this;have e:(zae l).data.size=l.length:=hl.symm;rw[e] at this;unfold reachBytes at this;omega
theorem zjs{d:DataW H}:∀{ds:List (DataW H)},d∈ds→∀n∈d.weights P e,n∈DataW.weightsAll P e ds
 | [],h,_,_=>by cases h
 |x::ds,h,n,hn=>by
  rw[DataW.weightsAll,List.mem_append];rcases List.mem_cons.1 h with rfl|h
  ·exact .inl hn
  ·exact .inr (zjs h n hn)
theorem Held.field{fs:Array Field}(ht:P.underlying t=some (.struct fs))(h:Held enc P W t cs):cs.length=P.cellsOf t∧∀(i:Nat) (f:Field),fs[i]? =some f→Held enc P W f.type ((cs.drop f.offset).take (P.cellsOf f.type)):=by
 obtain⟨fuel,d,ps,h,hlt,hw⟩:=h;obtain⟨xs,n,rfl,hx,hl,hxl,hf⟩:=DataW.trod_struct ht h;simp only[Prod.mk.injEq] at hx;obtain⟨rfl,rfl⟩:=hx;refine⟨hl,fun i f hi=>?_⟩;have hil:i<fs.size:=(Array.getElem?_eq_some_iff.1 hi).1;have hxi:xs[i]? =some (xs[i]'(by omega)):=List.getElem?_eq_getElem (by omega);refine⟨n,(xs[i]'(by omega)).1,(xs[i]'(by omega)).2,(hf i f hi).trans hxi,fun p hp=>hlt p (List.mem_flatMap.2 ⟨_,List.getElem_mem _,hp⟩),fun m hm=>hw m ?_⟩;rw[DataW.weights];simp only[ht];exact DataW.weights_mem_each (j:=i) (t:=f.type) (d:=(xs[i]'(by omega)).1) (by rw[List.getElem?_map,Array.getElem?_toList,hi];rfl) (by rw[List.getElem?_map,hxi];rfl) m hm
theorem Held.slice(ht:P.underlying t=some (.slice e))(h:Held enc P W t cs):
 cs=[.slice none 0 0]∨∃(a:Addr) (len cap:Nat),cs=[.slice (some a) len cap]∧len≤cap∧cap≤maxLen∧cap*P.bytesOf e≤reachBytes∧(0<cap*P.cellsOf e→a.block<W.heap.size)∧
  ∀i,i<cap→∃cs',W.cells? 0 (a.add (i*P.cellsOf e)) (P.cellsOf e)=some cs'∧Held enc P W e cs':=by
 obtain⟨fuel,d,ps,h,hlt,hw⟩:=h;rcases open_slice ht h with⟨hcs,_⟩|⟨a,len,cap,m,n,D,Pl,hcs,_,hl,hm,hmm,hx,hi⟩
 ·exact .inl hcs
 ·rw[if_pos rfl] at hmm
  subst hmm;simp only[Prod.mk.injEq] at hx;obtain⟨rfl,rfl⟩:=hx
  have hwm:∀x∈(m*P.bytesOf e)::(DataW.weightsAll P e ((List.range len).map D)++DataW.weightsAll P e ((List.range (m-len)).map fun j=>D (len+j))),x≤reachBytes:=by
   intro x hx;refine hw x ?_;rw[DataW.weights];simp only[ht,List.length_map,List.length_range];rw[show len+(m-len)=m by omega];exact hx
  refine .inr ⟨a,len,m,hcs,hl,hm,hwm _ (by simp),fun h0=>?_,fun i him=>?_⟩
  ·exact hlt (.cell a.block a.off) (by
    rw[List.mem_append];left;unfold MemPlace.row;simp only[List.mem_map,List.mem_range]
    exact⟨0,h0,rfl⟩)
  ·obtain⟨cs',hc,ht'⟩:=hi i him
   refine⟨cs',hc,n,D i,Pl i,ht',fun p hp=>hlt p ?_,fun k hk=>hwm k ?_⟩
   ·rw[List.mem_append]
    right;exact List.mem_flatMap.2 ⟨i,by simpa using him,hp⟩
   ·rw[List.mem_cons,List.mem_append]
    right;by_cases hil:i<len
    ·exact .inl (zjs (List.mem_map.2 ⟨i,by simpa using hil,rfl⟩) k hk)
    ·exact .inr (zjs (List.mem_map.2 ⟨i-len,by simp;omega,by rw[show len+(i-len)=i by omega]⟩) k hk)
def recs{α:Type}(f:α→List Value)(l:List α):List Value:=l.flatMap f
theorem zgz{α:Type}(f:α→List Value)(x:α)(l:List α):recs f (x::l)=f x++recs f l:=rfl
theorem zav{α:Type}(f:α→List Value)(l m:List α):recs f (l++m)=recs f l++recs f m:=by simp[recs]
theorem zar{α:Type}{f:α→List Value}{sz:Nat}(hf:∀x,(f x).length=sz)(l:List α):(recs f l).length=l.length*sz:=by
 induction l with
 |nil=>simp[recs]
 |cons x l ih=>rw[zgz,List.length_append,hf,ih,List.length_cons,Nat.succ_mul,Nat.add_comm]
theorem zn1{α:Type}{f:α→List Value}{sz:Nat}(hf:∀x,(f x).length=sz)(l:List α)(d:α):∀i j,i<l.length→j<sz→(recs f l)[i*sz+j]? =(f (l.getD i d))[j]? :=by
 induction l with
 |nil=>intro i j h;simp at h
 |cons x l ih=>
  intro i j hi hj
  cases i with
  |zero=>
   rw[zgz,Nat.zero_mul,Nat.zero_add,List.getElem?_append_left (by rw[hf];exact hj)];rfl
  |succ i=>
   rw[zgz,List.getElem?_append_right (by rw[hf,Nat.succ_mul];omega),hf,show(i+1)*sz+j-sz=i*sz+j by rw[Nat.succ_mul];omega,ih i j (by simpa using hi) hj];simp
theorem z4e{α:Type}{f:α→List Value}{sz:Nat}(hf:∀x,(f x).length=sz)(l:List α)(k:Nat)(hk:k≤l.length):(recs f l).drop (k*sz)=recs f (l.drop k):=by
 conv=>lhs;rw[←List.take_append_drop k l,zav]
 rw[List.drop_left'];rw[zar hf,List.length_take,Nat.min_eq_left hk]
theorem zt4{α:Type}{f:α→List Value}{sz:Nat}(hf:∀x,(f x).length=sz)(l:List α)(k:Nat)(hk:k≤l.length):(recs f l).take (k*sz)=recs f (l.take k):=by
 conv=>lhs;rw[←List.take_append_drop k l,zav]
 rw[List.take_left'];rw[zar hf,List.length_take,Nat.min_eq_left hk]
theorem Reads.rec_{α:Type}{f:α→List Value}{sz:Nat}(hf:∀x,(f x).length=sz){w:World}{B n i:Nat}{A:Option Addr}{l:List α}(d:α)(h:Reads w B sz A n (recs f l))(hi:i<n)(h0:0<sz):
 ∃ad,A=some ad∧ad.block<B∧i<l.length∧∀j u,(f (l.getD i d))[j]? =some u→w.cell? (ad.add (i*sz+j))=some u:=by
 obtain⟨ad,e,hb,hc⟩:=h.2 (by omega);have hl:=h.1;rw[zar hf] at hl;have hll:l.length=n:=Nat.eq_of_mul_eq_mul_right h0 hl;refine⟨ad,e,hb,by omega,fun j u hu=>hc _ u ?_⟩
 have hj:j<sz:=by
  rw[←hf (l.getD i d)];exact(List.getElem?_eq_some_iff.1 hu).1
 rw[zn1 hf l d i j (by omega) hj];exact hu
theorem Reads.lenR{α:Type}{f:α→List Value}{sz:Nat}(hf:∀x,(f x).length=sz){w:World}{B n:Nat}{A:Option Addr}{l:List α}(h:Reads w B sz A n (recs f l))(h0:0<sz):n=l.length:=by
 have hl:=h.1;rw[zar hf] at hl;exact(Nat.eq_of_mul_eq_mul_right h0 hl).symm
theorem zws{α:Type}{p:Nat→α→Prop}(d:α):∀n,(∀i,i<n→∃x,p i x)→∃l:List α,l.length=n∧∀i,i<n→p i (l.getD i d):=by
 intro n
 induction n with
 |zero=>intro _;exact⟨[],rfl,fun i h=>by omega⟩
 |succ n ih=>
  intro h;obtain⟨l,hl,hp⟩:=ih (fun i hi=>h i (by omega));obtain⟨x,hx⟩:=h n (by omega);refine⟨l++[x],by simp[hl],fun i hi=>?_⟩;by_cases hin:i<n
  ·have e:(l++[x]).getD i d=l.getD i d:=by rw[List.getD_eq_getElem?_getD,List.getElem?_append_left (by omega),←List.getD_eq_getElem?_getD]
   rw[e];exact hp i hin
  ·obtain rfl:i=n:=by omega
   have e:(l++[x]).getD i d=x:=by rw[List.getD_eq_getElem?_getD,List.getElem?_append_right (by omega),hl];simp
   rw[e];exact hx
theorem Held.recs{α:Type}{f:α→List Value}{sz by_:Nat}{Q:α→Prop}(d:α)(ht:P.underlying t=some (.slice e))(hC:P.cellsOf e=sz)(hby:P.bytesOf e=by_)(hf:∀x,(f x).length=sz)(h0:0<sz)
 (hel:∀cs,Held enc P W e cs→∃x,cs=f x∧Q x)(h:Held enc P W t cs):
 ∃A c,∃l:List α,cs=[.slice A l.length c]∧l.length≤c∧c≤maxLen∧c*by_≤reachBytes∧Reads W W.heap.size sz A l.length (Hm.recs f l)∧∀x∈l,Q x:=by
 rcases h.slice ht with rfl|⟨a,len,cap,rfl,hl,hm,hw,hb,hi⟩
 ·exact⟨none,0,[],rfl,by simp,by simp[maxLen],by simp,⟨by simp[Hm.recs],fun h=>by simp at h⟩,by simp⟩
 ·rw[hC] at hi hb
  rw[hby] at hw
  obtain⟨l,hll,hp⟩:=zws (p:=fun i x=>W.cells? 0 (a.add (i*sz)) sz=some (f x)∧Q x) d len (fun i hil=>by
   obtain⟨cs',hc,hh⟩:=hi i (by omega);obtain⟨x,rfl,hq⟩:=hel cs' hh
   exact⟨x,hc,hq⟩)
  subst hll;refine⟨some a,cap,l,rfl,hl,hm,hw,⟨by rw[zar hf],fun hn=>⟨a,rfl,hb (Nat.mul_pos (by omega) h0),fun j u hu=>?_⟩⟩,fun x hx=>?_⟩
  ·have hj:j<l.length*sz:=by
    rw[←zar hf];exact(List.getElem?_eq_some_iff.1 hu).1
   have hjd:j/sz<l.length:=by
    rw[Nat.mul_comm] at hj;exact Nat.div_lt_of_lt_mul hj
   have hjm:j%sz<sz:=Nat.mod_lt _ h0;obtain⟨hc,_⟩:=hp (j/sz) hjd;obtain⟨_,_,hat⟩:=World.cells?_some hc;have:=hat (j%sz) hjm;rw[Go.Deep.add_add,Nat.mul_comm (j/sz),Nat.div_add_mod] at this;rw[this,←hu];have e:=zn1 hf l d (j/sz) (j%sz) hjd hjm;rw[Nat.mul_comm (j/sz),Nat.div_add_mod] at e;rw[e]
  ·obtain⟨i,hi',rfl⟩:=List.getElem_of_mem hx
   have:=(hp i hi').2;rwa[List.getD_eq_getElem?_getD,List.getElem?_eq_getElem hi'] at this
end
end Go.Hm
