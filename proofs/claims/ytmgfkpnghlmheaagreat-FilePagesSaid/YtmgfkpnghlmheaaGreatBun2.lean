/- Merged. -/
import Derived.Deep.RegionHeld3
import Derived.Test.YtmgfkpnghlmheaaGreatBun1
set_option maxHeartbeats 200000
namespace Go.Hm
def vp(n:Nat):List Nat:=if _h:n<128 then [n] else(n%128+128)::vp (n/128)
theorem ze4{n:Nat}(h:n<128):vp n=[n]:=by rw[vp,dif_pos h]
theorem zfz{n:Nat}(h: ¬n<128):vp n=(n%128+128)::vp (n/128):=by rw[vp,dif_neg h]
theorem qgu(k:Nat):∀n,n<128^(k+1)->(vp n).length<=k+1:=by
 induction k with
 |zero=>intro n h;rw[ze4 (by omega)];simp
 |succ k ih=>
  intro n h;by_cases hn:n<128
  ·rw[ze4 hn];simp
  ·rw[zfz hn]
   have:=ih (n/128) (Nat.div_lt_of_lt_mul (by rw[Nat.pow_succ] at h;omega));simp;omega
theorem zap{n:Nat}(h:n<18446744073709551616):(vp n).length<=10:=qgu 9 n (by omega)
theorem zlw(n:Nat):0<(vp n).length:=by
 by_cases hn:n<128
 ·rw[ze4 hn];simp
 ·rw[zfz hn];simp
def low(n:Nat):Nat->List Nat
 |0=>[]
 |k+1=>low n k++[n/256^k%256]
theorem zbk(n k:Nat):(low n k).length=k:=by induction k<;> simp_all[low]
def num:List Nat->Nat
 | []=>0
 |b::l=>b+256*num l
theorem zyy(l:List Nat)(b:Nat):num (l++[b])=num l+b*256^l.length:=by
 induction l with
 |nil=>simp[num]
 |cons a l ih=>simp only[List.cons_append,num,ih,List.length_cons,Nat.pow_succ];rw[Nat.mul_add,Nat.add_assoc];congr 2;rw[Nat.mul_left_comm,Nat.mul_comm 256]
theorem zqh(l:List Nat)(h:∀x∈l,x<256):num l<256^l.length:=by
 induction l with
 |nil=>simp[num]
 |cons a l ih=>
  have h1:=ih fun x hx=>h x (by simp[hx])
  have h2:=h a (by simp);simp only[num,List.length_cons,Nat.pow_succ];omega
theorem zae{α:Type}(l:List α)(k:Nat)(d:α)(h:k<l.length):l.take (k+1)=l.take k++[l.getD k d]:=by rw[List.take_add_one,List.getElem?_eq_getElem h];simp[h]
theorem z39(n k:Nat):num (low n k)=n%256^k:=by
 induction k with
 |zero=>simp[low,num,Nat.mod_one]
 |succ k ih=>
  rw[low,zyy,ih,zbk,Nat.pow_succ,Nat.mod_mul,Nat.mul_comm (256^k)]
theorem zlx(n k:Nat):∀x∈low n k,x<256:=by
 induction k with
 |zero=>intro x hx;simp[low] at hx
 |succ k ih=>
  intro x hx;simp only[low,List.mem_append,List.mem_singleton] at hx;rcases hx with hx|hx
  ·exact ih x hx
  ·subst hx;exact Nat.mod_lt _ (by omega)
theorem zd6{α:Type}(l:List α)(k:Nat)(d:α)(h:k<l.length):l.drop k=l.getD k d::l.drop (k+1):=by rw[List.drop_eq_getElem_cons h];simp[h]
theorem zj2{n k:Nat}(h:n<256^k):num (low n k)=n:=by rw[z39,Nat.mod_eq_of_lt h]
open Go.RowKit
section
variable{P:Program}{ops:Array Oper}{Q:Exit->Act->World->Prop}
theorem zhi{S S':World->Prop}(h:∀w,S w->S' w):∀(fuel:Nat) (listed:Array Bool) (a:Act) (w:World),wpAnyH P .any ops Q S fuel listed a w->wpAnyH P .any ops Q S' fuel listed a w
 |0,_,_,_,hh=>hh
 |fuel+1,_,_,_,hh=>⟨hh.1,fun i hi=>wpOp_mono (fun a' w' h'=>⟨h w' h'.1,zhi h fuel _ a' w' h'.2⟩) (hh.2 i hi)⟩
def qek(ops:Array Oper):Array Bool->List (Bool × Nat)->Bool
 |listed,[]=>(Region.ready .any ops listed).isEmpty
 |listed,(true,i)::r=>(Region.ready .any ops listed).contains i&&(Region.free .any ops listed i&&qek ops (listed.setIfInBounds i true) r)
 |listed,(false,i)::r=>decide (Region.ready .any ops listed=[i])&&qek ops (listed.setIfInBounds i true) r
def zyz(P:Program)(ops:Array Oper)(R:World->World->Prop)(Q:Exit->Act->World->Prop):List (Bool × Nat)->Act->World->Prop
 | [],a,w=>Q .normal a w
 |(true,i)::r,a,w=>∃o v,ops[i]? =some o/\((Region.wanted o (yielded ops a.tmps)=true/\ ∀w',R w w'->(execOp a.eval o).run P w'= .ok (.value v) w')\/(Region.wanted o (yielded ops a.tmps)=false/\v=undef))/\zyz P ops R Q r (a.put o.dst v) w
 |(false,i)::r,a,w=>∃o,ops[i]? =some o/\if Region.wanted o (yielded ops a.tmps) then o.wp P a w (fun a' w'=>R w w'/\zyz P ops R Q r a' w') (NoPanic Q) else zyz P ops R Q r (a.put o.dst undef) w
variable{R:World->World->Prop}
theorem ztw(hrefl:∀w,R w w)(htrans:∀{x y z},R x y->R y z->R x z)(hs:Region.noSelect ops=true):
 ∀(ord:List (Bool × Nat)) (fuel:Nat) (listed:Array Bool) (a:Act) (w:World),ord.length<=fuel->qek ops listed ord=true->zyz P ops R Q ord a w->wpAnyH P .any ops (NoPanic Q) (R w) fuel listed a w:=by
 intro ord;induction ord with
 |nil=>
  intro fuel listed a w _ hok h;exact wpAnyH_done (by simpa[qek] using hok) (NoPanic.normal h) fuel
 |cons x r ih=>
  obtain⟨b,i⟩:=x;intro fuel listed a w hl hok h;obtain⟨fuel,rfl⟩:∃k,fuel=k+1:=⟨fuel-1,by simp at hl;omega⟩;have hl':r.length<=fuel:=by simp at hl;omega
  cases b with
  |true=>
   obtain⟨o,v,ho,hv,hr⟩:=h;simp only[qek,Bool.and_eq_true] at hok;obtain⟨h1,h2,h3⟩:=hok;exact wpAnyH_take ho hs h2 h1 (fun _ _ _ hp=>hp) hv (hrefl w) (ih fuel _ _ w hl' h3 hr)
  |false=>
   obtain⟨o,ho,hc⟩:=h;simp only[qek,Bool.and_eq_true,decide_eq_true_eq] at hok;obtain⟨h1,h3⟩:=hok;refine wpAnyH_all h1 (by simp) ?_;intro j hj;obtain rfl:j=i:=by simpa using hj
   unfold wpOp;simp only[ho];split
   ·rename_i hw
    rw[if_pos hw] at hc;exact .inl (Oper.wp_mono (fun a' w' hh=>⟨hh.1,zhi (fun z hz=>htrans hh.1 hz) fuel _ a' w' (ih fuel _ a' w' hl' h3 hh.2)⟩) hc)
   ·rename_i hw
    rw[if_neg hw] at hc;exact⟨hrefl w,ih fuel _ _ w hl' h3 hc⟩
theorem zam{id:Nat}{a:Act}{w:World}(R:World->World->Prop)(ord:List (Bool × Nat))(hrefl:∀w,R w w)(htrans:∀{x y z},R x y->R y z->R x z)(hm:P.follows .mixedOrders=true)
 (hs:Region.noSelect ops=true)(hl:decide (ord.length<=ops.size)=true)(hok:qek ops (Array.replicate ops.size false) ord=true)(h:zyz P ops R Q ord a w.drew):(Code.region id ops true).wp P Q a w:=
 wp_region_noPanic (wp_region_held hm (ztw hrefl htrans hs ord ops.size _ a _ (by simpa using hl) hok h))
abbrev New(w w':World):Prop:=Below w.heap.size w w'
theorem New.refl(w:World):New w w:=Below.refl _ _
theorem New.trans{x y z:World}(h:New x y)(k:New y z):New x z:=Below.trans h (Below.mono k h.size)
theorem New.drew(w:World):New w w.drew:=(Below.refl _ _).drew
abbrev Far(g:Nat)(w w':World):Prop:=w.grownBy w' (some g)
theorem Far.refl(g:Nat)(w:World):Far g w w:=World.grownBy.refl w _
theorem Far.trans{g:Nat}{x y z:World}(h:Far g x y)(k:Far g y z):Far g x z:=World.grownBy.trans h k
theorem Far.drew(g:Nat)(w:World):Far g w w.drew:=⟨rfl,rfl,rfl,Nat.le_refl _,fun _ _ _=>rfl⟩
theorem Far.of_new{g:Nat}{w w':World}(h:New w w'):Far g w w':=⟨h.os,h.tape,h.output,h.size,fun k hk _=>h.block k hk⟩
theorem Far.below{g B:Nat}{a w w':World}(h:Below B a w)(hg:Far g w w')(hB:B<=g)(hBw:B<=a.heap.size):Below B a w':=zay h hg hB hBw
theorem New.far{w w0 w1:World}{g:Nat}(h:New w w0)(k:Far g w0 w1)(hg:w.heap.size<=g):New w w1:=Far.below h k hg (Nat.le_refl _)
variable{i:Nat}{r:List (Bool × Nat)}{a:Act}{w:World}{o:Oper}{v:Value}
theorem zb2(h:Q .normal a w):zyz P ops R Q [] a w:=h
section
variable{dst:Option Tmp}{op:Op}{ty:TypeId}{pos:String}{af:Array Edge}{gd:Option (Nat × Bool)}
theorem zaq(ho:ops[i]? =some ⟨dst,op,ty,pos,af,gd⟩)(hw:Region.wanted ⟨dst,op,ty,pos,af,gd⟩ (yielded ops a.tmps)=true)(hv:∀w',R w w'->(execOp a.eval ⟨dst,op,ty,pos,af,gd⟩).run P w'= .ok (.value v) w')(h:zyz P ops R Q r (a.put dst v) w):zyz P ops R Q ((true,i)::r) a w:=
 ⟨_,v,ho,.inl ⟨hw,hv⟩,h⟩
theorem zh8{b:Bool}(ho:ops[i]? =some ⟨dst,op,ty,pos,af,gd⟩)(hw:Region.wanted ⟨dst,op,ty,pos,af,gd⟩ (yielded ops a.tmps)=false)(h:zyz P ops R Q r (a.put dst undef) w):zyz P ops R Q ((b,i)::r) a w:=by
 cases b
 ·exact⟨_,ho,by rw[if_neg (by simp[hw])];exact h⟩
 ·exact⟨_,undef,ho,.inr ⟨hw,rfl⟩,h⟩
theorem za8(ho:ops[i]? =some ⟨dst,op,ty,pos,af,gd⟩)(hw:Region.wanted ⟨dst,op,ty,pos,af,gd⟩ (yielded ops a.tmps)=true)(h:∀K:Act->World->Prop,(∀a' w',R w w'->zyz P ops R Q r a' w'->K a' w')->Oper.wp P ⟨dst,op,ty,pos,af,gd⟩ a w K (NoPanic Q)):zyz P ops R Q ((false,i)::r) a w:=
 ⟨_,ho,by rw[if_pos hw];exact h _ fun _ _ h1 h2=>⟨h1,h2⟩⟩
theorem qgv{src dst' e:TypeId}{x:Operand}{A:Option Addr}{n c:Nat}{l:List Nat}(hs:P.underlying src=some (.slice e))(he:P.underlying e=some (.int .u8))(hd:P.underlying dst'=some .string)
 (ho:ops[i]? =some ⟨dst,.convert src dst' x,ty,pos,af,gd⟩)(hw:Region.wanted ⟨dst,.convert src dst' x,ty,pos,af,gd⟩ (yielded ops a.tmps)=true)(hx:a.eval x= .slice A n c){w0:World}(hr:Reads w0 w0.heap.size 1 A n (za2 .u8 l))(hU:New w0 w)
 (h:zyz P ops New Q r (a.put dst (.string (zac l))) w):zyz P ops New Q ((true,i)::r) a w:=
 zaq ho hw (fun w' hb=>by have:=z38 (c:=c) hs he hd (hr.below (New.trans hU hb));simp[execOp,hx,this,Result.andThen]) h
end
end
theorem z91(P:Program)(l m:List Nat)(h:l.length+m.length<=9223372036854775807)(w:World):(Op.stringOp .add (zac l) (zac m)).run P w= .ok (.string (zac (l++m))) w:=by rw[run_string_add_sum (P:=P) w (zac l) (zac m) (by rw[za4,za4];exact h),zfx]
def st(l:List Nat):Nat:=(l.takeWhile fun y=>y==l.getD 0 0).length
theorem qha(p:Nat->Bool):∀(l:List Nat) (n:Nat),n<=l.length->(∀i,i<n->p (l.getD i 0)=true)->(n=l.length\/p (l.getD n 0)=false)->(l.takeWhile p).length=n
 | [],n,h1,_,_=>by simp at h1;simp[h1]
 |x::r,0,_,_,h3=>by
  rcases h3 with h3|h3
  ·simp at h3
  ·have:p x=false:=by simpa using h3
   simp[this]
 |x::r,n+1,h1,h2,h3=>by
  have hx:p x=true:=by simpa using h2 0 (by omega)
  rw[List.takeWhile_cons,if_pos hx,List.length_cons,qha p r n (by simpa using h1) (fun i hi=>by simpa using h2 (i+1) (by omega)) (by simpa using h3)]
theorem qa1{l:List Nat}{n:Nat}(h1:n<=l.length)(h2:∀i,i<n->l.getD i 0=l.getD 0 0)(h3:n=l.length\/l.getD n 0≠l.getD 0 0):st l=n:=
 qha _ l n h1 (fun i hi=>by simpa using h2 i hi) (h3.imp id fun h=>by simpa using h)
theorem z5k(p:Nat->Bool):∀l:List Nat,(l.takeWhile p).length<=l.length/\(∀i,i<(l.takeWhile p).length->p (l.getD i 0)=true)/\((l.takeWhile p).length=l.length\/p (l.getD (l.takeWhile p).length 0)=false)
 | []=>by simp
 |x::r=>by
  obtain⟨a,b,c⟩:=z5k p r;by_cases hx:p x=true
  ·rw[List.takeWhile_cons,if_pos hx,List.length_cons]
   refine⟨by simpa using a,fun i hi=>?_,by simpa using c⟩;cases i with
   |zero=>simpa using hx
   |succ i=>simpa using b i (by omega)
  ·rw[List.takeWhile_cons,if_neg hx]
   refine⟨by simp,by simp,.inr (by simpa using hx)⟩
theorem zfd(l:List Nat):st l<=l.length/\(∀i,i<st l->l.getD i 0=l.getD 0 0)/\(st l=l.length\/l.getD (st l) 0≠l.getD 0 0):=by obtain⟨a,b,c⟩:=z5k (fun y=>y==l.getD 0 0) l;exact⟨a,fun i hi=>by simpa using b i hi,c.imp id fun h=>by unfold st;simpa using h⟩
theorem zl3{l:List Nat}(h:0<l.length):1<=st l:=by
 obtain⟨a,b,c⟩:=zfd l;rcases Nat.eq_zero_or_pos (st l) with h0|h0
 ·rw[h0] at c
  rcases c with c|c
  ·omega
  ·exact absurd rfl c
 ·exact h0
theorem zi1{l m:List Nat}{i:Nat}(h:i<l.length):(l++m).getD i 0=l.getD i 0:=by simp[List.getD_eq_getElem?_getD,List.getElem?_append_left h]
theorem zqp{l:List Nat}{i k:Nat}(h:i<k):(l.take k).getD i 0=l.getD i 0:=by simp[List.getD_eq_getElem?_getD,h]
theorem qhb{l m:List Nat}(h:st (l++m)<=l.length)(h0:0<l.length):st l=st (l++m):=by
 obtain⟨a,b,c⟩:=zfd (l++m);refine qa1 h (fun i hi=>?_) ?_
 ·have:=b i hi
  rwa[zi1 (by omega),zi1 h0] at this
 ·by_cases e:st (l++m)=l.length
  ·exact .inl e
  ·rcases c with c|c
   ·rw[c,List.length_append] at h e
    omega
   ·rw[zi1 (by omega),zi1 h0] at c
    exact .inr c
theorem z5l{l m:List Nat}:st l<=st (l++m):=by
 rcases Nat.eq_zero_or_pos l.length with h0|h0
 ·have:=(zfd l).1
  omega
 by_cases h:st (l++m)<=l.length
 ·exact Nat.le_of_eq (qhb h h0)
 ·have:=(zfd l).1
  omega
theorem qfj(l:List Nat):st (l.take (st l))=st l:=by
 obtain⟨a,b,c⟩:=zfd l;have hl:(l.take (st l)).length=st l:=by rw[List.length_take];omega
 rcases Nat.eq_zero_or_pos (st l) with h0|h0
 ·have:=(zfd (l.take (st l))).1
  omega
 ·refine qa1 (by omega) (fun i hi=>?_) (.inl hl.symm)
  rw[zqp hi,zqp h0];exact b i hi
theorem qfk{p:List Nat}(h:st p=p.length):p=List.replicate p.length (p.getD 0 0):=by
 obtain⟨a,b,c⟩:=zfd p;refine List.ext_getElem (by simp) fun i h1 h2=>?_
 have:=b i (by omega);rw[List.getD_eq_getElem?_getD,List.getElem?_eq_getElem h1] at this;simpa using this
def zzl(rest l:List Nat):List (List Nat):=
 if _h:l.length=0 then(if rest.length=0 then [] else [rest])
 else if 4<=st l then(if rest.length=0 then [] else [rest])++(l.take (st l)::zzl [] (l.drop (st l)))
 else zzl (rest++l.take (st l)) (l.drop (st l))
termination_by l.length
decreasing_by
 ·have:=zl3 (l:=l) (by omega)
  rw[List.length_drop];omega
 ·have:=zl3 (l:=l) (by omega)
  rw[List.length_drop];omega
def pcs(l:List Nat):List (List Nat):=zzl [] l
def zub(rest:List Nat):List (List Nat):=if rest.length=0 then [] else [rest]
theorem zsg(rest:List Nat):zzl rest []=zub rest:=by rw[zzl];rfl
theorem zsh{rest l:List Nat}(h0:0<l.length)(h:4<=st l):zzl rest l=zub rest++(l.take (st l)::zzl [] (l.drop (st l))):=by rw[zzl,dif_neg (by omega),if_pos h];rfl
theorem zn5{rest l:List Nat}(h0:0<l.length)(h: ¬4<=st l):zzl rest l=zzl (rest++l.take (st l)) (l.drop (st l)):=by rw[zzl,dif_neg (by omega),if_neg h]
theorem z5m{C:List Nat->List Nat->Prop}(h0:∀rest,C rest [])
 (h1:∀rest l,0<l.length->4<=st l->C [] (l.drop (st l))->C rest l)
 (h2:∀rest l,0<l.length-> ¬4<=st l->C (rest++l.take (st l)) (l.drop (st l))->C rest l):∀rest l,C rest l:=by
 intro rest l;induction hn:l.length using Nat.strongRecOn generalizing rest l with
 |_ n ih=>
  rcases Nat.eq_zero_or_pos l.length with hz|hz
  ·obtain rfl:=List.eq_nil_of_length_eq_zero hz
   exact h0 rest
  ·have hp:=zl3 hz
   have hd:(l.drop (st l)).length<n:=by rw[List.length_drop];omega
   by_cases h:4<=st l
   ·exact h1 rest l hz h (ih _ hd _ _ rfl)
   ·exact h2 rest l hz h (ih _ hd _ _ rfl)
theorem zqq(rest:List Nat):(zub rest).flatten=rest:=by
 unfold zub;split
 ·rename_i h
  exact(List.eq_nil_of_length_eq_zero h).symm
 ·simp
theorem z5n:∀rest l,(zzl rest l).flatten=rest++l:=by
 refine z5m ?_ ?_ ?_
 ·intro rest
  rw[zsg,zqq,List.append_nil]
 ·intro rest l h0 h ih
  rw[zsh h0 h,List.flatten_append,zqq,List.flatten_cons,ih,List.nil_append,List.take_append_drop]
 ·intro rest l h0 h ih
  rw[zn5 h0 h,ih,List.append_assoc,List.take_append_drop]
def zn6(p:List Nat):Prop:=0<p.length/\(4<=st p->st p=p.length)
theorem qfl:∀rest l,(rest=[]\/st (rest++l)<4)-> ∀p∈zzl rest l,zn6 p:=by
 have hr:∀rest l:List Nat,(rest=[]\/st (rest++l)<4)-> ∀p∈zub rest,zn6 p:=by
  intro rest l hc p hp;unfold zub at hp;split at hp
  ·cases hp
  ·rename_i hl
   obtain rfl:=List.mem_singleton.1 hp;refine⟨by omega,fun h4=>?_⟩;rcases hc with rfl|hc
   ·simp at hl
   ·have:=z5l (l:=p) (m:=l)
    omega
 refine z5m ?_ ?_ ?_
 ·intro rest hc p hp
  rw[zsg] at hp;exact hr rest [] hc p hp
 ·intro rest l h0 h ih hc p hp
  rw[zsh h0 h] at hp;rcases List.mem_append.1 hp with hp|hp
  ·exact hr rest l hc p hp
  ·rcases List.mem_cons.1 hp with rfl|hp
   ·have hl:(l.take (st l)).length=st l:=by have:=(zfd l).1;rw[List.length_take];omega
    exact⟨by omega,fun _=>by rw[qfj,hl]⟩
   ·exact ih (.inl rfl) p hp
 ·intro rest l h0 h ih hc p hp
  rw[zn5 h0 h] at hp;refine ih (.inr ?_) p hp;rw[List.append_assoc,List.take_append_drop];rcases hc with rfl|hc
  ·simpa using h
  ·exact hc
theorem qdv(l:List Nat):∀p∈pcs l,zn6 p:=qfl [] l (.inl rfl)
theorem zmz(l:List Nat):(pcs l).flatten=l:=z5n [] l
open Ieee
theorem dbl:Ieee.double.fractionBits=52/\Ieee.double.exponentBits=11:=⟨rfl,rfl⟩
theorem zkl:Ieee.double.leastPlace= -1074:=by decide
theorem zqv:Ieee.double.binade=4503599627370496:=by decide
theorem z58:Ieee.double.infRung=9218868437227405312:=by decide
theorem zzw:Ieee.double.signWeight=9223372036854775808:=by decide
theorem zod(way:Toward)(neg:Bool)(n d:Nat):way.cut neg (n*2^d) d=n:=by
 by_cases h0:n=0
 ·subst h0
  unfold Toward.cut;simp only[Nat.zero_mul,Nat.zero_div,Nat.zero_mod];cases way<;> simp
 ·have hl:d<=(n*2^d).log2:=by
   rw[Nat.le_log2 (by have:=Nat.two_pow_pos d;exact Nat.mul_ne_zero h0 (by omega))];exact Nat.le_mul_of_pos_left _ (by omega)
  have hm:min d ((n*2^d).log2+2)=d:=Nat.min_eq_left (by omega);unfold Toward.cut;simp only[hm,Nat.one_shiftLeft,Nat.mul_div_cancel _ (Nat.two_pow_pos d),Nat.mul_mod_left];have hp:=Nat.two_pow_pos d;cases way<;> simp<;> omega
theorem zuk{n:Nat}(h:n≠0)(k:Nat):(n*2^k).log2=n.log2+k:=by
 have hp:=Nat.two_pow_pos k;have h1:2^(n.log2+k)<=n*2^k:=by rw[Nat.pow_add];exact Nat.mul_le_mul_right _ (Nat.log2_self_le h)
 have h2:n*2^k<2^(n.log2+k+1):=by rw[show n.log2+k+1=(n.log2+1)+k by omega,Nat.pow_add];exact Nat.mul_lt_mul_of_pos_right (Nat.lt_log2_self) hp
 have hne:n*2^k≠0:=Nat.mul_ne_zero h (by omega);have a1:=(Nat.le_log2 hne).2 h1;have a2:=(Nat.log2_lt hne).2 h2;omega
theorem zul(f:Format)(s:Bool)(R:Nat)(hR:R<f.signWeight):f.read (f.word s R)=
 if R<f.binade then .number s R f.leastPlace
 else if R<f.infRung then .number s (f.binade+R%f.binade) (f.leastPlace+(R/f.binade-1:Nat))
 else if R=f.infRung then .infinity s else .nan s (R-f.infRung):=by
 have h1:(f.word s R/f.signWeight%2==1)=s:=by
  unfold Format.word;cases s with
  |false=>
   rw[if_neg (by simp),Nat.div_eq_of_lt hR];rfl
  |true=>
   rw[if_pos rfl,Nat.add_div_left _ (by omega),Nat.div_eq_of_lt hR];rfl
 have h2:f.word s R%f.signWeight=R:=by
  unfold Format.word;cases s with
  |false=>rw[if_neg (by simp),Nat.mod_eq_of_lt hR]
  |true=>rw[if_pos rfl,Nat.add_mod_left,Nat.mod_eq_of_lt hR]
 unfold Format.read;simp only[h1,h2]
theorem zum(s:Bool)(n k:Nat)(hn:n<9007199254740992):∃k':Nat,Ieee.double.read (Ieee.double.nearest s (n*2^k) (-(k:Int)))= .number s (n*2^k') (-(k':Int)):=by
 by_cases h0:n=0
 ·subst h0
  obtain⟨j,hj⟩:∃j:Nat,Ieee.double.leastPlace= -(j:Int):=⟨1074,by rw[zkl];rfl⟩;refine⟨j,?_⟩;rw[Nat.zero_mul,Nat.zero_mul,Format.nearest,if_pos rfl,zul _ _ _ (by rw[zzw];omega),if_pos (by rw[zqv];omega),hj]
 ·have hp:=Nat.two_pow_pos k
  have hne:n*2^k≠0:=Nat.mul_ne_zero h0 (by omega);have hlog:n.log2<=52:=by have:=(Nat.log2_lt h0).2 (show n<2^53 by omega);omega
  have e1:(-(k:Int))+((n*2^k).log2:Nat)-(52:Nat)=(n.log2:Int)-52:=by rw[zuk h0];omega
  obtain⟨d,hd⟩:∃d,d=52-n.log2:=⟨_,rfl⟩;have hlast:max ((-(k:Int))+((n*2^k).log2:Nat)-(Ieee.double.fractionBits:Nat)) Ieee.double.leastPlace= -(d:Int):=by rw[dbl.1,e1,zkl];omega
  have hkept:Toward.even.cut s ((n*2^k) <<< ((-(k:Int))- -(d:Int)).toNat) (-(d:Int)- -(k:Int)).toNat=n*2^d:=by
   by_cases hkd:k<=d
   ·rw[show((-(k:Int))- -(d:Int)).toNat=d-k by omega,show(-(d:Int)- -(k:Int)).toNat=0 by omega,Nat.shiftLeft_eq,Nat.mul_assoc,<-Nat.pow_add,show k+(d-k)=d by omega]
    have:=zod .even s (n*2^d) 0;rwa[Nat.pow_zero,Nat.mul_one] at this
   ·rw[show((-(k:Int))- -(d:Int)).toNat=0 by omega,show(-(d:Int)- -(k:Int)).toNat=k-d by omega,Nat.shiftLeft_eq,Nat.pow_zero,Nat.mul_one]
    have:=zod .even s (n*2^d) (k-d);rwa[Nat.mul_assoc,<-Nat.pow_add,show d+(k-d)=k by omega] at this
  have hlo:4503599627370496<=n*2^d:=by have:=Nat.mul_le_mul_right (2^d) (Nat.log2_self_le h0);rw[<-Nat.pow_add,show n.log2+d=52 by omega] at this;exact Nat.le_trans (by decide) this
  have hhi:n*2^d<9007199254740992:=by have:=Nat.mul_lt_mul_of_pos_right (Nat.lt_log2_self (n:=n)) (Nat.two_pow_pos d);rw[<-Nat.pow_add,show n.log2+1+d=53 by omega] at this;exact Nat.lt_of_lt_of_le this (by decide)
  refine⟨d,?_⟩;have hd2:d<=52:=by omega
  have hw:Ieee.double.nearest s (n*2^k) (-(k:Int))=Ieee.double.word s (min ((-(d:Int)-Ieee.double.leastPlace).toNat*Ieee.double.binade+n*2^d) Ieee.double.infRung):=by unfold Format.nearest;rw[if_neg hne];simp only[hlast,hkept]
  clear hlast hkept hlog e1 hd hne hp h0 hn;generalize Ieee.double.nearest s (n*2^k) (-(k:Int))=V at*;generalize n*2^d=K at*;rw[hw,zul _ _ _ (by rw[zzw,z58];omega)];have e2:(-(d:Int)-Ieee.double.leastPlace).toNat=1074-d:=by rw[zkl];omega
  rw[e2,zqv,z58,zkl];generalize hm:1074-d=m;have hm2:m<=1074/\1022<=m:=by omega
  have hr:min (m*4503599627370496+K) 9218868437227405312=m*4503599627370496+K:=Nat.min_eq_left (by omega);rw[hr];have r1: ¬m*4503599627370496+K<4503599627370496:=by omega
  have r2:m*4503599627370496+K<9218868437227405312:=by omega
  have r3:4503599627370496+(m*4503599627370496+K)%4503599627370496=K:=by omega
  have r4:(m*4503599627370496+K)/4503599627370496-1=m:=by omega
  have r5:(-1074:Int)+(m:Int)= -(d:Int):=by omega
  rw[if_neg r1,if_pos r2,r3,r4,r5]
def RepD(x:Int)(d:Datum):Prop:=∃(s:Bool) (k:Nat),d= .number s (x.natAbs*2^k) (-(k:Int))/\(x≠0->s=decide (x<0))
def Rep(x:Int)(b:Nat):Prop:=RepD x (Ieee.double.read b)
theorem zlg{s:Bool}{x:Int}(h:x≠0->s=decide (x<0))(k u:Nat):Ieee.signed s (x.natAbs*2^k) u=x*((2^(k+u):Nat):Int):=by
 have e:(x.natAbs*2^k) <<< u=x.natAbs*2^(k+u):=by rw[Nat.shiftLeft_eq,Nat.mul_assoc,<-Nat.pow_add]
 unfold Ieee.signed;rw[e];generalize 2^(k+u)=p;by_cases h0:x=0
 ·subst h0
  cases s<;> simp
 ·by_cases hx:x<0
  ·rw[h h0,decide_eq_true hx,if_pos rfl,Int.natCast_mul,show((x.natAbs:Nat):Int)= -x by omega,Int.neg_mul,Int.neg_neg]
  ·rw[h h0,decide_eq_false hx,if_neg (by simp),Int.natCast_mul,show((x.natAbs:Nat):Int)=x by omega]
theorem RepD.write{x:Int}{d:Datum}(h:RepD x d)(hx:x.natAbs<9007199254740992):Rep x (Ieee.double.write d):=by obtain⟨s,k,rfl,hs⟩:=h;obtain⟨j,hj⟩:=zum s x.natAbs k hx;exact⟨s,j,hj,hs⟩
theorem RepD.opposite{x:Int}{d:Datum}(h:RepD x d):RepD (-x) d.opposite:=by
 obtain⟨s,k,rfl,hs⟩:=h;refine⟨!s,k,?_,fun h0=>?_⟩
 ·rw[Int.natAbs_neg]
  rfl
 ·rw[hs (by omega)]
  by_cases hx:x<0
  ·rw[decide_eq_true hx,decide_eq_false (by omega)]
   rfl
  ·rw[decide_eq_false hx,decide_eq_true (by omega)]
   rfl
theorem RepD.product{x y:Int}{d e:Datum}(h:RepD x d)(h2:RepD y e):∃r,d.product e=some r/\RepD (x*y) r:=by
 obtain⟨s,k,rfl,hs⟩:=h;obtain⟨t,j,rfl,ht⟩:=h2;refine⟨_,rfl,s ^^ t,k+j,?_,fun h0=>?_⟩
 ·rw[Int.natAbs_mul,Nat.pow_add]
  congr 1
  ·generalize 2^k=p
   generalize 2^j=q;simp only[Nat.mul_assoc,Nat.mul_left_comm,Nat.mul_comm]
  ·omega
 ·have hx:x≠0:=by rintro rfl;simp at h0
  have hy:y≠0:=by rintro rfl;simp at h0
  rw[hs hx,ht hy];rcases Int.lt_or_gt_of_ne hx with hx|hx<;> rcases Int.lt_or_gt_of_ne hy with hy|hy
  ·have:=Int.mul_pos_of_neg_of_neg hx hy
   simp[hx,hy];omega
  ·have:=Int.mul_neg_of_neg_of_pos hx hy
   simp[hx,this];omega
  ·have:=Int.mul_neg_of_pos_of_neg hx hy
   simp[hy,this];omega
  ·have:=Int.mul_pos hx hy
   have a1: ¬x<0:=by omega
   have a2: ¬y<0:=by omega
   have a3: ¬x*y<0:=by omega
   simp[a1,a2,a3]
theorem RepD.sum{x y:Int}{d e:Datum}(h:RepD x d)(h2:RepD y e):∃r,d.sum e=some r/\RepD (x+y) r:=by
 obtain⟨s,k,rfl,hs⟩:=h;obtain⟨t,j,rfl,ht⟩:=h2;obtain⟨m,hm⟩:∃m,m=max k j:=⟨_,rfl⟩;have hb:min (-(k:Int)) (-(j:Int))= -(m:Int):=by omega
 have hk:k+(-(k:Int)- -(m:Int)).toNat=m:=by omega
 have hj:j+(-(j:Int)- -(m:Int)).toNat=m:=by omega
 have ht:Ieee.signed s (x.natAbs*2^k) (-(k:Int)- -(m:Int)).toNat+Ieee.signed t (y.natAbs*2^j) (-(j:Int)- -(m:Int)).toNat=(x+y)*((2^m:Nat):Int):=by rw[zlg hs,zlg ht,hk,hj,Int.add_mul]
 have hp:0<2^m:=Nat.two_pow_pos m;refine⟨_,rfl,?_⟩;simp only[hb,ht];generalize x+y=z;refine⟨if z*((2^m:Nat):Int)=0 then s&&t else decide (z*((2^m:Nat):Int)<0),m,?_,fun h0=>?_⟩
 ·rw[Int.natAbs_mul,Int.natAbs_natCast]
 ·have hz: ¬z*((2^m:Nat):Int)=0:=by
   rw[Int.mul_eq_zero];rintro(hh|hh)
   ·exact h0 hh
   ·omega
  rw[if_neg hz];have hp2:(0:Int)<((2^m:Nat):Int):=by omega
  generalize((2^m:Nat):Int)=p at*;congr 1
  rw[eq_iff_iff];constructor
  ·intro hh
   exact Classical.byContradiction fun hn=>by have:=Int.mul_nonneg (show 0<=z by omega) (show 0<=p by omega);omega
  ·intro hh
   exact Int.mul_neg_of_neg_of_pos hh hp2
theorem RepD.toInt{x:Int}{d:Datum}(h:RepD x d):d.toInt .zero=some x:=by
 obtain⟨s,k,rfl,hs⟩:=h;have e1:(-(k:Int)).toNat=0:=by omega
 have e2:(-(-(k:Int))).toNat=k:=by omega
 have e3:=zlg hs 0 0;rw[Nat.pow_zero,Nat.mul_one] at e3;simp only[Datum.toInt,Datum.integral,e1,e2,Nat.shiftLeft_zero,zod];rw[e3];simp
theorem zun(n:Int)(h:n.natAbs<9007199254740992):Rep n (floatOfInt .f64 n):=by have:RepD n (.number (n<0) n.natAbs 0):=⟨decide (n<0),0,by simp,fun _=>rfl⟩;exact this.write h
theorem zso{x y:Int}{a b:Nat}(h:Rep x a)(h2:Rep y b)(hx:(x*y).natAbs<9007199254740992):∃r,floatBits .mul .f64 a b=some r/\Rep (x*y) r:=by obtain⟨r,h3,h4⟩:=RepD.product h h2;exact⟨Ieee.double.write r,by show((Ieee.double.read a).product (Ieee.double.read b)).map Ieee.double.write=_;rw[h3];rfl,h4.write hx⟩
theorem zxl{x y:Int}{a b:Nat}(h:Rep x a)(h2:Rep y b)(hx:(x+y).natAbs<9007199254740992):∃r,floatBits .add .f64 a b=some r/\Rep (x+y) r:=by obtain⟨r,h3,h4⟩:=RepD.sum h h2;exact⟨Ieee.double.write r,by show((Ieee.double.read a).sum (Ieee.double.read b)).map Ieee.double.write=_;rw[h3];rfl,h4.write hx⟩
theorem zxm{x y:Int}{a b:Nat}(h:Rep x a)(h2:Rep y b)(hx:(x-y).natAbs<9007199254740992):∃r,floatBits .sub .f64 a b=some r/\Rep (x-y) r:=by obtain⟨r,h3,h4⟩:=RepD.sum h (RepD.opposite h2);exact⟨Ieee.double.write r,by show((Ieee.double.read a).sum (Ieee.double.read b).opposite).map Ieee.double.write=_;rw[h3];rfl,h4.write hx⟩
theorem zxn{x:Int}{a:Nat}(h:Rep x a)(hx: -9223372036854775808<=x/\x<=9223372036854775807):floatToIntVal .f64 a .i64=some x:=by have h3:(FloatKind.f64.decode a).toInt .zero=some x:=RepD.toInt h;unfold floatToIntVal;rw[h3];exact if_pos hx
def ztt(x y:Int)(a b:Nat):Prop:=Rep x a/\Rep y b
theorem qbh{x y u v:Int}{a b c d:Nat}(h:ztt x y a b)(h2:ztt u v c d)(h3:(x*u).natAbs<9007199254740992)(h4:(y*v).natAbs<9007199254740992)(h5:(x*u-y*v).natAbs<9007199254740992)
 (h6:(x*v).natAbs<9007199254740992)(h7:(y*u).natAbs<9007199254740992)(h8:(x*v+y*u).natAbs<9007199254740992):∃re im,cMulBits a b c d=some (re,im)/\ztt (x*u-y*v) (x*v+y*u) re im:=by
 obtain⟨r1,e1,k1⟩:=zso h.1 h2.1 h3;obtain⟨r2,e2,k2⟩:=zso h.2 h2.2 h4;obtain⟨r3,e3,k3⟩:=zxm k1 k2 h5;obtain⟨r4,e4,k4⟩:=zso h.1 h2.2 h6;obtain⟨r5,e5,k5⟩:=zso h.2 h2.1 h7;obtain⟨r6,e6,k6⟩:=zxl k4 k5 h8;exact⟨r3,r6,by simp[cMulBits,e1,e2,e3,e4,e5,e6],k3,k6⟩
theorem qbi{x y u v:Int}{a b c d:Nat}(h:ztt x y a b)(h2:ztt u v c d)(h3:(x+u).natAbs<9007199254740992)(h4:(y+v).natAbs<9007199254740992):∃re im,cSumBits .add .f64 a b c d=some (re,im)/\ztt (x+u) (y+v) re im:=by obtain⟨r1,e1,k1⟩:=zxl h.1 h2.1 h3;obtain⟨r2,e2,k2⟩:=zxl h.2 h2.2 h4;exact⟨r1,r2,by simp[cSumBits,e1,e2],k1,k2⟩
theorem qbj{x y u v:Int}{a b c d:Nat}(h:ztt x y a b)(h2:ztt u v c d)(h3:(x-u).natAbs<9007199254740992)(h4:(y-v).natAbs<9007199254740992):∃re im,cSumBits .sub .f64 a b c d=some (re,im)/\ztt (x-u) (y-v) re im:=by obtain⟨r1,e1,k1⟩:=zxm h.1 h2.1 h3;obtain⟨r2,e2,k2⟩:=zxm h.2 h2.2 h4;exact⟨r1,r2,by simp[cSumBits,e1,e2],k1,k2⟩
theorem qbk(f:Format)(b:Nat):f.read (b ^^^ 2^(f.exponentBits+f.fractionBits))=(f.read b).opposite:=by
 have hS:f.signWeight=2^(f.exponentBits+f.fractionBits):=rfl;generalize hn:f.exponentBits+f.fractionBits=n at*;have hp:=Nat.two_pow_pos n;have h1:((b ^^^ 2^n)/2^n%2==1)= !(b/2^n%2==1):=by
  rw[Nat.xor_div_two_pow,Nat.div_self hp];generalize b/2^n=c;have e:(c ^^^ 1)%2=(c%2) ^^^ 1:=by have:= @Nat.xor_mod_two_pow c 1 1;simpa using this
  rw[e];rcases Nat.mod_two_eq_zero_or_one c with h|h
  ·rw[h]
   rfl
  ·rw[h]
   rfl
 have h2:(b ^^^ 2^n)%2^n=b%2^n:=by rw[Nat.xor_mod_two_pow,Nat.mod_self,Nat.xor_zero]
 unfold Format.read;rw[hS];simp only[h1,h2];generalize b%2^n=R;by_cases a1:R<f.binade
 ·rw[if_pos a1,if_pos a1]
  rfl
 ·rw[if_neg a1,if_neg a1]
  by_cases a2:R<f.infRung
  ·rw[if_pos a2,if_pos a2]
   rfl
  ·rw[if_neg a2,if_neg a2]
   by_cases a3:R=f.infRung
   ·rw[if_pos a3,if_pos a3]
    rfl
   ·rw[if_neg a3,if_neg a3]
    rfl
theorem qfs{x:Int}{b:Nat}(h:Rep x b):Rep (-x) (Op.negFloat .f64 b):=by have:=RepD.opposite h;rw[<-qbk] at this;exact this
theorem z2d(k:FloatKind)(b:Nat):Op.unary .neg (.float k b)=pure (.float k (Op.negFloat k b)):=rfl
theorem z59{x y:Int}{a b:Nat}(h:ztt x y a b)(hx: -2097152<=x/\x<=2097152)(hy: -2097152<=y/\y<=2097152):∃re im,cMulBits a b a (Op.negFloat .f64 b)=some (re,im)/\floatToIntVal .f64 re .i64=some (x*x+y*y):=by
 have q:∀u v:Int,-2097152<=u/\u<=2097152-> -2097152<=v/\v<=2097152-> -4398046511104<=u*v/\u*v<=4398046511104:=by
  intro u v hu hv;have h1:(u*v).natAbs<=2097152*2097152:=by rw[Int.natAbs_mul];exact Nat.mul_le_mul (by omega) (by omega)
  omega
 have h1:=q x x hx hx;have h2:=q y (-y) hy (by omega);have h3:=q x (-y) hx (by omega);have h4:=q y x hy hx;have e:y* -y= -(y*y):=by rw[Int.mul_neg]
 obtain⟨re,im,k1,k2⟩:=qbh h ⟨h.1,qfs h.2⟩ (by omega) (by omega) (by omega) (by omega) (by omega) (by omega);refine⟨re,im,k1,?_⟩;have:=zxn k2.1 (by omega);rw[this,e,Int.sub_neg]
end Go.Hm
