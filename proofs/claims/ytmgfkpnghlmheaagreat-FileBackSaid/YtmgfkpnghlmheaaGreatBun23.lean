/- Texts merged and made short: Nul, OpenFo, MapF, Grow, ConB, CellT, LayR. -/
import Derived.BigQuiet
import Derived.Deep.QuietTactic
import Derived.Lib.AppendZeros
import Derived.Outline
import Derived.Shelf.Abstract
import Derived.Test.YtmgfkpnghlmheaaGreatBun1
import Derived.Test.YtmgfkpnghlmheaaGreatBun11
import Derived.Test.YtmgfkpnghlmheaaGreatBun14
import Derived.Test.YtmgfkpnghlmheaaGreatBun17
import Derived.Test.YtmgfkpnghlmheaaGreatBun18
import Derived.Test.YtmgfkpnghlmheaaGreatBun21
import Derived.Test.YtmgfkpnghlmheaaGreatBun22
import Derived.Test.YtmgfkpnghlmheaaGreatBun4
import Derived.Test.YtmgfkpnghlmheaaGreatBun5
import Derived.Test.YtmgfkpnghlmheaaGreatBun8
set_option maxHeartbeats 4000000
namespace Go.Hm
open Go Go.RowKit
def z9j(c:zab):Nat:=if c.1 then 0 else 1
def zcb(l:List zab):List Nat:=l.map z9j
def zb1(l:List zab):List zab:=l.filter fun c=> !c.1
def nullC:zab:=(true,0,[],0,0)
theorem zem(l:List zab):(zcb l).length=l.length:=by simp[zcb]
theorem zzq(l:List zab):∀x∈zcb l,x<2^1:=by
 intro x hx;obtain⟨c,_,rfl⟩:=List.mem_map.1 hx;unfold z9j;split<;> decide
theorem z17(l:List zab)(k:Nat)(h:k<l.length):zcb (l.take (k+1))=zcb (l.take k)++[z9j (l.getD k (false,0,[],0,0))]:=by
 rw[zad l k (false,0,[],0,0) h,zcb,List.map_append];rfl
theorem z6g(l:List zab)(k:Nat)(h:k<l.length):zb1 (l.take (k+1))=zb1 (l.take k)++(if(l.getD k (false,0,[],0,0)).1 then [] else [l.getD k (false,0,[],0,0)]):=by
 rw[zad l k (false,0,[],0,0) h,zb1,List.filter_append]
 congr 1
 generalize l.getD k (false,0,[],0,0)=c;cases hh:c.1<;> simp[hh]
theorem znc(l:List zab):(zb1 l).length≤l.length:=List.length_filter_le _ _
def zpv(o:Option (List Nat)):Int:=match o with|none=> -1|some m=>(m.sum:Nat)
def zfx:List Nat→List zab→Option (List zab)
 | [],_=>some []
 |x::m,r=>if x=0 then(zfx m r).map (nullC:: ·) else match r with
  | []=>none
  |c::r=>if c.1 then none else(zfx m r).map (c:: ·)
theorem zlo(x:Nat)(m:List Nat)(r:List zab):zfx (x::m) r=if x=0 then(zfx m r).map (nullC:: ·) else match r with
 | []=>none
 |c::r=>if c.1 then none else(zfx m r).map (c:: ·):=by
 cases r<;> rfl
def zol(o:Option (List Nat))(r:List zab):Option (List zab):=match o with|none=>none|some m=>if m.sum=r.length then zfx m r else none
theorem zqy{m:List Nat}{r:List zab}{k q:Nat}(hk:k<m.length):zfx (m.drop k) (r.drop q)=
 if m.getD k 0=0 then(zfx (m.drop (k+1)) (r.drop q)).map (nullC:: ·) else match r.drop q with
 | []=>none
 |c::r'=>if c.1 then none else(zfx (m.drop (k+1)) r').map (c:: ·):=by
 rw[zd0 m k 0 hk];cases r.drop q<;> rfl
theorem z6h{m:List Nat}{r:List zab}{k q:Nat}(hk:k<m.length)(h0: ¬m.getD k 0=0)(hq:q<r.length):zfx (m.drop k) (r.drop q)=
 if(r.getD q (false,0,[],0,0)).1 then none else(zfx (m.drop (k+1)) (r.drop (q+1))).map (r.getD q (false,0,[],0,0):: ·):=by
 rw[zqy hk,if_neg h0,zd0 r q (false,0,[],0,0) hq]
theorem z6i{m:List Nat}{r:List zab}{q:Nat}:zfx (m.drop m.length) (r.drop q)=some []:=by
 rw[List.drop_length];rfl
theorem zzr{m:List Nat}{k:Nat}(hk:k<m.length):(m.take (k+1)).sum=(m.take k).sum+m.getD k 0:=by
 rw[zad m k 0 hk];simp
theorem zme{m:List Nat}(k:Nat):(m.take k).sum≤m.sum:=by
 have:=congrArg List.sum (List.take_append_drop k m);rw[List.sum_append] at this;omega
theorem zzs(l:List zab):(zcb l).sum=(zb1 l).length:=by
 induction l with
 |nil=>rfl
 |cons c l ih=>
  cases h:c.1<;> simp[zcb,zb1,z9j,h] at ih⊢ <;> omega
def zuw(c:zab):zab:=if c.1 then nullC else c
theorem zqz(l:List zab):zfx (zcb l) (zb1 l)=some (l.map zuw):=by
 induction l with
 |nil=>rfl
 |cons c l ih=>
  cases h:c.1
  ·have e1:zcb (c::l)=1::zcb l:=by simp[zcb,z9j,h]
   have e2:zb1 (c::l)=c::zb1 l:=by simp[zb1,h]
   rw[e1,e2,zlo,if_neg (by omega)];simp only[h,Bool.false_eq_true,if_false];rw[ih];simp[zuw,h]
  ·have e1:zcb (c::l)=0::zcb l:=by simp[zcb,z9j,h]
   have e2:zb1 (c::l)=zb1 l:=by simp[zb1,h]
   rw[e1,e2,zlo,if_pos rfl,ih];simp[zuw,h]
theorem zlp:∀(m:List Nat) (r x:List zab),(∀y∈m,y<2^1)→m.sum=r.length→zfx m r=some x→zcb x=m∧zb1 x=r∧x.length=m.length
 | [],r,x,_,hs,h=>by
   simp[zfx] at h;subst h;have:r=[]:=List.length_eq_zero_iff.1 (by simpa using hs.symm);subst this;exact⟨rfl,rfl,rfl⟩
 |y::m,r,x,hm,hs,h=>by
  rw[zlo] at h;have hy:=hm y (by simp)
  have hm':∀z∈m,z<2^1:=fun z hz=>hm z (by simp[hz])
  split at h
  ·rename_i h0
   subst h0
   cases hj:zfx m r with
   |none=>rw[hj] at h;cases h
   |some x'=>
    rw[hj] at h;simp at h;subst h;obtain⟨a,b,c⟩:=zlp m r x' hm' (by simpa using hs) hj;exact⟨by simp[zcb,nullC,z9j] at a⊢;exact a,by simp[zb1,nullC] at b⊢;exact b,by simp[c]⟩
  ·rename_i h0
   have hy1:y=1:=by omega
   subst hy1
   cases r with
   |nil=>simp at h
   |cons c r=>
    simp only at h;split at h
    ·cases h
    ·rename_i hc
     cases hj:zfx m r with
     |none=>rw[hj] at h;cases h
     |some x'=>
      rw[hj] at h;simp at h;subst h
      have hc':c.1=false:=by simpa using hc
      obtain⟨a,b,d⟩:=zlp m r x' hm' (by simp at hs;omega) hj;exact⟨by simp[zcb,z9j,hc'] at a⊢;exact a,by simp[zb1,hc'] at b⊢;exact b,by simp[d]⟩
end Go.Hm
namespace Go.Proofs.YtmgfkpnghlmheaaGreat
open Go.RowKit Go.Hm
theorem zkr(l:List zab):wid (zcb l)≤1∧∀x∈zcb l,x≤18446744073709551615:=by
 have hb:∀x∈zcb l,x≤18446744073709551615:=fun x hx=>by have:=zzq l x hx;omega
 exact⟨(zgo _ 1 (by omega) hb).2 (zzq l),hb⟩
def zb3(l:List zab):List Nat:=low (pk 1 (zcb l)) ((1*(zcb l).length+7)/8)
theorem zq0{l:List zab}(hl:l.length≤65536):zns (zcb l) 1=some (zb3 l):=zfg (zcb l) 1 (by omega) (by rw[zem];exact hl) (zkr l).1
theorem zux{l:List zab}(hl:l.length≤65536):zbg (zb3 l) 1 (l.length:Int)=some (zcb l):=by
 have:=zhm (zcb l) 1 (by omega) (by rw[zem];exact hl) (zkr l).1 (zkr l).2;rw[zem] at this;unfold zb3;rw[zem];exact this
theorem zso{b m:List Nat}{n:Int}(h8:∀x∈b,x<256)(h:zbg b 1 n=some m):zns m 1=some b∧(m.length:Int)=n∧(∀y∈m,y<2^1)∧m.length≤65536:=by
 obtain⟨h1,h2,h3,h4,h5⟩:=zhn h8 h;exact⟨h1,h2,(zgo m 1 (by omega) h4).1 (by omega),h5⟩
end Go.Proofs.YtmgfkpnghlmheaaGreat
set_option maxRecDepth 100000
namespace Go.Hm
open Go Go.RowKit
structure FootIn(w:World)(Ac:Option Addr)(cc:Nat)(L:List za0)(Ag:Option Addr)(G:List GrD):Prop where
 cols:Reads w w.heap.size 3 Ac L.length (recs zh4 L)
 fine:∀x∈L,(∀z∈x.1,z<256)∧x.1.length≤140737488351232
 cap:L.length≤cc
 few:L.length≤4611686018427387903
 groups:Reads w w.heap.size 2 Ag G.length (recs grV G)
 few2:G.length≤4611686018427387903
 chunks:∀g∈G,Reads w w.heap.size 1 g.2.1 g.2.2.2.length (recs chV g.2.2.2)∧g.2.2.2.length≤4611686018427387903
 pages:∀g∈G,∀x∈g.2.2.2,Reads w w.heap.size 14 x.1 x.2.2.length (recs zg5 x.2.2)∧x.2.2.length≤4611686018427387903
theorem FootIn.later{w w':World}{Ac:Option Addr}{cc:Nat}{L:List za0}{Ag:Option Addr}{G:List GrD}(h:FootIn w Ac cc L Ag G)(hb:New w w'):FootIn w' Ac cc L Ag G:=
 ⟨Reads.later h.cols hb,h.fine,h.cap,h.few,Reads.later h.groups hb,h.few2,fun g hg=>⟨Reads.later (h.chunks g hg).1 hb,(h.chunks g hg).2⟩,fun g hg x hx=>⟨Reads.later (h.pages g hg x hx).1 hb,(h.pages g hg x hx).2⟩⟩
def ziq(Ac:Option Addr)(cc:Nat)(L:List za0)(rows:Int)(Ag:Option Addr)(cg:Nat)(G:List GrD):Value:= .agg #[.slice Ac L.length cc,.int .i64 rows,.slice Ag G.length cg]
def za9(L:List za0)(rows:Int)(G:List GrD):FootS:=⟨L,rows,G.map grP⟩
end Go.Hm
namespace Go.Proofs.YtmgfkpnghlmheaaGreat
open Go.RowKit Go.Hm Go.WideShapes Go.ChangeShapes
section
variable{H:Type}{enc:TypeId × Value→H}{W:World}{base:Nat}{v:Value}{d:DataW H}{ps:List MemPlace}
end
end Go.Proofs.YtmgfkpnghlmheaaGreat
namespace Go.Hm
open Go Go.RowKit Go.Maps
section
variable{P:Program}{k e:TypeId}{F:Nat→Value}
open Classical in
noncomputable def qhi(F:Nat→Value)(v:Value):Option (DWn × List MemPlace):=if h:∃m,v=F m then some (zwt (Classical.choose h),[]) else none
theorem qf0(F:Nat→Value)(m:Nat):∃q,qhi F (F m)=some (zwt q,[])∧F q=F m:=by
 have h:∃q,F m=F q:=⟨m,rfl⟩;refine⟨Classical.choose h,?_,(Classical.choose_spec h).symm⟩;unfold qhi;rw[dif_pos h]
theorem qb1{v:Value}{z:DWn × List MemPlace}(h:qhi F v=some z):∃q,v=F q∧z=(zwt q,[]):=by
 unfold qhi at h;split at h
 ·rename_i hx
  injection h with h;exact⟨_,Classical.choose_spec hx,h.symm⟩
 ·cases h
theorem qb2{p q:Nat}(h:zwt p=zwt q):p=q:=by
 simp only[zwt,DataW.lit.injEq,Lit.int.injEq,true_and] at h;omega
def MapF_mapf(P:Program)(k:TypeId)(F:Nat→Value)(w:World)(b n:Nat)(f:Int→Option Nat):Prop:=
 ∃D:DWn,w.ownsMap P k (qhi F) b n D∧IsMap D∧∀x m kl,f x=some m→keyOf P k (.int .i64 x)=some kl→∃q,F q=F m∧∀zd,D.atKey kl zd=zwt q
theorem MapF_mapf.made(w:World):MapF_mapf P k F (w.alloc (.map #[] 0)) w.heap.size 0 fun _=>none:=
 ⟨.map [],World.ownsMap_made _ _ _ _,isMap_empty,fun _ _ _ h _=>by cases h⟩
variable{w:World}{b n:Nat}{f:Int→Option Nat}
theorem MapF_mapf.kept{w':World}{row:Option Nat}(h:MapF_mapf P k F w b n f)(hg:w.grownBy w' row)(hne:some b≠row):MapF_mapf P k F w' b n f:=by
 obtain⟨D,h1,h2,h3⟩:=h;exact⟨D,h1.kept hg hne,h2,h3⟩
theorem MapF_mapf.lt(h:MapF_mapf P k F w b n f):b<w.heap.size:=by
 obtain⟨D,h1,_⟩:=h;exact h1.lt
theorem MapF_mapf.look{t:TypeId}(h:MapF_mapf P k F w b n f)(K:Keyed P k)(ht:P.underlying t=some (.map k e)){z:Value}(hz:(zeroValue e).run P w= .ok z w){x:Int}{m:Nat}(hf:f x=some m)(hkey:∃kl,keyOf P k (.int .i64 x)=some kl):
 (Instr.lookup t (.map (some b)) (.int .i64 x) false).run P w= .ok (F m) w:=by
 obtain⟨D,⟨es,clock,hb,Ft,_,rfl⟩,h2,h3⟩:=h;obtain⟨kl,hkey⟩:=hkey;obtain⟨q,hq,h4⟩:=h3 x m kl hf hkey;rcases fit_look false K ht hz hb Ft hkey with⟨hrun,_,hat⟩|⟨e0,y,_,_,hrun,hRv,hat,_⟩
 ·have h5:=(hat .nil).symm.trans (h4 .nil)
  cases h5
 ·obtain⟨p,hp,rfl⟩:=qb1 hRv
  have h5:zwt p=zwt q:=(hat .nil).symm.trans (h4 .nil);rw[qb2 h5] at hp;rw[hp,hq] at hrun;exact hrun
theorem MapF_mapf.put{t:TypeId}(h:MapF_mapf P k F w b n f)(K:Keyed P k)(ht:P.underlying t=some (.map k e))(hn:n<maxLen){x:Int}(hkey:∃kl,keyOf P k (.int .i64 x)=some kl)(m:Nat):
 ∃w',(Instr.mapUpdate t (.map (some b)) (.int .i64 x) (F m)).run P w= .ok () w'∧MapF_mapf P k F w' b (n+1) (fun y=>if y=x then some m else f y)∧w.grownBy w' (some b):=by
 obtain⟨D,h1,h2,h3⟩:=h;obtain⟨kl,hkey⟩:=hkey;obtain⟨q,hq,hqm⟩:=qf0 F m;obtain⟨w',hrun,ho,hg⟩:=h1.update K ht hn hkey hq;refine⟨w',hrun,⟨_,ho,h2.put _ _,fun y m2 km hd hm=>?_⟩,hg⟩;dsimp only at hd;by_cases he:y=x
 ·subst he
  rw[if_pos rfl] at hd;injection hd with hd;subst hd;rw[hm] at hkey;obtain rfl:=Option.some.inj hkey;exact⟨q,hqm,fun zd=>atKey_put_same h2 (K.key hm) _ _⟩
 ·rw[if_neg he] at hd
  obtain⟨q2,e2,e3⟩:=h3 y m2 km hd hm;refine⟨q2,e2,fun zd=>?_⟩;rw[atKey_put_other,e3];intro hk;subst hk;have:=K.inj hm hkey;injection this with _ this;exact he this
theorem zha{ops:Array Oper}{rest:List Oper}{o:Oper}{a:Act}{Q:Exit→Act→World→Prop}(hg:o.guard=none)(m x:Operand)(t:TypeId)(hop:o.op=Op.lookup t m x false)
 (K:Keyed P k)(ht:P.underlying t=some (.map k e)){z:Value}(hz:(zeroValue e).run P w= .ok z w)(hown:MapF_mapf P k F w b n f){y:Int}{q:Nat}(hf:f y=some q)(hkey:∃kl,keyOf P k (.int .i64 y)=some kl)(hm:a.eval m= .map (some b))(hx:a.eval x= .int .i64 y)
 (h:wpList P ops Q rest (a.put o.dst (F q)) w):wpList P ops Q (o::rest) a w:=by
 refine wpList_plain hg fun K' hK'=>?_
 have hrun:=hown.look K ht hz hf hkey;unfold Oper.wp;simp[execOp,hop,hm,hx,hrun,Result.andThen];exact hK' _ _ h
theorem zfz{ops:Array Oper}{rest:List Oper}{o:Oper}{a:Act}{Q:Exit→Act→World→Prop}(hg:o.guard=none)(m x v:Operand)(t:TypeId)(hop:o.op=Op.insert t m x v)
 (K:Keyed P k)(ht:P.underlying t=some (.map k e))(hown:MapF_mapf P k F w b n f)(hn:n<maxLen){y:Int}(hkey:∃kl,keyOf P k (.int .i64 y)=some kl)(q:Nat)
 (hm:a.eval m= .map (some b))(hx:a.eval x= .int .i64 y)(hv:a.eval v=F q)
 (h:∀w',MapF_mapf P k F w' b (n+1) (fun z=>if z=y then some q else f z)→w.grownBy w' (some b)→wpList P ops Q rest (a.put o.dst undef) w'):wpList P ops Q (o::rest) a w:=by
 refine wpList_plain hg fun K' hK'=>?_
 obtain⟨w',hrun,r1,r2⟩:=hown.put K ht hn hkey q;unfold Oper.wp;simp[execOp,hop,hm,hx,hv,hrun,Result.andThen];exact hK' _ _ (h w' r1 r2)
end
end Go.Hm
namespace Go.Hm
open Go Go.RowKit
theorem zmr{P:Program}{w:World}{ops:Array Oper}{rest:List Oper}{o:Oper}{a:Act}{Q:Exit→Act→World→Prop}{t e tn:TypeId}{z:Value}{bytes:Nat}{kn:IntKind}(E:ElT P t e z 1 bytes)(hgd:o.guard=none)(s x:Operand)
 (ho:o.op= .call {callee:= .builtin .append,args:= #[s,x],argTypes:= #[t,tn]})(htn:P.underlying tn=some (.int kn))(hz1:z.oneCell'=true)(hs:a.eval s= .slice none 0 0)(n:Nat)(hx:a.eval x= .int .i64 (n:Int))(h0:0<n)(hn:n*bytes≤140737488355328)(hm:n≤maxLen)
 (h:∀w' cap,n≤cap→cap≤maxLen→w'.ownsRow w.heap.size e 1 (.slice (some ⟨w.heap.size,0,none⟩) 0 cap) 0 []→Below w.heap.size w w'→wpList P ops Q rest (a.put o.dst (.slice (some ⟨w.heap.size,0,none⟩) n cap)) w'):
 wpList P ops Q (o::rest) a w:=by
 obtain⟨i,hi,hz0,hs1,hb1⟩:=info_parts E.hi
 have hzc:z.cells= #[z]:=by
  revert hz1;unfold Value.oneCell' Value.cells
  cases z<;> simp
 have hsm:n≤9223372036854775807:=by simp only[maxLen] at hm;omega
 refine Lib.wpList_append_run w hgd s x t tn ho _ _ hs hx _ _ (Lib.run_append_nil_zeros w t tn o.type e i z .i64 kn E.ht htn hi hz0 n h0 (by omega) (by omega) (by rw[hb1];omega)) ?_;refine h _ _ (grownCap_ge w n 0 e) (grownCap_le_maxLen w n 0 e hm) ⟨rfl,.inr ⟨w.heap.size,_,_,rfl,Nat.le_refl _,heap_alloc_new w.drew _,Nat.zero_le _,grownCap_le_maxLen w n 0 e hm,?_,by simp⟩⟩ ⟨rfl,rfl,rfl,by simp,fun k hk=>heap_alloc_old w.drew _ hk⟩;have:=grownCap_ge w n 0 e;simp only[Array.size_append,size_zeroCells,hzc];simp;omega
end Go.Hm
namespace Go.Hm
open Go Go.RowKit
abbrev zk2:=Option Addr × Nat × List Nat
def zje(d:zk2):List Value:=[.slice d.1 d.2.2.length d.2.1]
def BytIn(w:World)(d:zk2):Prop:=Reads w w.heap.size 1 d.1 d.2.2.length (za3 .u8 d.2.2)
theorem BytIn.later{w w':World}{d:zk2}(h:BytIn w d)(hb:New w w'):BytIn w' d:=Reads.later h hb
def zc8(D:List zk2):List Nat:=D.flatMap fun d=>d.2.2
theorem z26(D:List zk2)(d:zk2):zc8 (D++[d])=zc8 D++d.2.2:=by simp[zc8]
theorem zro{D:List zk2}{k:Nat}(hk:k<D.length):zc8 (D.take (k+1))=zc8 (D.take k)++(D.getD k (none,0,[])).2.2:=by
 rw[zad _ k (none,0,[]) hk,z26]
theorem zk3(D:List zk2)(k:Nat):(zc8 (D.take k)).length≤(zc8 D).length:=by
 have e:zc8 D=zc8 (D.take k)++zc8 (D.drop k):=by
  unfold zc8;rw[←List.flatMap_append,List.take_append_drop]
 rw[e,List.length_append];omega
theorem z79{w:World}{B:Nat}{A:Option Addr}{n:Nat}{D:List zk2}(h:Reads w B 1 A n (recs zje D)){k:Nat}(hk:k<D.length):
 ∃ad,A=some ad∧ad.block<B∧w.cell? (ad.add k)=some (.slice (D.getD k (none,0,[])).1 (D.getD k (none,0,[])).2.2.length (D.getD k (none,0,[])).2.1):=by
 have hn:n=D.length:=by
  have:=h.1;rw[zar (sz:=1) (fun _=>rfl)] at this;omega
 obtain⟨ad,u,e,hb,hu,hc⟩:=h.at_ (k:=k) (by omega);have:=zn1 (f:=zje) (sz:=1) (fun _=>rfl) D (none,0,[]) k 0 hk (by omega);rw[Nat.mul_one,Nat.add_zero] at this;rw[this] at hu;obtain rfl:=Option.some.inj hu;exact⟨ad,e,hb,hc⟩
end Go.Hm
namespace Go.Proofs.YtmgfkpnghlmheaaGreat
open Go.RowKit Go.Hm
theorem qi1:Tryz.prog.underlying 3=some (.int .i64):=by kernel_rfl
theorem z8a{w:World}{n:Nat}(hn:n≤140737488351232):
 Calls Tryz.prog 66 #[.slice none 0 0,.int .i64 (n:Int)] w (fun e w'=>∃A c,e= .returned (.slice A 0 c)∧w'.ownsRow w.heap.size 5 1 (.slice A 0 c) 0 []∧New w w'):=by
 by_cases h0:n=0
 ·subst h0
  go_enter Tryz.func66,Tryz.ntmps66
  go_wp2_with fail
  go_ret
  exact⟨none,0,rfl,World.ownsRow_nil _ _ _ _,New.refl _⟩
 ·have h1: ¬((n:Int)<0):=by omega
  have h2:(0:Int)<(n:Int):=by omega
  have h3:wrap64 ((n:Int)-0)=(n:Int):=by unfold wrap64;omega
  have h4:wrap64 (n:Int)=(n:Int):=by unfold wrap64;omega
  go_enter Tryz.func66,Tryz.ntmps66
  go_wp2_with (refine zmr elB rfl (.tmp 20) (.tmp 21) rfl qi1 rfl rfl n rfl (by omega) (by omega) (by simp only[maxLen];omega) ?_
               intro w1 cap hc1 hc2 o1 b1)
  go_ret
  exact⟨_,cap,rfl,o1,b1⟩
open Go.RowKit Go.Hm
set_option maxRecDepth 100000 in
theorem zf1{w:World}{A:Option Addr}{n c:Nat}{D:List zk2}(h:Reads w w.heap.size 1 A n (recs zje D))(hD:∀d∈D,BytIn w d)(hn:n≤140737488351232)(hl:(zc8 D).length≤140737488351232):
 Calls Tryz.prog 31 #[.slice A n c] w (zc4 (zc8 D) w):=by
 have hlen:n=D.length:=by
  have:=h.1;rw[zar (sz:=1) (fun _=>rfl)] at this;omega
 subst hlen;have HR:=Hz h;have HD:=Hz hD;clear h hD
 go_enter Tryz.func31,Tryz.ntmps31
 go_wp2_with fail
 go_loopw [3,11] (fun s i wr=>∃k:Nat,k≤D.length∧i= .int .i64 (k:Int)∧s= .int .i64 ((zc8 (D.take k)).length:Int)∧wr=w) (fun _ i _=>D.length-(intOf i).toNat)
 case atStart=>exact⟨0,Nat.zero_le _,rfl,rfl,rfl⟩
 case round=>
  obtain⟨k,hk,rfl,rfl,rfl⟩:=hrel;by_cases hlt:k<D.length
  ·obtain⟨ad,rfl,_,hc⟩:=z79 HR.out hlt
   have e1:=zro hlt;have e2:=zk3 D (k+1);have E1:=Hz e1
   have e3:(zc8 (D.take (k+1))).length=(zc8 (D.take k)).length+(D.getD k (none,0,[])).2.2.length:=by rw[e1,List.length_append]
   clear e1;generalize D.getD k (none,0,[])=d at*;obtain⟨da,dc,dl⟩:=d
   have i1:(k:Int)<(D.length:Int):=by omega
   have i2:wrap64 (((zc8 (D.take k)).length:Int)+(dl.length:Int))=((zc8 (D.take (k+1))).length:Int):=by rw[e3];dsimp only;unfold wrap64;dsimp only at e3;omega
   have i3: ¬(((zc8 (D.take (k+1))).length:Int)<0):=by omega
   have E3:=Hz e3;clear e3;generalize(zc8 (D.take k)).length=s0 at*;generalize hs1:(zc8 (D.take (k+1))).length=s1 at*;have HS:=Hz hs1;clear hs1
   go_wp2_with fail
   go_roundw
   case rel=>exact⟨k+1,by omega,by go_num,by rw[HS.out,i2],by trivial⟩
   case measure=>simp[intOf];omega
  ·obtain rfl:k=D.length:=by omega
   rw[List.take_length];generalize wr=w0 at*;have G:=Hz (z8a (w:=w0) (n:=(zc8 D).length) hl);generalize hs1:(zc8 D).length=s1 at*;have HS:=Hz hs1;clear hs1
   go_wp2_with fail
   refine G.out.mono ?_;rintro e W1 ⟨A1,c1,rfl,o1,b1⟩;clear G
   go_wp2_with fail
   go_loopw [6,27] (fun s i wr=>∃(k:Nat) (A2:Option Addr) (c2:Nat),k≤D.length∧i= .int .i64 (k:Int)∧s= .slice A2 (zc8 (D.take k)).length c2∧Go.Hm.Own wr w0.heap.size 5 (.slice A2 (zc8 (D.take k)).length c2) (za3 .u8 (zc8 (D.take k)))∧New w0 wr) (fun _ i _=>D.length-(intOf i).toNat)
   case atStart=>exact⟨0,A1,c1,Nat.zero_le _,rfl,rfl,o1,b1⟩
   case round=>
    clear o1 b1;obtain⟨k,A2,c2,hk,rfl,rfl,o,b⟩:=hrel;by_cases hlt:k<D.length
    ·obtain⟨ad,rfl,_,hc⟩:=z79 (Reads.later HR.out b) hlt
     have hrd:=BytIn.later (HD.out _ (zc5 (none,0,[]) hlt)) b;have e1:=zro hlt;have e2:=zk3 D (k+1);rw[HS.out] at e2;have E1:=Hz e1
     have e3:(zc8 (D.take (k+1))).length=(zc8 (D.take k)).length+(D.getD k (none,0,[])).2.2.length:=by rw[e1,List.length_append]
     have e4:(zc8 (D.take (k+1))).length≤140737488351232:=by omega
     clear e1;generalize D.getD k (none,0,[])=d at*;obtain⟨da,dc,dl⟩:=d
     have i1:(k:Int)<(D.length:Int):=by omega
     have hrd:Reads _ _ 1 da dl.length (za3 .u8 dl):=hrd;have hsz:=b.size;generalize zc8 (D.take k)=F at*;generalize hF1:zc8 (D.take (k+1))=F1 at*;have HF:=Hz hF1
     have e5:F.length+dl.length≤140737488351232:=by have e6:F1.length=F.length+dl.length:=e3;omega
     clear e3;clear hF1
     go_wp2_with (refine zas elB rfl (.tmp 31) (.tmp 32) rfl (W:=w0) (B:=w0.heap.size) (k:= .u8) (l:=F) (l2:=dl) (c2:=dc) o hrd rfl rfl b (Nat.le_refl _) hsz (by omega) (by simp only[maxLen];omega) ?_
                  intro A3 c3 w3 hq1 hq2 o3 g3 b3 hq3)
     go_roundw
     case rel=>exact⟨k+1,A3,c3,by omega,by go_num,by rw[HF.out,E1.out,List.length_append],by rw[HF.out,E1.out,List.length_append];exact o3,b3⟩
     case measure=>simp[intOf];omega
    ·obtain rfl:k=D.length:=by omega
     rw[List.take_length] at o⊢
     go_wp2_with fail
     go_ret
     exact⟨A2,_,c2,rfl,o,b⟩
open Go.RowKit Go.Hm
theorem zv5{α:Type}{l:List α}{k:Nat}(d:α)(h:k<l.length):l.getD k d∈l:=by
 rw[List.getD_eq_getElem?_getD,List.getElem?_eq_getElem h];exact List.getElem_mem h
set_option maxRecDepth 100000 in
theorem zjm{w:World}{A1:Option Addr}{c1:Nat}{L:List za0}{r:Int}{B1:Option Addr}{k1:Nat}{D1:List zdo}{A2:Option Addr}{c2:Nat}{B2:Option Addr}{k2:Nat}{D2:List zdo}
 (h1:TabIn w A1 c1 L B1 D1)(h2:TabIn w A2 c2 L B2 D2)(hD:D1.map (·.2.2)=D2.map (·.2.2)):
 Calls Tryz.prog 18 #[.agg #[.slice A1 L.length c1,.int .i64 r,.slice B1 D1.length k1],.agg #[.slice A2 L.length c2,.int .i64 r,.slice B2 D2.length k2]] w (zap (.bool true) w):=by
 have hl:D1.length=D2.length:=by have:=congrArg List.length hD;simpa using this
 have hat:∀k,k<D1.length→(D1.getD k (none,0,[])).2.2=(D2.getD k (none,0,[])).2.2:=by
  intro k hk;have:=congrArg (fun l=>l[k]?) hD;simp only[List.getElem?_map,List.getElem?_eq_getElem hk,List.getElem?_eq_getElem (show k<D2.length by omega),Option.map_some,Option.some.injEq] at this;rw[List.getD_eq_getElem?_getD,List.getElem?_eq_getElem hk,List.getD_eq_getElem?_getD,List.getElem?_eq_getElem (show k<D2.length by omega)];exact this
 have HAT:=Hz hat;obtain⟨W1,hW1⟩:∃W,W=w.alloc (.cells #[.slice A1 L.length c1,.int .i64 r,.slice B1 D1.length k1] 25):=⟨_,rfl⟩;obtain⟨W2,hW2⟩:∃W,W=W1.alloc (.cells #[.slice A2 L.length c2,.int .i64 r,.slice B2 D2.length k2] 25):=⟨_,rfl⟩
 have b1:New w W1:=by rw[hW1];exact(Below.refl _ _).alloc (Nat.le_refl _) _
 have b2:New W1 W2:=by rw[hW2];exact(Below.refl _ _).alloc (Nat.le_refl _) _
 have b02:=New.trans b1 b2
 have X1:Blk W2 w.heap.size 25 #[.slice A1 L.length c1,.int .i64 r,.slice B1 D1.length k1]:=by
  have:Blk W1 w.heap.size 25 #[.slice A1 L.length c1,.int .i64 r,.slice B1 D1.length k1]:=by rw[hW1];exact Blk.new _ _ _
  exact this.below b2 this.lt
 have X2:Blk W2 (w.heap.size+1) 25 #[.slice A2 L.length c2,.int .i64 r,.slice B2 D2.length k2]:=by
  have e:w.heap.size+1=W1.heap.size:=by rw[hW1];simp
  rw[e,hW2];exact Blk.new _ _ _
 have T1:=Hz (fun(W:World) (hW:New W2 W)=>h1.later (New.trans b02 hW));have T2:=Hz (fun(W:World) (hW:New W2 W)=>h2.later (New.trans b02 hW));have F:=Hz (fun(W:World) (hW:New W2 W)=>And.intro (zaf (X1.below hW X1.lt)) (zaf (X2.below hW X2.lt)));have HW:=Hz (show(w.alloc (.cells #[.slice A1 L.length c1,.int .i64 r,.slice B1 D1.length k1] 25)).alloc (.cells #[.slice A2 L.length c2,.int .i64 r,.slice B2 D2.length k2] 25)=W2 by rw[hW2,hW1]);obtain⟨⟨x0,x1,x2⟩,y0,y1,y2⟩:=F.out W2 (New.refl _);rw[←HW.out] at x0 x1 x2 y0 y1 y2;have s1:=h1.few;have s2:=h1.few2;have s3:=h2.few2;have P1:=Hz (zv4 (c:=c1) (c2:=c2) (T1.out W2 (New.refl _)).cols (T2.out W2 (New.refl _)).cols s1)
 have e1:((D1.length:Int) != (D2.length:Int))=false:=by simp;omega
 have HL:=Hz hl;clear hW1 hW2 X1 X2 h1 h2 hat hD b1 b2 hl
 go_enter Tryz.func18,Tryz.ntmps18
 go_wp2_with fail
 rw[HW.out];refine P1.out.mono ?_;rintro e w3 ⟨rfl,b3⟩;clear x0 x1 x2 y0 y1 y2 e1
 go_wp2
 go_loopw [5] (fun i wr=>∃k:Nat,i= .int .i64 (k:Int)∧k≤D1.length∧New W2 wr) (fun i _=>D1.length-(intOf i).toNat)
 case atStart=>exact⟨0,rfl,by omega,b3⟩
 case round=>
  obtain⟨k,rfl,hk,hb⟩:=hrel;by_cases hlt:k<D1.length
  ·have hlt2:k<D2.length:=by have:=HL.out;omega
   obtain⟨⟨x0,x1,x2⟩,y0,y1,y2⟩:=F.out wr hb;obtain⟨E1,E2,E3,E4,E5⟩:=(T1.out _ (New.trans hb (New.drew wr))).within _ (zv5 (none,0,[]) hlt);obtain⟨G1,G2,G3,G4,G5⟩:=(T2.out _ (New.trans hb (New.drew wr))).within _ (zv5 (none,0,[]) hlt2);have P:=Hz (z1c (c:=(D1.getD k (none,0,[])).2.1) (c2:=(D2.getD k (none,0,[])).2.1) E1 G1 (by omega) (by omega) (fun x hx=>(E2 x hx).2) (fun x hx=>(G2 x hx).2));rw[HAT.out k hlt,decide_eq_true rfl] at P;obtain⟨ad,ea,hbd,c0⟩:=(T1.out _ hb).data.colD hlt;obtain⟨ad2,ea2,hbd2,d0⟩:=(T2.out _ hb).data.colD hlt2;rw[HAT.out k hlt] at c0;subst ea ea2
   have hbx:(ad.add k).block<wr.drew.heap.size:=by rw[za1];exact hbd
   have hbx2:(ad2.add k).block<wr.drew.heap.size:=by rw[za1];exact hbd2
   have C1:=Hz (zga c0 hbx);have C2:=Hz (zga d0 hbx2);clear E1 E2 E3 E4 E5 G1 G2 G3 G4 G5 c0 d0;generalize(D1.getD k (none,0,[])).1=a1 at*;generalize(D1.getD k (none,0,[])).2.1=m1 at*;generalize(D2.getD k (none,0,[])).1=a2 at*;generalize(D2.getD k (none,0,[])).2.1=m2 at*;generalize(D2.getD k (none,0,[])).2.2=l2 at*
   have i1:(k:Int)<(D1.length:Int):=by omega
   have i2:(k:Int)<(D2.length:Int):=by omega
   go_wp2
   clear x0 x1 x2 y0 y1 y2
   refine zat New [(true,0),(true,1),(true,2),(true,3),(true,4),(true,5),(true,6),(true,7),(true,8),(true,9),(false,10),(true,11)]
    New.refl New.trans (by kernel_rfl) (by kernel_rfl) (by kernel_rfl) (by kernel_rfl) ?_
   have hU:=New.refl wr.drew
   repeat(first
    |(refine za2 rfl rfl (v:=?_) (fun W hW=>?_) ?_;rotate_left;(obtain⟨⟨x0,x1,x2⟩,y0,y1,y2⟩:=F.out W (New.trans hb (New.trans (New.drew wr) (New.trans hU hW)));have g1:=C1.out W (New.trans hU hW);have g2:=C2.out W (New.trans hU hW);go_simp<;> with_reducible rfl);simp only[Act.put,List.setIfInBounds_toArray,List.set_cons_zero,List.set_cons_succ])
    |(refine zba rfl rfl (fun K hK=>?_);go_simp
      refine P.out.mono ?_;rintro e u ⟨rfl,q,rfl⟩;refine hK _ _ (zib _ _) ?_;clear hK
      replace hU:=New.trans hU (zib _ q)))
   refine zc2 ?_;clear C1 C2 P hU
   go_wp2
   go_roundw
   case rel=>exact⟨k+1,by go_num,by omega,New.trans hb (zib _ _)⟩
   case measure=>simp[intOf];omega
  ·obtain rfl:k=D1.length:=by omega
   obtain⟨⟨x0,x1,x2⟩,y0,y1,y2⟩:=F.out wr hb
   go_wp2
   go_ret
   exact⟨rfl,New.trans b02 hb⟩
end Go.Proofs.YtmgfkpnghlmheaaGreat
namespace Go.Hm
def Seen(l:List (Int × Int))(f t:Int)(k:Nat)(first:Int)(last:Nat):Prop:=
 (first= -1∧last=0∧∀i,i<k→ ¬z9i (l.getD i (0,0)) f t)∨
 (∃a:Nat,first=(a:Int)∧a<last∧last≤k∧z9i (l.getD a (0,0)) f t∧z9i (l.getD (last-1) (0,0)) f t∧(∀i,i<a→ ¬z9i (l.getD i (0,0)) f t)∧∀i,last≤i→i<k→ ¬z9i (l.getD i (0,0)) f t)
theorem Seen.zero(l:List (Int × Int))(f t:Int):Seen l f t 0 (-1) 0:= .inl ⟨rfl,rfl,fun i h=>by omega⟩
theorem Seen.no{l:List (Int × Int)}{f t:Int}{k:Nat}{first:Int}{last:Nat}(h:Seen l f t k first last)(hn: ¬z9i (l.getD k (0,0)) f t):Seen l f t (k+1) first last:=by
 rcases h with⟨h1,h2,h3⟩|⟨a,h1,h2,h3,h4,h5,h6,h7⟩
 ·refine .inl ⟨h1,h2,fun i hi=>?_⟩
  by_cases e:i=k
  ·subst e;exact hn
  ·exact h3 i (by omega)
 ·refine .inr ⟨a,h1,h2,by omega,h4,h5,h6,fun i hi hi2=>?_⟩
  by_cases e:i=k
  ·subst e;exact hn
  ·exact h7 i hi (by omega)
theorem Seen.first{l:List (Int × Int)}{f t:Int}{k:Nat}{first:Int}{last:Nat}(h:Seen l f t k first last)(hf:first<0)(hy:z9i (l.getD k (0,0)) f t):Seen l f t (k+1) (k:Int) (k+1):=by
 rcases h with⟨h1,h2,h3⟩|⟨a,h1,_⟩
 ·exact .inr ⟨k,rfl,by omega,by omega,hy,by simpa using hy,h3,fun i hi hi2=>by omega⟩
 ·omega
theorem Seen.more{l:List (Int × Int)}{f t:Int}{k:Nat}{first:Int}{last:Nat}(h:Seen l f t k first last)(hf: ¬first<0)(hy:z9i (l.getD k (0,0)) f t):Seen l f t (k+1) first (k+1):=by
 rcases h with⟨h1,h2,h3⟩|⟨a,h1,h2,h3,h4,h5,h6,h7⟩
 ·omega
 ·exact .inr ⟨a,h1,by omega,by omega,h4,by simpa using hy,h6,fun i hi hi2=>by omega⟩
end Go.Hm
namespace Go.Proofs.YtmgfkpnghlmheaaGreat
open Go.RowKit Go.Hm
end Go.Proofs.YtmgfkpnghlmheaaGreat
