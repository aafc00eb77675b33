/- Merged. -/
import Derived.Test.YtbahbnbpmfgimaaGreatDoorBun19
import Derived.Test.YtbahbnbpmfgimaaGreatDoorBun21
set_option maxHeartbeats 2000000
namespace Go.Hm
open Go Go.RowKit
theorem RowsAt.at_{w:World}{A:Option Addr}{n c:Nat}{D:List zdd}(h:RowsAt w A n c D){k:Nat}(hk:k<D.length):
 ∃ad,A=some ad/\ad.block<w.heap.size/\w.cell? (ad.add k)=some (.slice (D.getD k (none,0,[])).1 (D.getD k (none,0,[])).2.2.length (D.getD k (none,0,[])).2.1):=by
 obtain⟨ad,u,e,hb,hu,hc⟩:=h.row.at_ (k:=k) (by rw[h.len];exact hk);have:=zn9 (f:=zfo) (sz:=1) (fun _=>rfl) D (none,0,[]) k 0 hk (by omega);rw[Nat.mul_one,Nat.add_zero] at this;rw[this] at hu;obtain rfl:=Option.some.inj hu;exact⟨ad,e,hb,hc⟩
def zhq(L:List (List Nat)):Nat:=(L.map List.length).sum
theorem z5l(L:List (List Nat))(p:List Nat):zhq (L++[p])=zhq L+p.length:=by simp[zhq]
theorem zmv(L:List (List Nat))(k:Nat):zhq (L.take k)<=zhq L:=by
 have e:zhq L=zhq (L.take k)+zhq (L.drop k):=by unfold zhq;rw[<-List.sum_append,<-List.map_append,List.take_append_drop]
 omega
theorem zuf{L:List (List Nat)}{k:Nat}(hk:k<L.length):zhq (L.take (k+1))=zhq (L.take k)+(L.getD k []).length:=by rw[zac _ k [] hk,z5l]
theorem zfp{L:List (List Nat)}{k:Nat}(hk:k<L.length):L.getD k []∈L:=by rw[List.getD_eq_getElem?_getD,List.getElem?_eq_getElem hk];exact List.getElem_mem hk
end Go.Hm
namespace Go.Proofs.Y
open Go.RowKit Go.Hm
end Go.Proofs.Y
namespace Go.Hm
open Go Go.RowKit Go.Maps
abbrev DW:=DataW Unit
def zij(p:Int × Int):Value:= .agg #[.int .i64 p.1,.int .i64 p.2]
def zof(p:Int × Int):DW:= .agg [.lit (.int .i64 p.1),.lit (.int .i64 p.2)]
def qa0:Value->Option (DW × List MemPlace)
 | .agg ⟨[.int .i64 a,.int .i64 b]⟩=>some (zof (a,b),[])
 |_=>none
theorem qa1(p:Int × Int):qa0 (zij p)=some (zof p,[]):=rfl
theorem z5m{v:Value}{z:DW × List MemPlace}(h:qa0 v=some z):∃p,v=zij p/\z=(zof p,[]):=by
 unfold qa0 at h;split at h
 ·rename_i a b
  exact⟨(a,b),rfl,(Option.some.inj h).symm⟩
 ·cases h
theorem z5n{p q:Int × Int}(h:zof p=zof q):p=q:=by simp only[zof,DataW.agg.injEq,List.cons.injEq,DataW.lit.injEq,Lit.int.injEq,true_and,and_true] at h;exact Prod.ext h.1 h.2
def zj1(l:List Int):Value:= .agg (za0 .u8 l).toArray
theorem qa2{l m:List Int}(h:zj1 l=zj1 m):l=m:=by simp only[zj1,Value.agg.injEq,Array.mk.injEq,za0] at h;exact(List.map_inj_right (f:=Value.int .u8) (by simp)).1 h
def qhx(l:List Int):Prop:=l.length=32/\ ∀x∈l,0<=x/\x<256
theorem z5o{α β:Type}{f:α->Option β}{g:α->β}{L:List α}(h:∀x∈L,f x=some (g x)):L.mapM f=some (L.map g):=by
 induction L with
 |nil=>rfl
 |cons x L ih=>rw[List.mapM_cons,h x (by simp),ih fun y hy=>h y (by simp[hy])];rfl
section
variable{P:Program}{k e u:TypeId}
theorem qfu(A:WideMaps.ArrKey P k u 32)(hu:P.underlying u=some (.int .u8))(hc:P.cellsOf u=1)(hk:P.cellsOf k=32)(hsz:∃m,P.types.size=m+1){l:List Int}(h:qhx l):∃kl,keyOf P k (zj1 l)=some kl:=by
 have hT:=A.keyType hsz;obtain⟨m,hm⟩:=hsz;have hlen:(za0 .u8 l).length=32:=by simp[za0,h.1]
 have hf:(zj1 l).formed P k=true:=by simp[zj1,Value.formed,A.hu,hk,hlen]
 have hl:P.keyLits (P.types.size+1) k (zj1 l).cells.toList=some ((List.range 32).map fun i=>[Lit.int .u8 (l.getD i 0)]).flatten:=by
  have hcs:(zj1 l).cells.toList=za0 .u8 l:=by simp[zj1,Value.cells]
  rw[hcs,hm];unfold Program.keyLits;simp only[A.hu,hlen,hk,if_true];rw[z5o (g:=fun i=>[Lit.int .u8 (l.getD i 0)])]
  ·rfl
  ·intro i hi
   have hi:=List.mem_range.1 hi;have hil:i<l.length:=by rw[h.1];exact hi
   rw[hc,Nat.mul_one];have h1:((za0 .u8 l).drop i).take 1=[.int .u8 (l.getD i 0)]:=by rw[List.drop_eq_getElem_cons (by omega)];simp[za0,List.getD_eq_getElem?_getD,hil]
   have hx:=h.2 (l.getD i 0) (by rw[List.getD_eq_getElem?_getD,List.getElem?_eq_getElem hil];exact List.getElem_mem _);rw[h1];generalize l.getD i 0=x at*;have hw:(Lit.int .u8 x).wf=true:=by simp[Lit.wf,IntKind.min,IntKind.max,IntKind.signed,IntKind.bits];omega
   unfold Program.keyLits;simp[hu,hw]
 unfold keyOf;rw[A.hu];simp only[hT,hf,hl];exact⟨_,rfl⟩
def MapF(P:Program)(k:TypeId)(w:World)(b n:Nat)(f:List Int->Option (Int × Int)):Prop:=
 ∃D:DW,w.ownsMap P k qa0 b n D/\IsMap D/\ ∀l kl,keyOf P k (zj1 l)=some kl-> ∀zd,D.atKey kl zd=((f l).map zof).getD zd
theorem MapF.made(w:World):MapF P k (w.alloc (.map #[] 0)) w.heap.size 0 fun _=>none:=
 ⟨.map [],World.ownsMap_made _ _ _ _,isMap_empty,fun _ _ _ _=>rfl⟩
variable{w:World}{b n:Nat}{f:List Int->Option (Int × Int)}
theorem MapF.kept{w':World}{row:Option Nat}(h:MapF P k w b n f)(hg:w.grownBy w' row)(hne:some b≠row):MapF P k w' b n f:=by obtain⟨D,h1,h2,h3⟩:=h;exact⟨D,h1.kept hg hne,h2,h3⟩
theorem MapF.lt(h:MapF P k w b n f):b<w.heap.size:=by obtain⟨D,h1,_⟩:=h;exact h1.lt
theorem MapF.look{t:TypeId}(h:MapF P k w b n f)(K:Keyed P k)(ht:P.underlying t=some (.map k e))(hz:(zeroValue e).run P w= .ok (zij (0,0)) w){l:List Int}(hkey:∃kl,keyOf P k (zj1 l)=some kl):
 (Instr.lookup t (.map (some b)) (zj1 l) true).run P w= .ok (.tuple #[zij ((f l).getD (0,0)),.bool (f l).isSome]) w:=by
 obtain⟨D,⟨es,clock,hb,F,_,rfl⟩,h2,h3⟩:=h;obtain⟨kl,hkey⟩:=hkey;have h4:=h3 l kl hkey;rcases fit_look true K ht hz hb F hkey with⟨hrun,_,hat⟩|⟨e0,y,_,_,hrun,hRv,hat,_⟩
 ·cases hf:f l with
  |none=>exact hrun
  |some p=>
   rw[hf] at h4;have h5:=(hat .nil).symm.trans (h4 .nil);cases h5
 ·obtain⟨p,hp,rfl⟩:=z5m hRv
  rw[hp] at hrun;cases hf:f l with
  |none=>
   rw[hf] at h4;have h5:=(hat .nil).symm.trans (h4 .nil);cases h5
  |some q=>
   rw[hf] at h4;have h5:zof p=zof q:=(hat .nil).symm.trans (h4 .nil);rw[z5n h5] at hrun;exact hrun
theorem MapF.put{t:TypeId}(h:MapF P k w b n f)(K:Keyed P k)(ht:P.underlying t=some (.map k e))(hn:n<maxLen){l:List Int}(hkey:∃kl,keyOf P k (zj1 l)=some kl)(p:Int × Int):
 ∃w',(Instr.mapUpdate t (.map (some b)) (zj1 l) (zij p)).run P w= .ok () w'/\MapF P k w' b (n+1) (fun m=>if m=l then some p else f m)/\w.grownBy w' (some b):=by
 obtain⟨D,h1,h2,h3⟩:=h;obtain⟨kl,hkey⟩:=hkey;obtain⟨w',hrun,ho,hg⟩:=h1.update K ht hn hkey (qa1 p);refine⟨w',hrun,⟨_,ho,h2.put _ _,fun m km hm zd=>?_⟩,hg⟩;by_cases he:m=l
 ·subst he
  rw[hm] at hkey;obtain rfl:=Option.some.inj hkey;show _=((if m=m then some p else f m).map zof).getD zd;rw[if_pos rfl,atKey_put_same h2 (K.key hm)];rfl
 ·show _=((if m=l then some p else f m).map zof).getD zd
  rw[if_neg he,atKey_put_other,h3 m km hm];intro hk;subst hk;exact he (qa2 (K.inj hm hkey))
theorem zc7{ops:Array Oper}{rest:List Oper}{o:Oper}{a:Act}{Q:Exit->Act->World->Prop}(hg:o.guard=none)(m x:Operand)(t:TypeId)(hop:o.op=Op.lookup t m x true)
 (K:Keyed P k)(ht:P.underlying t=some (.map k e))(hz:(zeroValue e).run P w= .ok (zij (0,0)) w)(hown:MapF P k w b n f){l:List Int}(hkey:∃kl,keyOf P k (zj1 l)=some kl)(hm:a.eval m= .map (some b))(hx:a.eval x=zj1 l)
 (h:wpList P ops Q rest (a.put o.dst (.tuple #[zij ((f l).getD (0,0)),.bool (f l).isSome])) w):wpList P ops Q (o::rest) a w:=by
 refine wpList_plain hg fun K' hK'=>?_
 have hrun:=hown.look K ht hz hkey;unfold Oper.wp;simp[execOp,hop,hm,hx,hrun,Result.andThen];exact hK' _ _ h
theorem zog{ops:Array Oper}{rest:List Oper}{o:Oper}{a:Act}{Q:Exit->Act->World->Prop}(hg:o.guard=none)(m x v:Operand)(t:TypeId)(hop:o.op=Op.mapUpdate t m x v)
 (K:Keyed P k)(ht:P.underlying t=some (.map k e))(hown:MapF P k w b n f)(hn:n<maxLen){l:List Int}(hkey:∃kl,keyOf P k (zj1 l)=some kl)(p:Int × Int)
 (hm:a.eval m= .map (some b))(hx:a.eval x=zj1 l)(hv:a.eval v=zij p)
 (h:∀w',MapF P k w' b (n+1) (fun m=>if m=l then some p else f m)->w.grownBy w' (some b)->wpList P ops Q rest (a.put o.dst undef) w'):wpList P ops Q (o::rest) a w:=by
 refine wpList_plain hg fun K' hK'=>?_
 obtain⟨w',hrun,r1,r2⟩:=hown.put K ht hn hkey p;unfold Oper.wp;simp[execOp,hop,hm,hx,hv,hrun,Result.andThen];exact hK' _ _ (h w' r1 r2)
end
open Go Go.RowKit
def qiq(c:zab):Nat:=if c.1 then 0 else 1
def zey(l:List zab):List Nat:=l.map qiq
def zdy(l:List zab):List zab:=l.filter fun c=> !c.1
theorem zk9(l:List zab):(zey l).length=l.length:=by simp[zey]
theorem z0j(l:List zab):∀x∈zey l,x<2^1:=by intro x hx;obtain⟨c,_,rfl⟩:=List.mem_map.1 hx;unfold qiq;split<;> decide
theorem z22(l:List zab)(k:Nat)(h:k<l.length):zey (l.take (k+1))=zey (l.take k)++[qiq (l.getD k (false,0,[],0,0))]:=by rw[zac l k (false,0,[],0,0) h,zey,List.map_append];rfl
theorem z71(l:List zab)(k:Nat)(h:k<l.length):zdy (l.take (k+1))=zdy (l.take k)++(if(l.getD k (false,0,[],0,0)).1 then [] else [l.getD k (false,0,[],0,0)]):=by
 rw[zac l k (false,0,[],0,0) h,zdy,List.filter_append];congr 1
 generalize l.getD k (false,0,[],0,0)=c;cases hh:c.1<;> simp[hh]
theorem ztg(l:List zab):(zdy l).length<=l.length:=List.length_filter_le _ _
end Go.Hm
namespace Go.Proofs.Y
open Go.RowKit Go.Hm
theorem zvi(l:List zab):wid (zey l)<=1/\ ∀x∈zey l,x<=18446744073709551615:=by
 have hb:∀x∈zey l,x<=18446744073709551615:=fun x hx=>by have:=z0j l x hx;omega
 exact⟨(zhu _ 1 (by omega) hb).2 (z0j l),hb⟩
def zcx(l:List zab):List Nat:=low (pk 1 (zey l)) ((1*(zey l).length+7)/8)
theorem z23{l:List zab}(hl:l.length<=65536):zql (zey l) 1=some (zcx l):=zfv (zey l) 1 (by omega) (by rw[zk9];exact hl) (zvi l).1
end Go.Proofs.Y
namespace Go.Hm
open Go Go.RowKit Go.Maps
section
variable{P:Program}{k e:TypeId}{F:Nat->Value}
open Classical in
noncomputable def qit(F:Nat->Value)(v:Value):Option (DWn × List MemPlace):=if h:∃m,v=F m then some (zxn (Classical.choose h),[]) else none
theorem qgz(F:Nat->Value)(m:Nat):∃q,qit F (F m)=some (zxn q,[])/\F q=F m:=by have h:∃q,F m=F q:=⟨m,rfl⟩;refine⟨Classical.choose h,?_,(Classical.choose_spec h).symm⟩;unfold qit;rw[dif_pos h]
theorem qc8{v:Value}{z:DWn × List MemPlace}(h:qit F v=some z):∃q,v=F q/\z=(zxn q,[]):=by
 unfold qit at h;split at h
 ·rename_i hx
  injection h with h;exact⟨_,Classical.choose_spec hx,h.symm⟩
 ·cases h
theorem qc9{p q:Nat}(h:zxn p=zxn q):p=q:=by simp only[zxn,DataW.lit.injEq,Lit.int.injEq,true_and] at h;omega
def MapF_mapf(P:Program)(k:TypeId)(F:Nat->Value)(w:World)(b n:Nat)(f:Int->Option Nat):Prop:=
 ∃D:DWn,w.ownsMap P k (qit F) b n D/\IsMap D/\ ∀x m kl,f x=some m->keyOf P k (.int .i64 x)=some kl-> ∃q,F q=F m/\ ∀zd,D.atKey kl zd=zxn q
theorem MapF_mapf.made(w:World):MapF_mapf P k F (w.alloc (.map #[] 0)) w.heap.size 0 fun _=>none:=
 ⟨.map [],World.ownsMap_made _ _ _ _,isMap_empty,fun _ _ _ h _=>by cases h⟩
variable{w:World}{b n:Nat}{f:Int->Option Nat}
theorem MapF_mapf.kept{w':World}{row:Option Nat}(h:MapF_mapf P k F w b n f)(hg:w.grownBy w' row)(hne:some b≠row):MapF_mapf P k F w' b n f:=by obtain⟨D,h1,h2,h3⟩:=h;exact⟨D,h1.kept hg hne,h2,h3⟩
theorem MapF_mapf.lt(h:MapF_mapf P k F w b n f):b<w.heap.size:=by obtain⟨D,h1,_⟩:=h;exact h1.lt
theorem MapF_mapf.look{t:TypeId}(h:MapF_mapf P k F w b n f)(K:Keyed P k)(ht:P.underlying t=some (.map k e)){z:Value}(hz:(zeroValue e).run P w= .ok z w){x:Int}{m:Nat}(hf:f x=some m)(hkey:∃kl,keyOf P k (.int .i64 x)=some kl):
 (Instr.lookup t (.map (some b)) (.int .i64 x) false).run P w= .ok (F m) w:=by
 obtain⟨D,⟨es,clock,hb,Ft,_,rfl⟩,h2,h3⟩:=h;obtain⟨kl,hkey⟩:=hkey;obtain⟨q,hq,h4⟩:=h3 x m kl hf hkey;rcases fit_look false K ht hz hb Ft hkey with⟨hrun,_,hat⟩|⟨e0,y,_,_,hrun,hRv,hat,_⟩
 ·have h5:=(hat .nil).symm.trans (h4 .nil)
  cases h5
 ·obtain⟨p,hp,rfl⟩:=qc8 hRv
  have h5:zxn p=zxn q:=(hat .nil).symm.trans (h4 .nil);rw[qc9 h5] at hp;rw[hp,hq] at hrun;exact hrun
theorem MapF_mapf.put{t:TypeId}(h:MapF_mapf P k F w b n f)(K:Keyed P k)(ht:P.underlying t=some (.map k e))(hn:n<maxLen){x:Int}(hkey:∃kl,keyOf P k (.int .i64 x)=some kl)(m:Nat):
 ∃w',(Instr.mapUpdate t (.map (some b)) (.int .i64 x) (F m)).run P w= .ok () w'/\MapF_mapf P k F w' b (n+1) (fun y=>if y=x then some m else f y)/\w.grownBy w' (some b):=by
 obtain⟨D,h1,h2,h3⟩:=h;obtain⟨kl,hkey⟩:=hkey;obtain⟨q,hq,hqm⟩:=qgz F m;obtain⟨w',hrun,ho,hg⟩:=h1.update K ht hn hkey hq;refine⟨w',hrun,⟨_,ho,h2.put _ _,fun y m2 km hd hm=>?_⟩,hg⟩;dsimp only at hd;by_cases he:y=x
 ·subst he
  rw[if_pos rfl] at hd;injection hd with hd;subst hd;rw[hm] at hkey;obtain rfl:=Option.some.inj hkey;exact⟨q,hqm,fun zd=>atKey_put_same h2 (K.key hm) _ _⟩
 ·rw[if_neg he] at hd
  obtain⟨q2,e2,e3⟩:=h3 y m2 km hd hm;refine⟨q2,e2,fun zd=>?_⟩;rw[atKey_put_other,e3];intro hk;subst hk;have:=K.inj hm hkey;injection this with _ this;exact he this
theorem zmj{ops:Array Oper}{rest:List Oper}{o:Oper}{a:Act}{Q:Exit->Act->World->Prop}(hg:o.guard=none)(m x:Operand)(t:TypeId)(hop:o.op=Op.lookup t m x false)
 (K:Keyed P k)(ht:P.underlying t=some (.map k e)){z:Value}(hz:(zeroValue e).run P w= .ok z w)(hown:MapF_mapf P k F w b n f){y:Int}{q:Nat}(hf:f y=some q)(hkey:∃kl,keyOf P k (.int .i64 y)=some kl)(hm:a.eval m= .map (some b))(hx:a.eval x= .int .i64 y)
 (h:wpList P ops Q rest (a.put o.dst (F q)) w):wpList P ops Q (o::rest) a w:=by
 refine wpList_plain hg fun K' hK'=>?_
 have hrun:=hown.look K ht hz hf hkey;unfold Oper.wp;simp[execOp,hop,hm,hx,hrun,Result.andThen];exact hK' _ _ h
theorem zge{ops:Array Oper}{rest:List Oper}{o:Oper}{a:Act}{Q:Exit->Act->World->Prop}(hg:o.guard=none)(m x v:Operand)(t:TypeId)(hop:o.op=Op.insert t m x v)
 (K:Keyed P k)(ht:P.underlying t=some (.map k e))(hown:MapF_mapf P k F w b n f)(hn:n<maxLen){y:Int}(hkey:∃kl,keyOf P k (.int .i64 y)=some kl)(q:Nat)
 (hm:a.eval m= .map (some b))(hx:a.eval x= .int .i64 y)(hv:a.eval v=F q)
 (h:∀w',MapF_mapf P k F w' b (n+1) (fun z=>if z=y then some q else f z)->w.grownBy w' (some b)->wpList P ops Q rest (a.put o.dst undef) w'):wpList P ops Q (o::rest) a w:=by
 refine wpList_plain hg fun K' hK'=>?_
 obtain⟨w',hrun,r1,r2⟩:=hown.put K ht hn hkey q;unfold Oper.wp;simp[execOp,hop,hm,hx,hv,hrun,Result.andThen];exact hK' _ _ (h w' r1 r2)
end
end Go.Hm
namespace Go.Proofs.Y
open Go.RowKit Go.Hm
theorem qg3:ElT Tryz.prog 76 75 (.agg #[.bool false,.int .i64 0,.string ⟨#[]⟩,.int .i64 0,.int .i64 0]) 5 48:=⟨by kernel_rfl,by kernel_rfl,rfl,by omega⟩
def z82(l:List zab)(w:World)(e:Ending)(w':World):Prop:=∃A n c A2 n2 c2,e= .returned (.tuple #[.slice A n c,.slice A2 n2 c2])/\
 Own w' w.heap.size 5 (.slice A n c) (zao .u8 (zcx l))/\w'.ownsRow w.heap.size 75 5 (.slice A2 n2 c2) n2 (recs zay (zdy l))/\New w w'
theorem qg4(a:List Nat)(x y:Nat)(b:List Nat){k:Nat}(h:a.length=k):(a++x::b).set k y=(a++[y])++b:=by subst h;rw[List.set_append_right _ _ (Nat.le_refl _)];simp
set_option maxRecDepth 100000 in
theorem zqt{w:World}{A:Option Addr}{n c:Nat}{l:List zab}(h:Reads w w.heap.size 5 A n (recs zay l))(hn:n<=65536):
 Calls Tryz.prog 126 #[.slice A n c] w (z82 l w):=by
 obtain rfl:=h.lenCell;have SP:=Hz (z23 hn);have MW:=Hz (zvi l);go_enter Tryz.func126,Tryz.ntmps126
 go_wp2_with (refine zb6 elW rfl (.tmp 11) (.tmp 11) rfl (W:=w) (B:=w.heap.size) l.length l.length rfl rfl rfl rfl (Nat.le_refl _) (Below.refl _ _) (Nat.le_refl _) rfl (by omega) (by simp only[maxLen];omega) ?_
              intro w1 o1 _ b1 s1)
 go_loopw [5,15] (fun a i wr=>∃(k:Nat) (A2:Option Addr) (n2 c2:Nat),i= .int .i64 (k:Int)/\k<=l.length/\a= .slice A2 n2 c2/\n2<=k/\Own wr w.heap.size 138 (.slice (some ⟨w.heap.size,0,none⟩) l.length l.length) (zao .u64 (zey (l.take k)++List.replicate (l.length-k) 0))/\
  wr.ownsRow w.heap.size 75 5 (.slice A2 n2 c2) n2 (recs zay (zdy (l.take k)))/\Below w.heap.size w wr) (fun _ i _=>l.length-(intOf i).toNat)
 case atStart=>exact⟨0,none,0,0,rfl,by omega,rfl,by omega,by simpa[zey,zby] using o1,by simpa[zdy,recs] using(zdo (w:=w1) (sz:=5)),b1⟩
 case round=>
  clear o1 b1 s1;obtain⟨k,A2,n2,c2,rfl,hk,rfl,hnk,o,u,b⟩:=hrel;by_cases hlt:k<l.length
  ·obtain⟨ad,rfl,_,d0,d1,d2,d3,d4⟩:=(Reads.later h b).cell5 hlt
   have MS:=Hz (z22 l k hlt);have VS:=Hz (z71 l k hlt);generalize l.getD k (false,0,[],0,0)=x at*;obtain⟨xb,xn,xs,xx,xy⟩:=x;simp only at d0 d1 d2 d3 d4;have hrep:List.replicate (l.length-k) (0:Nat)=0::List.replicate (l.length-(k+1)) 0:=by rw[show l.length-k=(l.length-(k+1))+1 by omega];rfl
   rw[hrep] at o;have hml:(zey (l.take k)).length=k:=by rw[zk9,List.length_take];omega
   have i1:(k:Int)<(l.length:Int):=by omega
   obtain⟨W2,hW2⟩:∃W,W=wr.alloc (.cells #[.bool xb,.int .i64 xn,.string (zad xs),.int .i64 xx,.int .i64 xy] 75):=⟨_,rfl⟩;have b2:New wr W2:=by rw[hW2];exact(Below.refl _ _).alloc (Nat.le_refl _) _
   have B2:Blk W2 wr.heap.size 75 #[.bool xb,.int .i64 xn,.string (zad xs),.int .i64 xx,.int .i64 xy]:=by rw[hW2];exact Blk.new _ _ _
   have o2:=o.later b2;have u2:=za5 u b2;have b02:=zgy b b2 (Nat.le_refl _);obtain⟨p0,p1,p2,p3,p4⟩:=zcq B2;have HW2:=Hz hW2;cases xb with
   |true=>
    have MS:=MS.out;have VS:=VS.out;simp only[qiq,if_true,List.append_nil] at MS VS;have MS:=Hz MS;have VS:=Hz VS;rw[hW2] at p0 p1 p2 p3 p4;clear hW2 o u b;go_wp2_with fail
    rw[<-HW2.out];go_roundw
    case rel=>exact⟨k+1,_,_,_,by go_num,by omega,rfl,by omega,by rw[MS.out,List.append_assoc];exact o2,by rw[VS.out];exact u2,b02⟩
    case measure=>simp[intOf];omega
   |false=>
    have MS:=MS.out;have VS:=VS.out;simp only[qiq,Bool.false_eq_true,if_false] at MS VS;have MS:=Hz MS;have VS:=Hz VS;obtain⟨hg0,hgl,hc,hf,hset⟩:=o2.num0 (i:=k) hlt;have o3:=hset 1;rw[qg4 _ _ _ _ hml] at o3;have hc0:(zey (l.take k)++0::List.replicate (l.length-(k+1)) 0).getD k 0=0:=by rw[List.getD_eq_getElem?_getD,List.getElem?_append_right (by omega),hml,Nat.sub_self];rfl
    rw[hc0] at hc;rw[hW2] at p0 p1 p2 p3 p4 hc hf;obtain⟨W3,hW3⟩:∃W,W=W2.setCell ⟨w.heap.size,k,none⟩ (.int .u64 1):=⟨_,rfl⟩;have g3:W2.grownBy W3 (some w.heap.size):=by rw[hW3];exact⟨rfl,rfl,rfl,by simp[World.setCell],fun k _ hk=>Below.heap_setCell _ _ _ _ (by simpa using hk)⟩
    obtain⟨cs3,M3⟩:=o2.row w.heap.size rfl;have u3:=World.ownsRow.kept u2 g3 (.inr (zas u2 M3 (by decide)));have B3:=B2.grown g3 (by have:=Blk.ne_ B2 M3 (by decide);simpa using this);have b03:Below w.heap.size w W3:=b02.grown g3 b02.size (fun k hk=>by injection hk with hk;omega);have o3:Own W3 w.heap.size 138 (.slice (some ⟨w.heap.size,0,none⟩) l.length l.length) (zao .u64 (zey (l.take k)++[1]++List.replicate (l.length-(k+1)) 0)):=by rw[hW3];exact o3
    have HW3:=Hz (show W3=(wr.alloc (.cells #[.bool false,.int .i64 xn,.string (zad xs),.int .i64 xx,.int .i64 xy] 75)).setCell ⟨w.heap.size,k,none⟩ (.int .u64 1) by rw[hW3,hW2]);obtain⟨q0,q1,q2,q3,q4⟩:=zcq B3;rw[HW3.out] at q0 q1 q2 q3 q4;obtain⟨cs4,M4⟩:=o3.row w.heap.size rfl;have z3:=b03.size;have HZ3:=Hz (show wr.heap.size+1=W3.heap.size by rw[hW3,hW2];simp[World.setCell]);clear hW2 hW3 hset hc0 o u b o2 u2 B2 b02 M3 g3;go_wp2_with (first
     |(rw[<-HW3.out]
       refine zdp qg3 rfl (.tmp 26) (.tmp 28) rfl (W:=w) (B:=w.heap.size) (base:=w.heap.size) (n:=n2) u3 rfl (by rw[<-HZ3.out];rfl) b03 (Nat.le_refl _) z3 rfl (by simp[Value.oneCell']) (by omega) (by simp only[maxLen];omega) ?_;intro A5 c5 w5 _ _ u5 g5 b5 _ _))
    go_roundw
    case rel=>exact⟨k+1,_,_,_,by go_num,by omega,rfl,by omega,by rw[MS.out];exact o3.kept g5 (.inr (fun e=>zas u3 M4 (by decide) e.symm)),by rw[VS.out,zbb];exact u5,b5⟩
    case measure=>simp[intOf];omega
  ·obtain rfl:k=l.length:=by omega
   rw[Nat.sub_self,List.replicate_zero,List.append_nil,List.take_length] at o;rw[List.take_length] at u;have P:=znj (c:=l.length) 1 o.reads MW.out.2 (by omega) (by omega) (by omega);rw[SP.out] at P;have P:=Hz P;clear hlt o;go_wp2_with fail
   refine P.out.mono ?_;rintro e w5 ⟨A5,n5,c5,rfl,o5,b5⟩;go_wp2
   go_ret2
   have z:=b.size;exact⟨_,_,_,_,_,_,rfl,o5.base_le z,za5 u b5,zgy b b5 (Nat.le_refl _)⟩
open Go.RowKit Go.Hm
def qg5(c:zbc)(g:Nat)(S:St)(w:World)(e:Ending)(w':World):Prop:=e= .returned (.agg #[.string (zad c.1),.int .i64 c.2.1,.bool c.2.2])/\CurS w' g S/\w.grownBy w' (some g)
set_option maxRecDepth 100000 in
theorem z33{w:World}{g:Nat}{S:St}(h:CurS w g S):Calls Tryz.prog 115 #[.pointer (some ⟨g,0,none⟩)] w (qg5 (ztn S).1 g (ztn S).2 w):=by
 have hok:=h.ok;have hg:=h.lt;obtain⟨W0,hW0⟩:∃W,W=w.alloc (.cells #[.string ⟨#[]⟩,.int .i64 0,.bool false] 71):=⟨_,rfl⟩;have b0:New w W0:=by rw[hW0];exact(Below.refl _ _).alloc (Nat.le_refl _) _
 have G0:w.grownBy W0 (some g):=by rw[hW0];exact World.grownBy_alloc _ _ _
 have B0:Blk W0 w.heap.size 71 #[.string ⟨#[]⟩,.int .i64 0,.bool false]:=by rw[hW0];exact Blk.new _ _ _
 have h0:=h.below b0;have hne:w.heap.size≠g:=by omega
 have P1:=Hz (zdw (m:=100) h0 (by omega) (by omega));have hl:=zdg (m:=100) S (by omega) hok;have ok1:=zbz (m:=100) hok;rw[hW0] at P1;have HW:=Hz hW0;clear h h0 hok hW0 b0;generalize hS:ztn S=R;unfold ztn at hS;generalize lenS 100 S=R1 at*;obtain⟨n1,S1⟩:=R1;simp only at hl ok1 hS P1;have HS:=Hz hS;clear hS;go_enter Tryz.func115,Tryz.ntmps115
 go_wp2_with fail
 refine P1.out.mono ?_;rintro e w1 ⟨rfl,C1,G1⟩;rw[<-HW.out] at G1;have B1:=B0.grown G1 (by simpa using hne);have G01:=G0.trans G1;have P2:=Hz (zo3 (n:=(n1:Int)) C1 (by omega) (by omega));obtain⟨ok2,l2⟩:=zi8 (n:=(n1:Int)) ok1;replace HS:=HS.out;generalize zer (n1:Int) S1=R2 at*;obtain⟨s2,S2⟩:=R2;simp only at ok2 l2 HS P2;replace HS:=Hz HS;clear P1 B0 G0 G1 C1;go_wp2_with fail
 refine P2.out.mono ?_;rintro e w2 ⟨A2,n2,c2,rfl,e2,k2,C2,G2⟩;have B2:=B1.grown G2 (by simpa using hne);have G02:=G01.trans G2;have X2:=zi1 (c:=c2) k2.reads;have P3:=Hz (ziq C2);have ok3:=zsr ok2;have lt3:=znk ok2;replace HS:=HS.out;generalize zcc S2=R3 at*;obtain⟨t3,S3⟩:=R3;simp only at ok3 lt3 HS P3;replace HS:=Hz HS;clear P2 B1 G01 G2 C2 k2 e2;go_wp2_with fail
 refine P3.out.mono ?_;rintro e w3 ⟨rfl,C3,G3⟩;have B3:=B2.grown G3 (by simpa using hne);have G03:=G02.trans G3;have P4:=Hz (ziq C3);have lt4:=znk ok3;replace HS:=HS.out;generalize zcc S3=R4 at*;obtain⟨u4,S4⟩:=R4;simp only at lt4 HS P4;replace HS:=Hz HS;clear P3 B2 G02 G3 C3 X2;go_wp2_with fail
 refine P4.out.mono ?_;rintro e w4 ⟨rfl,C4,G4⟩;have B4:=B3.grown G4 (by simpa using hne);have G04:=G03.trans G4;clear P4 B3 G03 G4;by_cases hu:1<u4
 ·have P5:=Hz (zo2 C4)
  go_wp2_with fail
  refine P5.out.mono ?_;rintro e w5 ⟨rfl,C5,G5⟩;have B5:=B4.grown G5 (by simpa using hne);have G05:=G04.trans G5;clear P5 B4 G04 G5 C4;obtain⟨p0,p1,p2⟩:=zan B5;have f0:=B5.frozen 0;have f1:=B5.frozen 1;have f2:=B5.frozen 2;have HB:=Hz B5;clear B5;go_wp2
  obtain⟨W3,hW3,R10,G10,K10⟩:=z5u HB.out (a:= .string (zad s2)) (b:= .int .i64 (t3:Int)) (c:= .bool ((u4:Int)==1)) G05 (Nat.le_refl _);rw[<-hW3];have s0:=R10.cell 0;have s1:=R10.cell 1;have s2':=R10.cell 2;simp at s0 s1 s2';have CW:CurS W3 g none:=by rw[hW3];exact((C5.keep zb5 HB.out (by omega) (by decide)).keep zb5 (HB.out.set_ 0 _) (by omega) (by decide)).keep zb5 ((HB.out.set_ 0 _).set_ 1 _) (by omega) (by decide)
  refine bodyPost_ret (v:= .agg #[.string (zad s2),.int .i64 (t3:Int),.bool ((u4:Int)==1)]) (by simp[results,Tryz.results115,go_sem,s0,s1,s2']) rfl ⟨?_,?_,G10⟩
  ·rw[<-HS.out,show((u4:Int)==1)=decide (u4=1) by rw[Bool.eq_iff_iff];simp;omega]
  ·rw[<-HS.out,if_pos hu]
   exact CW
 ·
  obtain⟨p0,p1,p2⟩:=zan B4;have f0:=B4.frozen 0;have f1:=B4.frozen 1;have f2:=B4.frozen 2;have HB:=Hz B4;clear B4;go_wp2
  obtain⟨W3,hW3,R10,G10,K10⟩:=z5u HB.out (a:= .string (zad s2)) (b:= .int .i64 (t3:Int)) (c:= .bool ((u4:Int)==1)) G04 (Nat.le_refl _);rw[<-hW3];have s0:=R10.cell 0;have s1:=R10.cell 1;have s2':=R10.cell 2;simp at s0 s1 s2';have CW:CurS W3 g S4:=by rw[hW3];exact((C4.keep zb5 HB.out (by omega) (by decide)).keep zb5 (HB.out.set_ 0 _) (by omega) (by decide)).keep zb5 ((HB.out.set_ 0 _).set_ 1 _) (by omega) (by decide)
  refine bodyPost_ret (v:= .agg #[.string (zad s2),.int .i64 (t3:Int),.bool ((u4:Int)==1)]) (by simp[results,Tryz.results115,go_sem,s0,s1,s2']) rfl ⟨?_,?_,G10⟩
  ·rw[<-HS.out,show((u4:Int)==1)=decide (u4=1) by rw[Bool.eq_iff_iff];simp;omega]
  ·rw[<-HS.out,if_neg hu]
   exact CW
theorem zi0{w w1 w2:World}{row:Option Nat}(h:w.grownBy w1 row)(h2:w1.grownBy w2 row):w.grownBy w2 row:=h.trans h2
def qdq(l:List zbc)(g:Nat)(S:St)(w:World)(e:Ending)(w':World):Prop:=∃A n c,e= .returned (.slice A n c)/\n<=c/\c<=maxLen/\w'.ownsRow w.heap.size 71 3 (.slice A n c) n (recs zls l)/\CurS w' g S/\w.grownBy w' (some g)
theorem elC:ElT Tryz.prog 53 71 (.agg #[.string ⟨#[]⟩,.int .i64 0,.bool false]) 3 32:=⟨by kernel_rfl,by kernel_rfl,rfl,by omega⟩
set_option maxRecDepth 100000 in
theorem qdr{w:World}{g:Nat}{S:St}(h:CurS w g S):Calls Tryz.prog 96 #[.pointer (some ⟨g,0,none⟩)] w (qdq (getC S).1 g (getC S).2 w):=by
 have hok:=h.ok;have hg:=h.lt;have P1:=Hz (zdw (m:=64) h (by omega) (by omega));have hl:=zdg (m:=64) S (by omega) hok;have ok1:=zbz (m:=64) hok;have G1:=Hz (show getC S=_ from rfl);generalize hR:getC S=R at*;unfold getC at hR;generalize lenS 64 S=R1 at*;obtain⟨n,S1⟩:=R1;simp only at hl ok1 hR P1;have HR:=Hz hR;clear hR G1 h hok;go_enter Tryz.func96,Tryz.ntmps96
 go_wp2_with fail
 refine P1.out.mono ?_;rintro e w1 ⟨rfl,C1,G1⟩;have z1:=G1.size;clear P1;have g1:g<w1.heap.size:=C1.lt
 go_wp2_with (refine z1v elC rfl (.tmp 8) (.tmp 8) rfl (W:=w1) (B:=w1.heap.size) n rfl rfl rfl rfl (Below.refl _ w1) (Nat.le_refl _) (by omega) (by simp only[maxLen];omega) ?_
              intro w2 o2 g2 b2 s2)
 have C2:=C1.below b2;have G2:w.grownBy w2 (some g):=zht G1 b2;obtain⟨gm,hgm⟩:∃gm,gm=w1.heap.size:=⟨_,rfl⟩;rw[<-hgm] at o2⊢;have hgm1:w.heap.size<=gm/\g≠gm:=by omega
 have o2:=zeq o2 hgm1.1;clear hgm C1 G1 z1 g2 b2 s2 g1;go_loopw [12] (fun i wr=>∃k:Nat,i= .int .i64 (k:Int)/\k<=n/\CurS wr g (zel k S1).2/\wr.ownsRow w.heap.size 71 3 (.slice (some ⟨gm,0,none⟩) n n) n (recs zls ((zel k S1).1++List.replicate (n-k) ([],0,false)))/\w.grownBy wr (some g)) (fun i _=>n-(intOf i).toNat)
 case atStart=>exact⟨0,rfl,by omega,C2,by simpa[recs,zel,List.flatMap_replicate,zls,zad] using o2,G2⟩
 case round=>
  obtain⟨k,rfl,hk,C3,o3,G3⟩:=hrel;by_cases hlt:k<n
  ·have P4:=Hz (z33 C3)
   obtain⟨q1,q2⟩:=zrk k S1;have okk:=z0p k ok1;have hlen:=zlk k S1;have fin:=zvt okk;have HQ1:=Hz q1;have HQ2:=Hz q2;clear q1 q2;generalize(zel k S1).1=pre at*;generalize(zel k S1).2=Sk at*;generalize ztn Sk=R4 at*;obtain⟨⟨nm4,t4,u4⟩,S4⟩:=R4;simp only at P4;have hrep:List.replicate (n-k) (([],0,false):zbc)=([],0,false)::List.replicate (n-(k+1)) ([],0,false):=by rw[show n-k=(n-(k+1))+1 by omega];rfl
   rw[hrep,zbb,zid] at o3;have hpl:(recs zls pre).length=k*3:=by rw[zau (sz:=3) (fun _=>rfl),hlen]
   have hiz:(k:Int)<(n:Int):=by omega
   have HO3:=Hz o3;clear o3 C3 hrep;go_wp2_with fail
   refine P4.out.mono ?_;rintro e w4 ⟨rfl,C4,G4⟩;have o4:=World.ownsRow.kept HO3.out G4 (.inr (by simp[Value.ownBlock];exact fun e=>hgm1.2 e.symm));have G04:=zi0 G3 G4;obtain⟨cs,B4⟩:=zw7 o4;have c0:=o4.cellAt (k*3) (by omega);have c1:=o4.cellAt (k*3+1) (by omega);have c2:=o4.cellAt (k*3+2) (by omega);rw[List.getElem?_append_right (by omega),hpl] at c0 c1 c2;simp[zls] at c0 c1 c2;have f0:=o4.frozenAt (k*3);have f1:=o4.frozenAt (k*3+1);have f2:=o4.frozenAt (k*3+2);have HO4:=Hz o4;clear o4 P4 HO3;go_wp2
   obtain⟨W5,hW5,o5,g5⟩:=qa5 (a:= .string (zad nm4)) (b:= .int .i64 t4) (d:= .bool u4) HO4.out hpl;rw[<-hW5];clear hW5;go_roundw
   case rel=>exact⟨k+1,by go_num,by omega,by rw[HQ2.out];exact C4.keep g5 B4 hgm1.2 (by decide),by rw[HQ1.out,List.append_assoc,zbb];exact o5,z5t G04 g5 hgm1.1⟩
   case measure=>simp[intOf];omega
  ·obtain rfl:k=n:=by omega
   rw[Nat.sub_self,List.replicate_zero,List.append_nil] at o3;have hfin:=zrl k ok1;have HR:=HR.out;have hlen:=zlk k S1;generalize zel k S1=R5 at*;obtain⟨L,S5⟩:=R5;simp only at o3 hfin HR hlen C3;subst hlen;have r3:=Reads.of_own o3;have P6:=Hz (znq (c:=L.length) r3 (fun x hx=>⟨(hfin x hx).1,by have:=(hfin x hx).2;omega⟩) (Nat.le_refl _) (by omega));have P5:=Hz (qei C3);rcases S5 with _|l5
   ·rw[if_pos (.inl rfl)] at HR
    subst HR;go_wp2_with fail
    refine P5.out.mono ?_;rintro e w5 ⟨rfl,rfl⟩;have P7:=Hz (zo2 C3);go_wp2_with fail
    refine P7.out.mono ?_;rintro e w7 ⟨rfl,C7,G7⟩;go_wp2
    go_ret
    exact⟨none,0,0,rfl,by omega,by simp[maxLen],zdo,C7,zi0 G3 G7⟩
   ·by_cases hck:zcy L=0
    ·rw[if_neg (by simp[hck])] at HR
     subst HR;rw[hck] at P6;go_wp2_with fail
     refine P5.out.mono ?_;rintro e w5 ⟨rfl,rfl⟩;go_wp2_with fail
     refine P6.out.mono ?_;rintro e w6 ⟨rfl,b6⟩;go_wp2
     go_ret
     exact⟨_,_,_,rfl,Nat.le_refl _,by simp only[maxLen];omega,za5 o3 b6,C3.below b6,zht G3 b6⟩
    ·rw[if_pos (.inr hck)] at HR
     subst HR;generalize zcy L=ck at*;have e1:(ck != 0)=true:=by simpa using hck
     clear hck;go_wp2_with fail
     refine P5.out.mono ?_;rintro e w5 ⟨rfl,rfl⟩;go_wp2_with fail
     refine P6.out.mono ?_;rintro e w6 ⟨rfl,b6⟩;have P7:=Hz (zo2 (C3.below b6));go_wp2_with fail
     refine P7.out.mono ?_;rintro e w7 ⟨rfl,C7,G7⟩;go_wp2
     go_ret
     exact⟨none,0,0,rfl,by omega,by simp[maxLen],zdo,C7,zi0 (zht G3 b6) G7⟩
end Go.Proofs.Y
