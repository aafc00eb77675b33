/- Merged. -/
import Derived.Test.YtbahbnbpmfgimaaGreatDoorBun13
import Derived.Test.YtbahbnbpmfgimaaGreatDoorBun14
set_option maxHeartbeats 4000000
namespace Go.Proofs.Y
open Go.RowKit Go.Hm
def wrI(x:Int):Int:=IntKind.i64.wrap x
theorem qjl(x:Int):wrI x=(x+9223372036854775808)%18446744073709551616-9223372036854775808:=by unfold wrI;rw[IntKind.wrap_i64]
def zja(x:Int):Prop:= -9223372036854775808<=x/\x<=9223372036854775807
theorem qjm(x:Int):zja (wrI x):=by rw[qjl];unfold zja;omega
theorem zou{x:Int}(h:zja x):zig x<18446744073709551616:=by unfold zja at h;unfold zig;split<;> omega
def zd8:List Int->List Int
 |x::y::l=>wrI (y-x)::zd8 (y::l)
 |_=>[]
theorem zjb:∀l:List Int,(zd8 l).length=l.length-1
 | []=>rfl
 | [_]=>rfl
 |x::y::l=>by
  have:=zjb (y::l);rw[zd8,qnu,this];simp
theorem zu2:∀(l:List Int) (k:Nat),k+1<l.length->(zd8 l).getD k 0=wrI (l.getD (k+1) 0-l.getD k 0)
 | [],k,h=>by simp at h
 | [_],k,h=>by simp at h
 |x::y::l,0,h=>rfl
 |x::y::l,k+1,h=>by
  have:=zu2 (y::l) k (by simpa using h);rw[zd8,qqq,this];rfl
theorem zky:∀(l:List Int),∀s∈zd8 l,zja s
 | [],_,h=>by simp[zd8] at h
 | [_],_,h=>by simp[zd8] at h
 |x::y::l,s,h=>by
  rw[zd8] at h;rcases qof.1 h with rfl|h
  ·exact qjm _
  ·exact zky (y::l) s h
def zg9(l:List Int):Nat->Int
 |0=>l.getD 0 0
 |k+1=>min (zg9 l k) (l.getD (k+1) 0)
def leastD(l:List Int):Int:=zg9 l (l.length-1)
theorem zu3(l:List Int):∀k i,i<=k->zg9 l k<=l.getD i 0
 |0,i,h=>by
  obtain rfl:i=0:=by omega
  exact Int.le_refl _
 |k+1,i,h=>by
  rw[zg9];rcases qmx i (k+1) with e|e
  ·have:=zu3 l k i (by omega)
   omega
  ·obtain rfl:i=k+1:=by omega
   omega
theorem zu4(l:List Int):∀k,∃i,i<=k/\zg9 l k=l.getD i 0
 |0=>⟨0,qmt _,rfl⟩
 |k+1=>by
  obtain⟨i,hi,e⟩:=zu4 l k;rw[zg9];rcases Int.le_total (zg9 l k) (l.getD (k+1) 0) with h|h
  ·exact⟨i,by omega,by rw[Int.min_eq_left h,e]⟩
  ·exact⟨k+1,qmt _,by rw[Int.min_eq_right h]⟩
theorem zim{l:List Int}{i:Nat}(h:i<l.length):l.getD i 0∈l:=by rw[qoa,qmm h];exact qm8 h
theorem z68{l:List Int}(h:∀x∈l,zja x){k:Nat}(hk:k<l.length):zja (zg9 l k):=by obtain⟨i,hi,e⟩:=zu4 l k;rw[e];exact h _ (zim (by omega))
theorem zov{l:List Int}(h:∀x∈l,zja x)(hl:0<l.length):zja (leastD l):=z68 h (by omega)
theorem zu5{l:List Int}{x:Int}(h:x∈l):leastD l<=x:=by obtain⟨i,hi,rfl⟩:=qpq h;have:=zu3 l (l.length-1) i (by omega);rw[qoa,qmm hi] at this;exact this
def zfe(l:List Int):List Nat:=l.map fun s=>(s-leastD l).toNat
theorem z69(l:List Int):(zfe l).length=l.length:=by simp[zfe]
theorem zs5{l:List Int}(h:∀x∈l,zja x):∀m∈zfe l,m<=18446744073709551615:=fun m hm=>by obtain⟨s,hs,rfl⟩:=qmn.1 hm;have h1:=h s hs;have h2:=zov h (List.length_pos_of_mem hs);have h3:=zu5 hs;unfold zja at h1 h2;omega
def blockD(l:List Int):List Nat:=vp (zig (leastD l))++(wid (zfe l)::low (pk (wid (zfe l)) (zfe l)) ((wid (zfe l)*l.length+7)/8))
theorem zrh{l:List Int}(h:∀x∈l,zja x)(hl:0<l.length)(hl2:l.length<=32):(blockD l).length<=268:=by have h1:=zap (zou (zov h hl));have h2:=zoo _ (zs5 h);have h3:wid (zfe l)*l.length<=64*32:=qqn h2 hl2;unfold blockD;rw[qni,qnu,zbg];omega
def blk(s:List Int)(k:Nat):List Int:=(s.drop (k*32)).take 32
theorem zs6(s:List Int)(k:Nat):(blk s k).length=min 32 (s.length-k*32):=by simp[blk]
theorem z0l{s:List Int}(h:∀x∈s,zja x)(k:Nat):∀x∈blk s k,zja x:=fun x hx=>h x (qpa (qnh hx))
def zcq(s:List Int)(K:Nat):List Nat:=(List.range K).flatMap fun k=>blockD (blk s k)
theorem zkz(s:List Int):zcq s 0=[]:=rfl
theorem zk0(s:List Int)(k:Nat):zcq s (k+1)=zcq s k++blockD (blk s k):=by unfold zcq;rw[qqc,qp8];simp
def nblk(n:Nat):Nat:=(n+31)/32
theorem zin{s:List Int}(h:∀x∈s,zja x):∀k,k<=nblk s.length->(zcq s k).length<=268*k
 |0,_=>by simp[zkz]
 |k+1,hk=>by
  have ih:=zin h k (by omega);unfold nblk at hk;have:=zrh (z0l h k) (by rw[zs6];omega) (by rw[zs6];omega);rw[zk0,qni];omega
def zu6(l:List Int):Option (List Nat):=
 if 65536<l.length then none else if l.length=0 then some [] else some (vp (zig (l.getD 0 0))++zcq (zd8 l) (nblk (l.length-1)))
theorem qcz{l:List Int}{b:List Nat}(h:zu6 l=some b):l.length<=65536:=by
 unfold zu6 at h;split at h
 ·cases h
 ·omega
theorem zk1{l:List Int}{b:List Nat}(hl:∀x∈l,zja x)(h:zu6 l=some b):b.length<=600000:=by
 have h0:=qcz h;unfold zu6 at h;rw[if_neg (by omega)] at h;split at h
 ·injection h with h
  subst h;simp
 ·injection h with h
  subst h;have h1:=zap (zou (hl _ (zim (show 0<l.length by omega))));have h2:=zin (zky l) (nblk (l.length-1)) (by rw[zjb];exact qmt _);unfold nblk at h2⊢;rw[qni];omega
structure IsDel(b:List Nat)(n:Int)(o:Option (List Int)):Prop where
 sound:∀l,o=some l->(l.length:Int)=n/\zu6 l=some b/\ ∀x∈l,zja x
 compl:∀l,(∀x∈l,zja x)->(l.length:Int)=n->zu6 l=some b->o=some l
theorem IsDel.uniq{b:List Nat}{n:Int}{o p:Option (List Int)}(h:IsDel b n o)(k:IsDel b n p):o=p:=by
 cases o with
 |some l=>obtain⟨a,b,c⟩:=h.sound l rfl;exact(k.compl l c a b).symm
 |none=>
  cases p with
  |none=>rfl
  |some l=>obtain⟨a,b,c⟩:=k.sound l rfl;exact h.compl l c a b
end Go.Proofs.Y
namespace Go.Hm
open Go Go.RowKit Go.Maps
abbrev DWn:=DataW Unit
def qbf(p:Nat):Value:= .int .u64 (p:Int)
def zx9(p:Nat):DWn:= .lit (.int .u64 (p:Int))
def qk4:Value->Option (DWn × List MemPlace)
 | .int .u64 a=>some (.lit (.int .u64 a),[])
 |_=>none
theorem qhh(p:Nat):qk4 (qbf p)=some (zx9 p,[]):=rfl
theorem qc1{v:Value}{z:DWn × List MemPlace}(h:qk4 v=some z):∃p:Int,v= .int .u64 p/\z=(.lit (.int .u64 p),[]):=by
 unfold qk4 at h;split at h
 ·rename_i a
  exact⟨a,rfl,(qmh h).symm⟩
 ·cases h
def Bok(c:zab):Prop:=∀z∈c.2.2.1,z<256
theorem z7a{c d:zab}(hc:Bok c)(hd:Bok d)(h:zc2 c=zc2 d):c=d:=by obtain⟨a1,a2,a3,a4,a5⟩:=c;obtain⟨b1,b2,b3,b4,b5⟩:=d;simp only[zc2,za0,Value.agg.injEq,Array.mk.injEq,qmg,Value.bool.injEq,Value.int.injEq,Value.string.injEq,true_and,and_true] at h;obtain⟨rfl,rfl,e,rfl,rfl⟩:=h;have:=congrArg (fun s=>s.toList) e;have hb:=zkl hc hd;dsimp only at this hb;rw[this] at hb;simp at hb;rw[hb]
theorem zri{P:Program}{d:Nat}{t:TypeId}{fs:Array Field}{cs:List Value}{L:List (TypeId × Nat)}(hu:P.underlying t=some (.struct fs))(hlen:cs.length=P.cellsOf t)(hn:fs.all (·.name != "_")=true)
 (e:fs.toList.map (fun f=>(f.type,f.offset))=L):P.keyLits (d+1) t cs=(L.mapM fun p=>P.keyLits d p.1 ((cs.drop p.2).take (P.cellsOf p.1))).map List.flatten:=by
 rw[<-e,List.mapM_map];conv=>lhs;unfold Program.keyLits
 simp only[hu];rw[if_pos ⟨hlen,hn⟩];rfl
theorem qc2{P:Program}{d:Nat}{t:TypeId}{b:Bool}(hu:P.underlying t=some .bool):P.keyLits (d+1) t [.bool b]=some [.bool b]:=by unfold Program.keyLits;simp only[hu]
theorem zya{P:Program}{d:Nat}{t:TypeId}{n:Int}(hu:P.underlying t=some (.int .i64))(h: -9223372036854775808<=n/\n<=9223372036854775807):P.keyLits (d+1) t [.int .i64 n]=some [.int .i64 n]:=by
 have hw:(Lit.int .i64 n).wf=true:=by simp[Lit.wf,IntKind.min,IntKind.max,IntKind.signed,IntKind.bits];omega
 unfold Program.keyLits;simp[hu,hw]
theorem z25{P:Program}{d:Nat}{t:TypeId}{s:ByteArray}(hu:P.underlying t=some .string)(h:s.size<=maxLen):P.keyLits (d+1) t [.string s]=some [.string s.data.toList]:=by unfold Program.keyLits;simp[hu,h]
section
variable{P:Program}{k e:TypeId}
def MapC(P:Program)(k:TypeId)(w:World)(b n:Nat)(f:zab->Option Nat):Prop:=
 ∃D:DWn,w.ownsMap P k qk4 b n D/\IsMap D/\ ∀c kl,Bok c->keyOf P k (zc2 c)=some kl-> ∀zd,D.atKey kl zd=((f c).map zx9).getD zd
theorem MapC.made(w:World):MapC P k (w.alloc (.map #[] 0)) w.heap.size 0 fun _=>none:=
 ⟨.map [],World.ownsMap_made _ _ _ _,isMap_empty,fun _ _ _ _ _=>rfl⟩
variable{w:World}{b n:Nat}{f:zab->Option Nat}
theorem MapC.kept{w':World}{row:Option Nat}(h:MapC P k w b n f)(hg:w.grownBy w' row)(hne:some b≠row):MapC P k w' b n f:=by obtain⟨D,h1,h2,h3⟩:=h;exact⟨D,h1.kept hg hne,h2,h3⟩
theorem MapC.lt(h:MapC P k w b n f):b<w.heap.size:=by obtain⟨D,h1,_⟩:=h;exact h1.lt
theorem MapC.eqf{f':zab->Option Nat}(h:MapC P k w b n f)(e:∀c,Bok c->f c=f' c):MapC P k w b n f':=by obtain⟨D,h1,h2,h3⟩:=h;exact⟨D,h1,h2,fun c kl hc hk zd=>by rw[h3 c kl hc hk zd,e c hc]⟩
theorem MapC.look{t:TypeId}(h:MapC P k w b n f)(K:Keyed P k)(ht:P.underlying t=some (.map k e))(hz:(zeroValue e).run P w= .ok (qbf 0) w){c:zab}(hc:Bok c)(hkey:∃kl,keyOf P k (zc2 c)=some kl):
 (Instr.lookup t (.map (some b)) (zc2 c) true).run P w= .ok (.tuple #[qbf ((f c).getD 0),.bool (f c).isSome]) w:=by
 obtain⟨D,⟨es,clock,hb,F,_,rfl⟩,h2,h3⟩:=h;obtain⟨kl,hkey⟩:=hkey;have h4:=h3 c kl hc hkey;rcases fit_look true K ht hz hb F hkey with⟨hrun,_,hat⟩|⟨e0,y,_,_,hrun,hRv,hat,_⟩
 ·cases hf:f c with
  |none=>exact hrun
  |some p=>
   rw[hf] at h4;have h5:=(hat .nil).symm.trans (h4 .nil);cases h5
 ·obtain⟨p,hp,rfl⟩:=qc1 hRv
  rw[hp] at hrun;cases hf:f c with
  |none=>
   rw[hf] at h4;have h5:=(hat .nil).symm.trans (h4 .nil);cases h5
  |some q=>
   rw[hf] at h4;have h5:(DataW.lit (.int .u64 p):DWn)=zx9 q:=(hat .nil).symm.trans (h4 .nil);simp only[zx9,DataW.lit.injEq,Lit.int.injEq,true_and] at h5;rw[h5] at hrun;exact hrun
theorem MapC.put{t:TypeId}(h:MapC P k w b n f)(K:Keyed P k)(ht:P.underlying t=some (.map k e))(hn:n<maxLen){c:zab}(hc:Bok c)(hkey:∃kl,keyOf P k (zc2 c)=some kl)(p:Nat):
 ∃w',(Instr.mapUpdate t (.map (some b)) (zc2 c) (qbf p)).run P w= .ok () w'/\MapC P k w' b (n+1) (fun d=>if d=c then some p else f d)/\w.grownBy w' (some b):=by
 obtain⟨D,h1,h2,h3⟩:=h;obtain⟨kl,hkey⟩:=hkey;obtain⟨w',hrun,ho,hg⟩:=h1.update K ht hn hkey (qhh p);refine⟨w',hrun,⟨_,ho,h2.put _ _,fun d km hd hm zd=>?_⟩,hg⟩;by_cases he:d=c
 ·subst he
  rw[hm] at hkey;obtain rfl:=qmh hkey;show _=((if d=d then some p else f d).map zx9).getD zd;rw[if_pos rfl,atKey_put_same h2 (K.key hm)];rfl
 ·show _=((if d=c then some p else f d).map zx9).getD zd
  rw[if_neg he,atKey_put_other,h3 d km hd hm];intro hk;subst hk;exact he (z7a hd hc (K.inj hm hkey))
theorem zmy{ops:Array Oper}{rest:List Oper}{o:Oper}{a:Act}{Q:Exit->Act->World->Prop}(hg:o.guard=none)(m x:Operand)(t:TypeId)(hop:o.op=Op.lookup t m x true)
 (K:Keyed P k)(ht:P.underlying t=some (.map k e))(hz:(zeroValue e).run P w= .ok (qbf 0) w)(hown:MapC P k w b n f){c:zab}(hc:Bok c)(hkey:∃kl,keyOf P k (zc2 c)=some kl)(hm:a.eval m= .map (some b))(hx:a.eval x=zc2 c)
 (h:wpList P ops Q rest (a.put o.dst (.tuple #[qbf ((f c).getD 0),.bool (f c).isSome])) w):wpList P ops Q (o::rest) a w:=by
 refine wpList_plain hg fun K' hK'=>?_
 have hrun:=hown.look K ht hz hc hkey;unfold Oper.wp;simp[execOp,hop,hm,hx,hrun,Result.andThen];exact hK' _ _ h
theorem zyb{ops:Array Oper}{rest:List Oper}{o:Oper}{a:Act}{Q:Exit->Act->World->Prop}(hg:o.guard=none)(m x v:Operand)(t:TypeId)(hop:o.op=Op.mapUpdate t m x v)
 (K:Keyed P k)(ht:P.underlying t=some (.map k e))(hown:MapC P k w b n f)(hn:n<maxLen){c:zab}(hc:Bok c)(hkey:∃kl,keyOf P k (zc2 c)=some kl)(p:Nat)
 (hm:a.eval m= .map (some b))(hx:a.eval x=zc2 c)(hv:a.eval v=qbf p)
 (h:∀w',MapC P k w' b (n+1) (fun d=>if d=c then some p else f d)->w.grownBy w' (some b)->wpList P ops Q rest (a.put o.dst undef) w'):wpList P ops Q (o::rest) a w:=by
 refine wpList_plain hg fun K' hK'=>?_
 obtain⟨w',hrun,r1,r2⟩:=hown.put K ht hn hc hkey p;unfold Oper.wp;simp[execOp,hop,hm,hx,hv,hrun,Result.andThen];exact hK' _ _ (h w' r1 r2)
end
end Go.Hm
namespace Go.Proofs.Y
open Go.RowKit Go.Hm
set_option maxRecDepth 100000 in
theorem qc3{c:zab}(h1:c.2.2.1.length<=140737488351232)(h2: -9223372036854775808<=c.2.1/\c.2.1<=9223372036854775807)(h3: -9223372036854775808<=c.2.2.2.1/\c.2.2.2.1<=9223372036854775807)(h4: -9223372036854775808<=c.2.2.2.2/\c.2.2.2.2<=9223372036854775807):
 ∃kl,keyOf Tryz.prog 75 (zc2 c)=some kl:=by
 obtain⟨a1,a2,a3,a4,a5⟩:=c;dsimp only at h1 h2 h3 h4;have hu:Tryz.prog.underlying 75=some (.struct (zft Tryz.prog 75)):=by kernel_rfl
 have hp:Tryz.prog.underlying 73=some (.struct (zft Tryz.prog 73)):=by kernel_rfl
 have kt:Tryz.prog.keyType 75=true:=by kernel_rfl
 have cc:Tryz.prog.cellsOf 75=5:=by kernel_rfl
 have cp:Tryz.prog.cellsOf 73=2:=by kernel_rfl
 have ci:Tryz.prog.cellsOf 3=1:=by kernel_rfl
 have cb:Tryz.prog.cellsOf 4=1:=by kernel_rfl
 have cs:Tryz.prog.cellsOf 9=1:=by kernel_rfl
 have ui:Tryz.prog.underlying 3=some (.int .i64):=by kernel_rfl
 have ub:Tryz.prog.underlying 4=some .bool:=by kernel_rfl
 have us:Tryz.prog.underlying 9=some .string:=by kernel_rfl
 have e1:(zft Tryz.prog 75).toList.map (fun f=>(f.type,f.offset))=[(4,0),(3,1),(9,2),(73,3)]:=by kernel_rfl
 have e2:(zft Tryz.prog 73).toList.map (fun f=>(f.type,f.offset))=[(3,0),(3,1)]:=by kernel_rfl
 have n1:(zft Tryz.prog 75).all (·.name != "_")=true:=by kernel_rfl
 have n2:(zft Tryz.prog 73).all (·.name != "_")=true:=by kernel_rfl
 obtain⟨m,hm⟩:∃m,Tryz.prog.types.size=m+2:=⟨Tryz.prog.types.size-2,by have:2<=Tryz.prog.types.size:=of_decide_eq_true (by kernel_rfl);omega⟩
 have hf:(zc2 (a1,a2,a3,a4,a5)).formed Tryz.prog 75=true:=by simp[zc2,za0,Value.formed,hu,cc]
 unfold keyOf;rw[hu];simp only[kt,hf,Bool.and_self,if_true,hm];have hz:(zae a3).size<=maxLen:=by rw[zbt];unfold maxLen;omega
 have hcs:(zc2 (a1,a2,a3,a4,a5)).cells.toList=[.bool a1,.int .i64 a2,.string (zae a3),.int .i64 a4,.int .i64 a5]:=by simp[zc2,za0,Value.cells]
 rw[hcs,zri hu (by rw[cc];rfl) n1 e1];simp only[List.mapM_cons,List.mapM_nil,cb,ci,cs,cp,List.drop_succ_cons,qqt,qqu,qnj];rw[qc2 ub,zya ui h2,z25 us hz,zri hp (by rw[cp];rfl) n2 e2];simp only[List.mapM_cons,List.mapM_nil,ci,List.drop_succ_cons,qqt,qqu,qnj];rw[zya ui h3,zya ui h4];exact⟨_,rfl⟩
theorem ql3:(75:TypeId)<Tryz.prog.types.size:=of_decide_eq_true (by kernel_rfl)
theorem z7b:Maps.Keyed Tryz.prog 75:=Maps.Keyed.of_law (deep_law_laid Tryz.laidOut (m:=3) (by omega) ql3 (by kernel_rfl) (by kernel_rfl))
theorem qhi:Tryz.prog.underlying 244=some (.map 75 138):=by kernel_rfl
theorem qjn(w:World):(zeroValue 138).run Tryz.prog w= .ok (qbf 0) w:=by kernel_rfl
open Go.RowKit Go.Hm
theorem zo5{w:World}{A:Option Addr}{c:Nat}{L:List Nat}(h:Reads w w.heap.size 1 A L.length (zan .u64 L))(hn:L.length<=9223372036854775806):
 Calls Tryz.prog 207 #[.slice A L.length c] w (zal (.int .i64 (st L:Nat)) w):=by
 go_enter Tryz.func207,Tryz.ntmps207
 go_wp2
 go_loopw [3] (fun i wr=>∃k:Nat,k<=L.length/\i= .int .i64 (k:Int)/\Hid (∀j,j<k->L.getD j 0=L.getD 0 0)/\Below w.heap.size w wr) (fun i _=>L.length-(intOf i).toNat)
 case atStart=>exact⟨0,by omega,rfl,Hz (fun j hj=>by omega),Below.refl _ _⟩
 case round=>
  obtain⟨k,hk,rfl,hT,hb⟩:=hrel;by_cases hlt:k<L.length
  ·obtain⟨ad,rfl,hbk,hcell⟩:=(h.below hb).num hlt
   obtain⟨ad',e',hbk',hcell'⟩:=(h.below hb).num (i:=0) (by omega);injection e' with e';subst e';rw[zel] at hcell';have h0:(0:Int)<(L.length:Int):=by omega
   by_cases he:L.getD k 0=L.getD 0 0
   ·have HT:=Hz (show∀j,j<k+1->L.getD j 0=L.getD 0 0 from fun j hj=>by
     by_cases hjk:j=k
     ·rw[hjk];exact he
     ·exact hT.out j (by omega))
    rw[he] at hcell;clear he hT;generalize L.getD 0 0=y at*;go_wp2
    go_quiet (fail)
    go_wp2
    go_roundw
    case rel=>exact⟨k+1,by omega,by go_num,HT,below_drewN hb _⟩
    case measure=>simp[intOf];omega
   ·have hst:=Hz (show st L=k from qdc (by omega) hT.out (.inr he))
    have hbe:(((L.getD k 0:Nat):Int)==((L.getD 0 0:Nat):Int))=false:=by rw[beq_eq_false_iff_ne];omega
    clear he hT;generalize L.getD k 0=y at*;generalize L.getD 0 0=z at*;go_wp2
    go_quiet (fail)
    go_wp2
    go_ret
    exact⟨by rw[hst.out];simp,below_drewN hb _⟩
  ·obtain rfl:k=L.length:=by omega
   have hst:=Hz (show st L=L.length from qdc (by omega) hT.out (.inl rfl));clear hT;go_wp2
   go_quiet (fail)
   go_wp2
   go_ret
   exact⟨by rw[hst.out];simp,below_drewN hb _⟩
theorem z7v{w:World}{A:Option Addr}{c:Nat}{L:List Nat}(h:Reads w w.heap.size 1 A L.length (zan .u64 L))(hn:L.length<=9223372036854775806):
 Calls Tryz.prog 191 #[.slice A L.length c] w (zal (.bool (decide (4<=st L))) w):=by
 have S:=Hz (zo5 (c:=c) h hn);generalize st L=s at*;clear h;go_enter Tryz.func191,Tryz.ntmps191
 go_wp2_with fail
 refine S.out.mono ?_;rintro e w1 ⟨rfl,b1⟩;by_cases h4:4<=s
 ·have d:decide ((4:Int)<=(s:Int))=true:=decide_eq_true (by omega)
  rw[decide_eq_true h4];go_wp2
  go_ret
  exact⟨by simp[h4],b1⟩
 ·have d:decide ((4:Int)<=(s:Int))=false:=decide_eq_false (by omega)
  rw[decide_eq_false h4];go_wp2
  go_ret
  exact⟨by simp;omega,b1⟩
open Go.RowKit Go.Hm
def zeb(s:zdc):Prop:=(s.2.2.1.2.2.1.length<=140737488351232/\ ∀z∈s.2.2.1.2.2.1,z<256)/\s.2.2.2.2.2.1.length<=140737488351232/\ ∀z∈s.2.2.2.2.2.1,z<256
set_option maxRecDepth 100000 in
theorem zha{w:World}{t:Int}{s:zdc}(hf:zeb s):Calls Tryz.prog 133 #[.int .i64 t,zcg s] w (zal (.bool (zcc t s)) w):=by
 obtain⟨M,hM⟩:∃M,M=zcc t s:=⟨_,rfl⟩;rw[<-hM];unfold zcc at hM;obtain⟨n,b,p,q⟩:=s;obtain⟨⟨hf1,hf2⟩,hf3,hf4⟩:=hf;dsimp only at hM hf1 hf2 hf3 hf4;have E:∀W,(binOp .eql 133 (zcg (n,false,p,q)) (zcg (n,false,za8,za8))).run Tryz.prog W= .ok (.bool (decide (p=za8)&&decide (q=za8))) W:=fun W=>by
  rw[z3n];have:eqS (n,false,p,q) (n,false,za8,za8)=(decide (p=za8)&&decide (q=za8)):=by rw[qm6,qj2 hf2 hf4 (by simp[za8]) (by simp[za8])];simp
  rw[this]
 have HN:=fun(h1:zaf p t false=true) (h2:zaf q t false=true) (W:World)=>zff (w:=W) (t:=t) (a:=p) (b:=q) (zl7 h1) (zl7 h2)
 have R1:=fun(W:World)=>zf0 (w:=W) (b:=p.1) (n:=p.2.1) (s:=p.2.2.1) (x:=p.2.2.2.1) (y:=p.2.2.2.2) (cn:=[]) (t:=t) (nu:=false) hf1
 have R2:=fun(W:World)=>zf0 (w:=W) (b:=q.1) (n:=q.2.1) (s:=q.2.2.1) (x:=q.2.2.2.1) (y:=q.2.2.2.2) (cn:=[]) (t:=t) (nu:=false) hf3
 generalize(decide (p=za8)&&decide (q=za8))=eq at*;generalize zjs t p q=o at*;obtain⟨p1,p2,p3,p4,p5⟩:=p;obtain⟨q1,q2,q3,q4,q5⟩:=q;dsimp only at R1 R2 hM;generalize zaf (p1,p2,p3,p4,p5) t false=m1 at*;generalize zaf (q1,q2,q3,q4,q5) t false=m2 at*;have E:∀W,(binOp .eql 133 (.agg #[.int .i64 n,.bool false,.bool p1,.int .i64 p2,.string (zae p3),.int .i64 p4,.int .i64 p5,.bool q1,.int .i64 q2,.string (zae q3),.int .i64 q4,.int .i64 q5]) (.agg #[.int .i64 n,.bool false,.bool false,.int .i64 0,.string ⟨#[]⟩,.int .i64 0,.int .i64 0,.bool false,.int .i64 0,.string ⟨#[]⟩,.int .i64 0,.int .i64 0])).run Tryz.prog W= .ok (.bool eq) W:=E;have R1:Hid (∀W,Calls Tryz.prog 83 #[.agg #[.bool p1,.int .i64 p2,.string (zae p3),.int .i64 p4,.int .i64 p5],.agg #[.string ⟨#[]⟩,.int .i64 t,.bool false]] W (zal (.bool m1) W)):=Hz R1;have R2:Hid (∀W,Calls Tryz.prog 83 #[.agg #[.bool q1,.int .i64 q2,.string (zae q3),.int .i64 q4,.int .i64 q5],.agg #[.string ⟨#[]⟩,.int .i64 t,.bool false]] W (zal (.bool m2) W)):=Hz R2;unfold zc2 za0 at HN;dsimp only at HN;have HN:=Hz HN;show Calls Tryz.prog 133 #[.int .i64 t,.agg #[.int .i64 n,.bool b,.bool p1,.int .i64 p2,.string (zae p3),.int .i64 p4,.int .i64 p5,.bool q1,.int .i64 q2,.string (zae q3),.int .i64 q4,.int .i64 q5]] w (zal (.bool M) w);have B0:=Blk.new w 133 #[.int .i64 n,.bool b,.bool p1,.int .i64 p2,.string (zae p3),.int .i64 p4,.int .i64 p5,.bool q1,.int .i64 q2,.string (zae q3),.int .i64 q4,.int .i64 q5];have hb:New w (w.alloc (.cells #[.int .i64 n,.bool b,.bool p1,.int .i64 p2,.string (zae p3),.int .i64 p4,.int .i64 p5,.bool q1,.int .i64 q2,.string (zae q3),.int .i64 q4,.int .i64 q5] 133)):=(Below.refl _ _).alloc (qmt _) _;have HB0:=Hz B0;have Hb:=Hz hb;obtain⟨x0,x1,x2,x3,x4,x5,x6,x7,x8,x9,x10,x11⟩:=za9 B0;clear B0 hb hf1 hf2 hf3 hf4;by_cases hr:t<0\/3<t\/n<0\/65536<n
 ·rw[if_pos hr] at hM
  have HM:=Hz hM;clear hM E;by_cases h1:t<0;all_goals try by_cases h2:3<t
  all_goals try by_cases h3:n<0
  all_goals try(have h4:65536<n:=by omega)
  all_goals
   clear hr;go_enter Tryz.func133,Tryz.ntmps133
   go_wp2
   go_ret
   exact⟨by rw[HM.out];rfl,Hb.out⟩
 rw[if_neg hr] at hM;have h1: ¬t<0:=by omega
 have h2: ¬3<t:=by omega
 have h3: ¬n<0:=by omega
 have h4: ¬65536<n:=by omega
 clear hr;cases b with
 |false=>
  rw[if_neg (by simp)] at hM;have HM:=Hz hM;clear hM;go_enter Tryz.func133,Tryz.ntmps133
  go_wp2
  go_ret
  exact⟨by rw[HM.out];rfl,Hb.out⟩
 |true=>
  rw[if_pos rfl] at hM;have HM:=Hz hM;clear hM E;go_enter Tryz.func133,Tryz.ntmps133
  go_wp2_with fail
  refine(R1.out _).mono ?_;rintro e w1 ⟨rfl,b1⟩;have B0:=(HB0.out.alloc _).below b1 (by simp;omega);have BC:=(Blk.new _ _ _).below b1 (by simp);have hl:=New.trans (New.trans Hb.out ((Below.refl _ _).alloc (qmt _) _)) b1;simp only[World.size_alloc] at BC;clear x0 x1 x2 x3 x4 x5 x6 x7 x8 x9 x10 x11 HB0 Hb b1;obtain⟨x0,x1,x2,x3,x4,x5,x6,x7,x8,x9,x10,x11⟩:=za9 B0;obtain⟨y0,y1,y2⟩:=zao BC;cases m1 with
  |false=>
   go_wp2_with fail
   go_ret
   exact⟨by rw[HM.out];rfl,hl⟩
  |true=>
   go_wp2_with fail
   refine(R2.out _).mono ?_;rintro e w2 ⟨rfl,b2⟩;replace B0:=B0.below b2 B0.lt;replace hl:=New.trans hl b2;clear x0 x1 x2 x3 x4 x5 x6 x7 x8 x9 x10 x11 b2 y0 y1 y2 BC;obtain⟨x0,x1,x2,x3,x4,x5,x6,x7,x8,x9,x10,x11⟩:=za9 B0;cases m2 with
   |false=>
    go_wp2_with fail
    go_ret
    exact⟨by rw[HM.out];rfl,hl⟩
   |true=>
    have C:=Hz (HN.out (by trivial) (by trivial));go_wp2_with fail
    refine(C.out _).mono ?_;rintro e w3 ⟨rfl,b3⟩;go_wp2
    go_ret
    exact⟨by rw[HM.out];rfl,New.trans hl b3⟩
end Go.Proofs.Y
namespace Go.Hm
open Go Go.RowKit
section
variable{P:Program}{o:Oper}{a:Act}{Q:Exit->Act->World->Prop}{K:Act->World->Prop}
theorem qeu{w:World}{t e:TypeId}{z:Value}{sz bytes:Nat}(E:ElT P t e z sz bytes)(s x:Operand)
 (ho:o.op= .call {callee:= .builtin .append,args:= #[s,x],argTypes:= #[t,t]})
 {W:World}{B base n m c:Nat}{v:Value}{xs news:List Value}{A:Option Addr}(hown:w.ownsRow base e sz v n xs)(hr:Reads w w.heap.size sz A m news)(hs:a.eval s=v)(hx:a.eval x= .slice A m c)
 (hb:Below B W w)(hbB:B<=base)(hbase:base<=w.heap.size)(h1:∀u∈news,u.oneCell'=true)
 (hn:(n+m)*bytes<=140737488355328)(hm:n+m<=maxLen)
 (h:∀A' c' w',n+m<=c'->c'<=maxLen->w'.ownsRow base e sz (.slice A' (n+m) c') (n+m) (xs++news)->w.grownBy w' v.ownBlock->Below B W w'->(Value.ownBlock (.slice A' (n+m) c')=v.ownBlock\/ ∃g,Value.ownBlock (.slice A' (n+m) c')=some g/\w.heap.size<=g)->K (a.put o.dst (.slice A' (n+m) c')) w'):
 Oper.wp P o a w K Q:=by
 obtain⟨i,hi,hz0,hz1,hz2⟩:=info_parts E.hi;rcases A with _|ad
 ·have hm0:m=0:=by
   rcases qm9 m with h0|h0
   ·exact h0
   ·obtain⟨ad,h',_⟩:=hr.2 h0
    cases h'
  subst hm0;have hn0:news=[]:=qna (by have:=hr.1;omega);subst hn0;have hrun:∀ty,(Builtin.append_ #[t,t] ty #[v,.slice none 0 c]).run P w= .ok v w:=by
   intro ty;rcases hown.2 with⟨rfl,hx0⟩|⟨g,cap,cur,rfl,_,_,hnc,_⟩
   ·simp[Builtin.append_,run_underlying E.ht,sizeOf,typeInfo,hi,Builtin.lenOf,Builtin.firstCells]
   ·simp[Builtin.append_,run_underlying E.ht,sizeOf,typeInfo,hi,Builtin.lenOf,Builtin.firstCells,hnc,storeCells]
  obtain⟨A',c',rfl,hc1,hc2⟩:=zcw hown;unfold Oper.wp execOp;simp only[ho,resolve,invoke,builtin,Sem.run_bind,Sem.run_pure,Result.andThen_ok,qnb,qnc,qnd,hs,hx,hrun];exact h A' c' w hc1 hc2 (by simpa using hown) (World.grownBy.refl w _) hb (.inl rfl)
 ·have hl:news.length=m*sz:=hr.1
  have hcells:∀j u,news[j]? =some u->w.cell? (ad.add j)=some u:=by
   intro j u hu;rcases qm9 m with h0|h0
   ·subst h0
    have hn:news=[]:=qna (by omega);subst hn;simp at hu
   ·obtain⟨ad',h',_,hc⟩:=hr.2 h0
    injection h' with h';subst h';exact hc j u hu
  obtain⟨v',w',hr',hown',hg,_,hat⟩:=run_append_own_at (P:=P) w base t o.type e i z sz bytes E.ht hi hz0 hz1 hz2 E.hz E.hs v n xs hown ad m c news hl hcells h1 hm hn hbase;obtain⟨A',c',rfl,hc1,hc2⟩:=zcw hown';unfold Oper.wp execOp;simp only[ho,resolve,invoke,builtin,Sem.run_bind,Sem.run_pure,Result.andThen_ok,qnb,qnc,qnd,hs,hx,hr'];exact h A' c' w' hc1 hc2 hown' hg (hb.grown hg (qml hbB hbase) (fun k hk=>by have:=(World.ownsRow.lt hown k hk).1;omega)) (hat.imp id (fun e=>⟨_,e,qmt _⟩))
end
end Go.Hm
