import Derived.Test.YtbahbnbpmfgimaaGreatDoorBun17
import Derived.Test.YtbahbnbpmfgimaaGreatDoorBun19
set_option maxHeartbeats 4000000
set_option maxRecDepth 100000
namespace Go.Hm
open Go Go.RowKit
theorem RowsAt.cells{w:World}{a:Addr}{n c:Nat}{D:List zds}(h:RowsAt w (some a) n c D){k:Nat}(g:k<D.length)(W:World)(f:New w W):W.cell? (a.add k)=some (.slice (D.getD k (none,0,[])).1 (D.getD k (none,0,[])).2.2.length (D.getD k (none,0,[])).2.1):=by obtain⟨b,d,_,e⟩:=(h.later f).at_ g;obtain rfl:=qqf d;exact e
end Go.Hm
namespace Go.Proofs.Y
open Go.RowKit Go.Hm
end Go.Proofs.Y
namespace Go.Hm
open Go Go.RowKit
end Go.Hm
namespace Go.Proofs.Y
open Go.RowKit Go.Hm
theorem zj1{w:World}{A:Option Addr}{n c:Nat}{l:List Nat}(h:Reads w w.heap.size 1 A n (zar .u8 l))(o:n<=140737488355328):
 Calls Tryz.prog 42 #[.slice A n c] w (zcx l w):=by
 obtain rfl:=h.len;rcases A with _|d
 ·have b:l.length=0:=by
   rcases qrg l.length with a|a
   ·exact a
   ·obtain⟨d,g,_⟩:=h.2 a
    cases g
  obtain rfl:l=[]:=qrh b;have i:=fun W:World=>qws (P:=Tryz.prog) W 24 5 none 0 c 0 0 elB.ht
  go_enter Tryz.func42,Tryz.ntmps42
  go_wp2
  go_ret
  exact⟨none,0,0,rfl,qw0,qwd _ _⟩
 ·have i:=fun W:World=>qws (P:=Tryz.prog) W 24 5 (some d) l.length c 0 0 elB.ht
  go_enter Tryz.func42,Tryz.ntmps42
  go_wp2_with (first
   |(refine zaq elB rfl (.tmp 5) (.tmp 6) rfl (W:=w) (B:=w.heap.size) (k:= .u8) (l:=[]) (l2:=l) (c2:=c) (Own.empty _ _) ((h.alloc (qq0 _) _).more (by simp)) rfl rfl ((qwd _ _).alloc (qq0 _) _) (qq0 _) (by simp) (by omega) (by simp only[maxLen];omega) ?_
     simp only[qrs,qrr];intro e f t p q j r m s))
  go_ret
  exact⟨e,_,f,rfl,j,m⟩
end Go.Proofs.Y
namespace Go.Hm
open Go Go.RowKit
theorem TR.push{w w':World}{e t:TypeId}{A:Option Addr}{n base:Nat}{xs j:List Value}{v:Value}(h:TR w e A n xs)(o:Own w base t v j)(b:w.grownBy w' v.ownBlock)(a:e≠t):TR w' e A n xs:=by
 rcases o.2 with⟨rfl,_⟩|⟨g,c,d,rfl,_,f,_⟩
 ·exact h.grown b (fun k g _ i=>by cases i)
 ·exact h.keep (g:=g) b f a
def PartsT(e:TypeId)(w:World)(D:List zds):Prop:=∀d∈D,TR w e d.1 d.2.2.length (zar .u8 d.2.2)/\d.2.2.length<=d.2.1/\d.2.1<=9223372036854775807
theorem PartsT.ins{e:TypeId}{w:World}{D:List zds}(h:PartsT e w D):PartsIn w D:=fun d a=>⟨(h d a).1.1,(h d a).2⟩
theorem PartsT.below{e:TypeId}{w w':World}{D:List zds}(h:PartsT e w D)(b:New w w'):PartsT e w' D:=fun d a=>⟨(h d a).1.below b,(h d a).2⟩
theorem PartsT.push{e t:TypeId}{w w':World}{D:List zds}{base:Nat}{v:Value}{f:List Value}(h:PartsT e w D)(o:Own w base t v f)(c:w.grownBy w' v.ownBlock)(a:e≠t):PartsT e w' D:=fun d b=>⟨(h d b).1.push o c a,(h d b).2⟩
theorem PartsT.snoc{e:TypeId}{w:World}{D:List zds}{d:zds}(h:PartsT e w D)(k:TR w e d.1 d.2.2.length (zar .u8 d.2.2))(b:d.2.2.length<=d.2.1)(c:d.2.1<=9223372036854775807):PartsT e w (D++[d]):=by
 intro x a;rcases qr5.1 a with a|a
 ·exact h x a
 ·obtain rfl:=qr6.1 a
  exact⟨k,b,c⟩
theorem zof(D:List zds)(d:zds):bytesOf (D++[d])=bytesOf D++[d.2.2]:=by simp[bytesOf]
theorem zjg(D:List zds):(recs zf6 D).length=D.length:=by rw[zaw (sz:=1) (fun _=>rfl),qq7]
theorem zsp(D:List zds)(d:zds):recs zf6 (D++[d])=recs zf6 D++[.slice d.1 d.2.2.length d.2.1]:=by rw[zbe];rfl
end Go.Hm
namespace Go.Proofs.Y
open Go.RowKit Go.Hm
theorem elR:ElT Tryz.prog 22 24 (.slice none 0 0) 1 24:=⟨by kernel_rfl,by kernel_rfl,rfl,by omega⟩
def ParsePost(o:Option (List Nat × List (List Nat)))(w:World)(e:Ending)(w':World):Prop:=
 ∃A n c D,e= .returned (.tuple #[.string (zaf ((o.map Prod.fst).getD [])),.slice A n c,.bool o.isSome])/\RowsAt w' A n c D/\bytesOf D=(o.map Prod.snd).getD []/\New w w'
theorem ParsePost.none_{w w':World}(h:New w w'):ParsePost none w (.returned (.tuple #[.string (zaf []),.slice none 0 0,.bool false])) w':=
 ⟨none,0,0,[],rfl,⟨⟨by simp[recs],fun h=>absurd h (by omega)⟩,(fun d a=>nomatch a),qq0 _⟩,rfl,h⟩
end Go.Proofs.Y
namespace Go.Hm
open Go Go.RowKit Go.Maps
abbrev DW:=DataW Unit
def zjh(p:Int × Int):Value:= .agg #[.int .i64 p.1,.int .i64 p.2]
def zp4(p:Int × Int):DW:= .agg [.lit (.int .i64 p.1),.lit (.int .i64 p.2)]
def qem:Value->Option (DW × List MemPlace)
 | .agg ⟨[.int .i64 a,.int .i64 b]⟩=>some (zp4 (a,b),[])
 |_=>none
theorem qen(p:Int × Int):qem (zjh p)=some (zp4 p,[]):=rfl
theorem z8i{v:Value}{z:DW × List MemPlace}(h:qem v=some z):∃p,v=zjh p/\z=(zp4 p,[]):=by
 unfold qem at h;split at h
 ·rename_i a b
  exact⟨(a,b),rfl,(qqf h).symm⟩
 ·cases h
theorem z8j{p q:Int × Int}(h:zp4 p=zp4 q):p=q:=by simp only[zp4,qqn,qqe,qqo,qqp,true_and,and_true] at h;exact qug h.1 h.2
def zla(l:List Int):Value:= .agg (za5 .u8 l).toArray
theorem qeo{l m:List Int}(h:zla l=zla m):l=m:=by simp only[zla,Value.agg.injEq,Array.mk.injEq,za5] at h;exact(List.map_inj_right (f:=Value.int .u8) (by simp)).1 h
def qms(l:List Int):Prop:=l.length=32/\ ∀x∈l,0<=x/\x<256
theorem z8k{α β:Type}{f:α->Option β}{g:α->β}{L:List α}(h:∀x∈L,f x=some (g x)):L.mapM f=some (L.map g):=by
 induction L with
 |nil=>rfl
 |cons x L c=>rw[quh,h x (by simp),c fun y a=>h y (by simp[a])];rfl
section
variable{P:Program}{k e u:TypeId}
theorem qka(A:WideMaps.ArrKey P k u 32)(z:P.underlying u=some (.int .u8))(s:P.cellsOf u=1)(p:P.cellsOf k=32)(d:∃m,P.types.size=m+1){l:List Int}(h:qms l):∃kl,keyOf P k (zla l)=some kl:=by
 have r:=A.keyType d;obtain⟨m,y⟩:=d;have a:(za5 .u8 l).length=32:=by simp[za5,h.1]
 have t:(zla l).formed P k=true:=by simp[zla,Value.formed,A.hu,p,a]
 have v:P.keyLits (P.types.size+1) k (zla l).cells.toList=some ((List.range 32).map fun i=>[Lit.int .u8 (l.getD i 0)]).flatten:=by
  have j:(zla l).cells.toList=za5 .u8 l:=by simp[zla,Value.cells]
  rw[j,y];unfold Program.keyLits;simp only[A.hu,a,p,if_true];rw[z8k (g:=fun i=>[Lit.int .u8 (l.getD i 0)])]
  ·rfl
  ·intro i o
   have o:=qtn.1 o;have c:i<l.length:=by rw[h.1];exact o
   rw[s,qq7];have q:((za5 .u8 l).drop i).take 1=[.int .u8 (l.getD i 0)]:=by rw[qrb (by omega)];simp[za5,List.getD_eq_getElem?_getD,c]
   have C:=h.2 (l.getD i 0) (by rw[qsh,qqt c];exact qrf _);rw[q];generalize l.getD i 0=x at*;have B:(Lit.int .u8 x).wf=true:=by simp[Lit.wf,IntKind.min,IntKind.max,IntKind.signed,IntKind.bits];omega
   unfold Program.keyLits;simp[z,B]
 unfold keyOf;rw[A.hu];simp only[r,t,v];exact⟨_,rfl⟩
def MapF(P:Program)(k:TypeId)(w:World)(b n:Nat)(f:List Int->Option (Int × Int)):Prop:=
 ∃D:DW,w.ownsMap P k qem b n D/\IsMap D/\ ∀l kl,keyOf P k (zla l)=some kl-> ∀zd,D.atKey kl zd=((f l).map zp4).getD zd
theorem MapF.made(w:World):MapF P k (w.alloc (.map #[] 0)) w.heap.size 0 fun _=>none:=
 ⟨.map [],qwt _ _ _ _,isMap_empty,fun _ _ _ _=>rfl⟩
variable{w:World}{b n:Nat}{f:List Int->Option (Int × Int)}
theorem MapF.kept{w':World}{row:Option Nat}(h:MapF P k w b n f)(i:w.grownBy w' row)(a:some b≠row):MapF P k w' b n f:=by obtain⟨D,c,d,g⟩:=h;exact⟨D,c.kept i a,d,g⟩
theorem MapF.lt(h:MapF P k w b n f):b<w.heap.size:=by obtain⟨D,a,_⟩:=h;exact a.lt
theorem MapF.look{t:TypeId}(h:MapF P k w b n f)(K:Keyed P k)(v:P.underlying t=some (.map k e))(x:(zeroValue e).run P w= .ok (zjh (0,0)) w){l:List Int}(c:∃kl,keyOf P k (zla l)=some kl):
 (Instr.lookup t (.map (some b)) (zla l) true).run P w= .ok (.tuple #[zjh ((f l).getD (0,0)),.bool (f l).isSome]) w:=by
 obtain⟨D,⟨A,j,r,F,_,rfl⟩,B,o⟩:=h;obtain⟨kl,c⟩:=c;have g:=o l kl c;rcases fit_look true K v x r F c with⟨a,_,d⟩|⟨z,y,_,_,a,m,d,_⟩
 ·cases hf:f l with
  |none=>exact a
  |some p=>
   rw[hf] at g;have i:=(d .nil).symm.trans (g .nil);cases i
 ·obtain⟨p,s,rfl⟩:=z8i m
  rw[s] at a;cases hf:f l with
  |none=>
   rw[hf] at g;have i:=(d .nil).symm.trans (g .nil);cases i
  |some q=>
   rw[hf] at g;have i:zp4 p=zp4 q:=(d .nil).symm.trans (g .nil);rw[z8j i] at a;exact a
theorem MapF.put{t:TypeId}(h:MapF P k w b n f)(K:Keyed P k)(y:P.underlying t=some (.map k e))(v:n<maxLen){l:List Int}(a:∃kl,keyOf P k (zla l)=some kl)(p:Int × Int):
 ∃w',(Instr.mapUpdate t (.map (some b)) (zla l) (zjh p)).run P w= .ok () w'/\MapF P k w' b (n+1) (fun m=>if m=l then some p else f m)/\w.grownBy w' (some b):=by
 obtain⟨D,o,i,q⟩:=h;obtain⟨kl,a⟩:=a;obtain⟨w',c,x,r⟩:=o.update K y v a (qen p);refine⟨w',c,⟨_,x,i.put _ _,fun m z d j=>?_⟩,r⟩;by_cases g:m=l
 ·subst g
  rw[d] at a;obtain rfl:=qqf a;show _=((if m=m then some p else f m).map zp4).getD j;rw[if_pos rfl,atKey_put_same i (K.key d)];rfl
 ·show _=((if m=l then some p else f m).map zp4).getD j
  rw[if_neg g,atKey_put_other,q m z d];intro s;subst s;exact g (qeo (K.inj d a))
theorem zdk{i:Array Oper}{rest:List Oper}{o:Oper}{a:Act}{Q:Exit->Act->World->Prop}(q:o.guard=none)(m x:Operand)(t:TypeId)(p:o.op=Op.lookup t m x true)
 (K:Keyed P k)(r:P.underlying t=some (.map k e))(v:(zeroValue e).run P w= .ok (zjh (0,0)) w)(d:MapF P k w b n f){l:List Int}(c:∃kl,keyOf P k (zla l)=some kl)(hm:a.eval m= .map (some b))(s:a.eval x=zla l)
 (h:wpList P i Q rest (a.put o.dst (.tuple #[zjh ((f l).getD (0,0)),.bool (f l).isSome])) w):wpList P i Q (o::rest) a w:=by
 refine wpList_plain q fun y j=>?_
 have g:=d.look K r v c;unfold Oper.wp;simp[execOp,p,hm,s,g,Result.andThen];exact j _ _ h
theorem zp5{i:Array Oper}{rest:List Oper}{o:Oper}{a:Act}{Q:Exit->Act->World->Prop}(r:o.guard=none)(m x v:Operand)(t:TypeId)(q:o.op=Op.mapUpdate t m x v)
 (K:Keyed P k)(y:P.underlying t=some (.map k e))(d:MapF P k w b n f)(s:n<maxLen){l:List Int}(c:∃kl,keyOf P k (zla l)=some kl)(p:Int × Int)
 (hm:a.eval m= .map (some b))(A:a.eval x=zla l)(z:a.eval v=zjh p)
 (h:∀w',MapF P k w' b (n+1) (fun m=>if m=l then some p else f m)->w.grownBy w' (some b)->wpList P i Q rest (a.put o.dst undef) w'):wpList P i Q (o::rest) a w:=by
 refine wpList_plain r fun D j=>?_
 obtain⟨w',g,B,C⟩:=d.put K y s c p;unfold Oper.wp;simp[execOp,q,hm,A,z,g,Result.andThen];exact j _ _ (h w' B C)
end
open Go Go.RowKit
theorem z4k{L:List (List Nat)}(h:Digs L):(zc9 L).2.length=if L.length=0 then 1 else L.length-1:=by
 by_cases a:L.length=0
 ·obtain rfl:=qrh a
  rw[zjf];rfl
 ·rw[if_neg a]
  exact(zij L h (by omega)).1
theorem z8w{L:List (List Nat)}(h:Digs L):(zc9 L).2.length<=L.length+1:=by rw[z4k h];split<;> omega
open Go Go.RowKit
def qdy(E:List zab)(c:zab):Option Nat:=if c∈E then some (E.idxOf c) else none
theorem z9l{E:List zab}{c d:zab}(h:c∉E):(if d=c then some E.length else qdy E d)=qdy (E++[c]) d:=by
 unfold qdy;by_cases e:d=c
 ·subst e
  rw[if_pos rfl,if_pos (by simp),List.idxOf_append,if_neg h];simp
 ·rw[if_neg e]
  by_cases a:d∈E
  ·rw[if_pos a,if_pos (by simp[a]),List.idxOf_append,if_pos a]
  ·rw[if_neg a,if_neg (by simp[a,e])]
theorem z16{P:List Nat}{n k q:Nat}(a:P.length=k)(b:k<n):(P++List.replicate (n-k) 0).set k q=(P++[q])++List.replicate (n-(k+1)) 0:=by rw[qsy _ _ (by omega),a,qsz,show n-k=(n-(k+1))+1 by omega,qs0,qs1,qrc];rfl
end Go.Hm
namespace Go.Proofs.Y
open Go.RowKit Go.Hm
theorem z4y(W:World):(Instr.makeMap 244 none).run Tryz.prog W= .ok (.map (some W.heap.size)) (W.alloc (.map #[] 0)):=by simp[Instr.makeMap,Result.andThen]
theorem qp2:ElT Tryz.prog 76 75 (.agg #[.bool false,.int .i64 0,.string ⟨#[]⟩,.int .i64 0,.int .i64 0]) 5 48:=⟨by kernel_rfl,by kernel_rfl,rfl,by omega⟩
def z9m(L:List zab)(w:World)(e:Ending)(w':World):Prop:=
 ∃A1 n1 c1 A2 c2,e= .returned (.tuple #[.slice A1 n1 c1,.slice A2 L.length c2])/\w'.ownsRow w.heap.size 75 5 (.slice A1 n1 c1) n1 (recs zay (zgs L).1)/\Go.Hm.Own w' w.heap.size 138 (.slice A2 L.length c2) (zar .u64 (zgs L).2)/\New w w'
theorem qku{c:zab}(h:CellFine c):∃kl,keyOf Tryz.prog 75 (zde c)=some kl:=qfk h.1.1 h.2.1 h.2.2.1 h.2.2.2
theorem zzz{w:World}{A:Option Addr}{n c:Nat}{L:List zab}(h:Reads w w.heap.size 5 A n (recs zay L))(hL:∀y∈L,CellFine y)(hn:n<=100000):
 Calls Tryz.prog 171 #[.slice A n c] w (z9m L w):=by
 obtain rfl:=h.lenCell;have HR:=qwk h;have HL:=qwk hL;clear h hL;have a5:=z4y;have b0:New w (w.alloc (.map #[] 0)):=(qwd _ _).alloc (qq0 _) _;have M0:=MapC.made (P:=Tryz.prog) (k:=75) w;go_enter Tryz.func171,Tryz.ntmps171
 go_wp2_with (first
  |(refine zcf elW rfl (.tmp 13) (.tmp 13) rfl (W:=w) (B:=w.heap.size) L.length L.length rfl rfl rfl rfl (by omega) b0 (by simp) rfl (by omega) (by simp only[maxLen];omega) ?_
    intro w3 m X V Y))
 have M3:=M0.kept X (by simp);simp only[qww] at m Y;clear M0 b0 X a5;go_loopw [5,17] (fun v i wr=>∃(k cE:Nat) (AE:Option Addr),k<=L.length/\i= .int .i64 (k:Int)/\v= .slice AE (zgs (L.take k)).1.length cE
  /\wr.ownsRow (w.heap.size+2) 75 5 (.slice AE (zgs (L.take k)).1.length cE) (zgs (L.take k)).1.length (recs zay (zgs (L.take k)).1)
  /\MapC Tryz.prog 75 wr w.heap.size (zgs (L.take k)).1.length (qdy (zgs (L.take k)).1)
  /\Go.Hm.Own wr (w.heap.size+1) 138 (.slice (some ⟨w.heap.size+1,0,none⟩) L.length L.length) (zar .u64 ((zgs (L.take k)).2++List.replicate (L.length-k) 0))
  /\New w wr/\w.heap.size+2<=wr.heap.size) (fun _ i _=>L.length-(intOf i).toNat)
 case atStart=>exact⟨0,0,none,qq1 _,rfl,rfl,by simpa[recs,zgs] using zd8,by simpa[zgs] using M3.eqf (f':=qdy []) (fun c _=>by simp[qdy]),by simpa[zb5,zgs] using m,V,by omega⟩
 case round=>
  obtain⟨k,cE,AE,hk,rfl,rfl,Q,M,K,b,b2⟩:=hrel;clear M3 m V Y;by_cases l:k<L.length
  ·have a6:=zac L k (false,0,[],0,0) l
   have g:=zhy (L.take k) (L.getD k (false,0,[],0,0));rw[<-a6] at g;have hI:=zlf (L.take k);have a4:=zlg (L.take k);have O:=hI.len;rw[qqx,qqy (by omega)] at O a4;have f:=HL.out _ (zdt (false,0,[],0,0) l);obtain⟨ad,rfl,hb,d0,d1,d2,d3,d4⟩:=(qxj HR.out b).cell5 l;generalize zgs (L.take k)=EP at*;obtain⟨E,P⟩:=EP;dsimp only at*;generalize L.getD k (false,0,[],0,0)=y at*;have u:=qku f;have r:Bok y:=f.1.2;unfold ziu at g;try dsimp only at g
   have s:y∈E->E.idxOf y<E.length:=fun z=>qu7.2 z
   obtain⟨D,F,G,H,I⟩:=y;dsimp only at d0 d1 d2 d3 d4;have J:New wr (wr.alloc (.cells #[.bool D,.int .i64 F,.string (zaf G),.int .i64 H,.int .i64 I] 75)):=(qwd _ _).alloc (qq0 _) _;have BC:=qw1 wr 75 #[.bool D,.int .i64 F,.string (zaf G),.int .i64 H,.int .i64 I];obtain⟨q0,q1,q2,q3,q4⟩:=zc3 BC;have U:=M.kept (row:=none) ⟨J.os,J.tape,J.output,J.size,fun j hj _=>J.block j hj⟩ (by simp);have o:=zba Q J;have R:=K.later J;have b1:=qw5 b J;have HF:=qwk f;clear Q M K f hb;by_cases z:(D,F,G,H,I)∈E
   ·rw[if_pos z] at g
    have hq:=s z;have t:qdy E (D,F,G,H,I)=some (E.idxOf (D,F,G,H,I)):=by unfold qdy;rw[if_pos z]
    generalize E.idxOf (D,F,G,H,I)=q at*;obtain⟨a2,a3,hc,hf,x⟩:=R.num0 (i:=k) l;have x:=x q;rw[z16 O l] at x;have N:(wr.alloc (.cells #[.bool D,.int .i64 F,.string (zaf G),.int .i64 H,.int .i64 I] 75)).grownBy ((wr.alloc (.cells #[.bool D,.int .i64 F,.string (zaf G),.int .i64 H,.int .i64 I] 75)).setCell ⟨w.heap.size+1,k,none⟩ (.int .u64 (q:Int))) (some (w.heap.size+1)):=zce;have HS:=qwk x;have HM:=qwk (U.kept N (by simp));have T:=qwk (o.kept N (.inr (fun e=>by have:=(qqj o _ e).1;omega)));have HB:=qwk (b1.setCell (p:=⟨w.heap.size+1,k,none⟩) (by simp) (.int .u64 (q:Int)));have a:=qwk g;have HX:=qwk t;clear g t x o N s;go_wp2_with (first
     |(refine zog rfl (.tmp 23) (.tmp 24) 244 rfl z9g qkr (qm1 _) U r u rfl rfl ?_
       rw[HX.out];simp only[qsi,quk,qdx]))
    go_roundw
    case rel=>exact⟨k+1,cE,AE,by omega,by go_num,by rw[a.out],by rw[a.out];exact T.out,by rw[a.out];exact HM.out,by rw[a.out];exact HS.out,HB.out,by simp;omega⟩
    case measure=>simp[intOf];omega
   ·rw[if_neg z] at g
    have t:qdy E (D,F,G,H,I)=none:=by unfold qdy;rw[if_neg z]
    have a9:IntKind.u64.wrap (E.length:Int)=(E.length:Int):=by rw[qwp];omega
    have a:=qwk g;have HX:=qwk t;have HN:=qwk z;clear g t s z;go_wp2_with (first
     |(refine zog rfl (.tmp 23) (.tmp 24) 244 rfl z9g qkr (qm1 _) U r u rfl rfl ?_
       rw[HX.out];simp only[qui,quj,qdx])
     |(refine zzv rfl (.tmp 33) (.tmp 34) (.tmp 35) 244 rfl z9g qkr U (by simp only[maxLen];omega) r u E.length rfl rfl rfl ?_
       intro w4 M4 S;have a7:=S.size;have a1:=BC.grown S (by intro e;injection e with e;omega);obtain⟨q0,q1,q2,q3,q4⟩:=zc3 a1;have C:=o.kept S (.inr (fun e=>by have:=(qqj o _ e).1;omega));have Z:=R.kept S (.inr (by simp[Value.ownBlock]));have b4:=qxa b1 S (qq0 _) (qq0 _);simp only[qww] at a7;clear U o R BC S)
     |(refine zd9 qp2 rfl (.tmp 36) (.tmp 38) rfl (W:=w) (B:=w.heap.size) (base:=w.heap.size+2) (n:=E.length) C rfl rfl b4 (by omega) (by omega) rfl (by simp[Value.oneCell']) (by omega) (by simp only[maxLen];omega) ?_
       intro A5 c5 w5 a8 _ o5 g5 b5 b3 _;have M5:=M4.kept g5 (fun e=>by have:=(qqj C _ e.symm).1;omega)
       have a0:=Z.kept g5 (.inr (fun e=>by have:=(qqj C _ (show _=some (w.heap.size+1) by rw[<-e];rfl)).1;omega))
       obtain⟨a2,a3,hc,hf,x⟩:=a0.num0 (i:=k) l;have x:=x E.length;rw[z16 O l] at x;have N:w5.grownBy (w5.setCell ⟨w.heap.size+1,k,none⟩ (.int .u64 (E.length:Int))) (some (w.heap.size+1)):=zce;have HS:=qwk x;have HM:=qwk ((M5.kept N (by simp)).eqf (fun d _=>z9l HN.out));have T:=qwk (o5.kept N (.inr (fun e=>by have:=(qqj o5 _ e).1;omega)));have HB:=qwk (b5.setCell (p:=⟨w.heap.size+1,k,none⟩) (by simp) (.int .u64 (E.length:Int)));clear x M4 C Z M5 a0 o5 N g5 q0 q1 q2 q3 q4))
    go_roundw
    case rel=>exact⟨k+1,c5,A5,by omega,by go_num,by rw[a.out];simp,by rw[a.out];simpa[zbe,recs,zay] using T.out,by rw[a.out];simpa using HM.out,by rw[a.out];exact HS.out,HB.out,by simp;omega⟩
    case measure=>simp[intOf];omega
  ·obtain rfl:k=L.length:=by omega
   rw[quw] at Q K;rw[qsz,qup,qra] at K;have Q:=zfd Q (show w.heap.size<=w.heap.size+2 by omega);have K:=K.base_le (show w.heap.size<=w.heap.size+1 by omega);have T:=qwk Q;have HP:=qwk K;clear Q K M;go_wp2_with fail
   go_ret2
   refine⟨_,_,_,_,_,rfl,?_,HP.out,b⟩;rw[quw];exact T.out
theorem qar{t:Int}{b:List Nat}{n:Int}(h: ¬(0<=t/\t<=3/\0<=n/\n<=65536)):IsPl zaj t b n none:=
 ⟨fun l e=>(by cases e),fun l _ c a=>by have:=(plOk_iff.1 (plO_iff.1 a).1).1;omega⟩
theorem z0b{w:World}{A:Option Addr}{c m:Nat}{b:List Nat}{t n:Int}(h:Reads w w.heap.size 1 A m (zar .u8 b))(f:∀x∈b,x<256)(hm:m<=140737488351232):
 Calls Tryz.prog 154 #[.int .i64 t,.slice A m c,.int .i64 n] w (qpu t b n w):=by
 by_cases d:0<=t/\t<=3/\0<=n/\n<=65536
 ·obtain⟨n,rfl⟩:=qsu d.2.2.1
  by_cases k:t=1
  ·subst k
   have a:=zme (w:=w) (t:=1) (n:=(n:Int));rw[decide_eq_true d] at a;have a:=qwk a;have U:=qwk (zqy (c:=c) (n:=n) h f hm (by omega));have g:=qwk (zxa (n:=(n:Int)) f);clear h f d;generalize(zch b 1 (n:Int)).map (fun l=>l.map zw9)=O at*;go_enter Tryz.func154,Tryz.ntmps154
   go_wp2_with fail
   refine a.out.mono ?_;rintro e p ⟨rfl,rfl⟩;go_wp2_with fail
   refine U.out.mono ?_;intro e u j;cases O with
   |none=>
    obtain⟨rfl,i⟩:=j;go_wp2_with fail
    go_ret2
    exact⟨none,g.out,rfl,i⟩
   |some l=>
    obtain⟨q,s,r,rfl,o,i⟩:=j;go_wp2_with fail
    go_ret2
    exact⟨some l,g.out,_,_,_,rfl,o,i⟩
  ·exact zz1 h f hm (by omega) (by omega)
 ·have a:=zme (w:=w) (t:=t) (n:=n)
  rw[decide_eq_false d] at a;have a:=qwk a;have g:=qwk (qar (b:=b) d);clear h f d;go_enter Tryz.func154,Tryz.ntmps154
  go_wp2_with fail
  refine a.out.mono ?_;rintro e p ⟨rfl,rfl⟩;go_wp2_with fail
  go_ret2
  exact⟨none,g.out,rfl,qw4 _⟩
open Go.RowKit Go.Hm Go.WideShapes Go.ChangeShapes Go.Deep
theorem CellFine.data{c:zab}(h:CellFine c):zaj c:=⟨h.1,h.2.1⟩
end Go.Proofs.Y
namespace Go.Hm
open Go Go.RowKit
def zvb(S:St):za2 × St:=
 (((zcv ((lenS 100 S).1:Int) (lenS 100 S).2).1,((zbn (zcv ((lenS 100 S).1:Int) (lenS 100 S).2).2).1:Int),decide ((zbn (zbn (zcv ((lenS 100 S).1:Int) (lenS 100 S).2).2).2).1=1)),
   if 1<(zbn (zbn (zcv ((lenS 100 S).1:Int) (lenS 100 S).2).2).2).1 then none else(zbn (zbn (zcv ((lenS 100 S).1:Int) (lenS 100 S).2).2).2).2)
def ze8:Nat->St->List za2 × St
 |0,S=>([],S)
 |n+1,S=>((zvb S).1::(ze8 n (zvb S).2).1,(ze8 n (zvb S).2).2)
theorem z0l{S:St}(h:S.ok):(zvb S).2.ok:=by
 unfold zvb;simp only;split
 ·exact qxo
 ·exact zo8 (zo8 (zf8 (zbo h)).1)
theorem z21:∀(n:Nat) {S:St},S.ok->(ze8 n S).2.ok
 |0,_,h=>h
 |n+1,_,h=>z21 n (z0l h)
theorem zmx:∀(n:Nat) (S:St),(ze8 n S).1.length=n
 |0,_=>rfl
 |n+1,S=>by rw[ze8,qr1,zmx n]
theorem zti:∀(n:Nat) (S:St),(ze8 (n+1) S).1=(ze8 n S).1++[(zvb (ze8 n S).2).1]/\(ze8 (n+1) S).2=(zvb (ze8 n S).2).2
 |0,S=>⟨rfl,rfl⟩
 |n+1,S=>by
  obtain⟨h1,h2⟩:=zti n (zvb S).2;refine⟨?_,h2⟩;rw[ze8,h1];rfl
def qbe(c:za2):Prop:=(∀x∈c.1,x<256)/\c.1.length<=100
theorem zxr{S:St}(h:S.ok):qbe (zvb S).1:=by refine⟨(zf8 (zbo h)).2,?_⟩;have a:=zqf (n:=((lenS 100 S).1:Int)) (S:=(lenS 100 S).2) (by omega);have b:=zdo (m:=100) S (by omega) h;unfold zvb;simp only;omega
theorem ztj:∀(n:Nat) {S:St},S.ok-> ∀c∈(ze8 n S).1,qbe c
 |0,_,_,c,a=>by simp[ze8] at a
 |n+1,S,h,c,a=>by
  rw[ze8,qsm] at a;rcases a with rfl|a
  ·exact zxr h
  ·exact ztj n (z0l h) c a
def getC(S:St):List za2 × St:=
 if(ze8 (lenS 64 S).1 (lenS 64 S).2).2=none\/ ¬zcz (ze8 (lenS 64 S).1 (lenS 64 S).2).1=0 then([],none) else ze8 (lenS 64 S).1 (lenS 64 S).2
open Go Go.RowKit
theorem qhz(z:Array Value)(n:Nat):(madeCells z (n*z.size)).toList=(List.replicate n z.toList).flatten:=by
 induction n with
 |zero=>simp[madeCells]
 |succ n d=>
  rw[qt4,qul,<-d];simp only[madeCells,qum,qun,qsv,List.range_add,que,qvg,qv0,qra,qsj];congr 1
  refine qre (by simp) fun i c f=>?_
  have b:i<z.size:=by simpa using c
  have e:(n*z.size+i)%z.size=i:=by rw[qrl,Nat.mul_add_mod,qr8 b]
  simp[e,b]
section
variable{P:Program}{ops:Array Oper}{rest:List Oper}{o:Oper}{a:Act}{Q:Exit->Act->World->Prop}
theorem ql1{w:World}{t e:TypeId}{z:Array Value}{sz b:Nat}(E:ElT P t e (.agg z) sz b)(p:z.size=sz){kl kc:IntKind}(n:Nat)(q:n*b<=140737488355328)(hm:n<=maxLen):
 (Instr.makeSlice t (.int kl (n:Int)) (.int kc (n:Int))).run P w= .ok (.slice (some ⟨w.heap.size,0,none⟩) n n) (w.alloc (.cells (List.replicate n z.toList).flatten.toArray e)):=by
 obtain⟨i,m,k,j,d⟩:=info_parts E.hi;have g:(n:Int)<=9223372036854775807:=by have h:=hm;simp only[maxLen] at h;omega
 have f:(i.bytes:Int)*(n:Int)<=281474976710656:=by
  have h:((i.bytes*n:Nat):Int)<=281474976710656:=by rw[d,qrl];omega
  rwa[qrm] at h
 have c:=run_make (P:=P) w t e i (.agg z) E.ht m k kl kc (n:Int) (n:Int) (by omega) (by omega) f g;have l:madeCells (Value.agg z).cells (n*i.size)=(List.replicate n z.toList).flatten.toArray:=by apply Array.toList_inj.1;rw[j,<-p];exact qhz z n
 rw[qrn,l] at c;exact c
theorem z7b{w:World}{t e:TypeId}{z:Array Value}{sz b:Nat}(E:ElT P t e (.agg z) sz b)(r:z.size=sz)(d:o.guard=none)(g f:Operand)(q:o.op=Op.makeSlice t g f)
 {kl kc:IntKind}{L C:Int}(n:Nat)(m:a.eval g= .int kl L)(l:a.eval f= .int kc C)(k:L=(n:Int))(i:C=(n:Int))(p:n*b<=140737488355328)(hm:n<=maxLen)
 (h:∀w',Blk w' w.heap.size e (List.replicate n z.toList).flatten.toArray->New w w'->w'.heap.size=w.heap.size+1->wpList P ops Q rest (a.put o.dst (.slice (some ⟨w.heap.size,0,none⟩) n n)) w'):
 wpList P ops Q (o::rest) a w:=by
 subst k i;have c:=ql1 (w:=w) E r (kl:=kl) (kc:=kc) n p hm;refine wpList_plain d fun K j=>?_
 unfold Oper.wp;simp[execOp,q,m,l,c,Result.andThen];exact j _ _ (h _ (by simpa using qw1 w e (List.replicate n z.toList).flatten.toArray) ((qwd _ _).alloc (qq0 _) _) (by simp))
theorem Blk.setCells{g:Nat}{t:TypeId}:∀(c:List Value) {w:World} {A b B:List Value},Blk w g t (A++(b++B)).toArray->b.length=c.length->Blk (w.setCells g A.length c) g t (A++(c++B)).toArray
 | [],w,A,b,B,h,hl=>by
   obtain rfl:=qu6.1 hl;exact h
 |v::c,w,A,[],B,h,hl=>by simp at hl
 |v::c,w,A,x::b,B,h,hl=>by
  have d:=h.set_ A.length v;have e:(A++(x::b++B)).toArray.setIfInBounds A.length v=((A++[v])++(b++B)).toArray:=by rw[qta,qsy _ _ (qq0 _),qsz];simp
  rw[e] at d;have f:=Blk.setCells c d (by simpa using hl);rw[qrp] at f;show Blk ((w.setCell ⟨g,A.length,none⟩ v).setCells g (A.length+1) c) g t (A++(v::c++B)).toArray;simpa using f
theorem zk7{g:Nat}:∀(b:List Value) (w:World) (o:Nat),w.grownBy (w.setCells g o b) (some g)/\(w.setCells g o b).heap.size=w.heap.size
 | [],w,_=>⟨qql w _,rfl⟩
 |v::b,w,o=>by
  have h1:w.grownBy (w.setCell ⟨g,o,none⟩ v) (some g):=⟨rfl,rfl,rfl,by simp[World.setCell],fun k _ c=>qwc _ _ _ _ (fun e=>c (by rw[e]))⟩;obtain⟨d,f⟩:=zk7 b (w.setCell ⟨g,o,none⟩ v) (o+1);exact⟨qqm h1 d,by show((w.setCell ⟨g,o,none⟩ v).setCells g (o+1) b).heap.size=_;rw[f];simp[World.setCell]⟩
theorem zvr{w:World}(e:o.guard=none)(ty:TypeId)(x y:Operand)(n:o.op= .store ty x y)
 (g:Nat)(us:Array Value){A c B:List Value}{m:Nat}(p:a.eval x= .pointer (some ⟨g,m,none⟩))(q:a.eval y= .agg us){t:TypeId}(d:Blk w g t (A++(c++B)).toArray)(l:A.length=m)(b:c.length=us.size)
 (hi:(P.info? ty).map (·.size)=some us.size)(k:us.all (·.oneCell')=true)
 (h:∀W,Blk W g t (A++(us.toList++B)).toArray->w.grownBy W (some g)->W.heap.size=w.heap.size->wpList P ops Q rest (a.put o.dst undef) W):wpList P ops Q (o::rest) a w:=by
 subst l;refine wpList_store_mid e ty x y n g A.length us p q (fun j r=>⟨?_,d.frozen _⟩) hi k ?_
 ·rw[d.cell,qus (by simp;omega)]
  rfl
 ·obtain⟨f,i⟩:=zk7 us.toList w A.length (g:=g)
  exact h _ (Blk.setCells us.toList d (by simpa using b)) f i
end
end Go.Hm
