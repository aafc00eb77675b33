import Derived.Test.YtbahbnbpmfgimaaGreatDoorBun12
import Derived.Test.YtbahbnbpmfgimaaGreatDoorBun13
import Derived.Test.YtbahbnbpmfgimaaGreatDoorBun14
set_option maxHeartbeats 4000000
set_option maxRecDepth 100000
namespace Go.Hm
open Go Go.RowKit
theorem zpw(n:Nat):∀k,k<=64->n<18446744073709551616->(Lib.bitLen n<=k↔n<2^k):=by
 intro k c b;refine⟨fun h=>?_,fun h=>Lib.bitLen_le n k c h⟩;induction k generalizing n with
 |zero=>
  by_cases a:n=0
  ·omega
  ·have:=Lib.bitLen_half n a b
   omega
 |succ k d=>
  by_cases a:n=0
  ·subst a;exact qsn _
  ·have e:=Lib.bitLen_half n a b
   have f:=d (n/2) (by omega) (by omega) (by omega);rw[qrx];omega
theorem z36{x:Nat}(c:x≠0)(h:x<9223372036854775808):Lib.bitLen x=x.log2+1/\x.log2<63:=by
 have a:=qrv c;have b:=qrw (n:=x);have g:x.log2<63:=(Nat.pow_lt_pow_iff_right (by omega:1<2)).1 (qso a h);have e:=(zpw x (x.log2+1) (by omega) (by omega)).2 b;have f: ¬Lib.bitLen x<=x.log2:=fun d=>by have:=(zpw x x.log2 (by omega) (by omega)).1 d;omega
 omega
end Go.Hm
namespace Go.Proofs.Y
open Go.RowKit Go.Hm
theorem qjr(x:Nat)(w:World)(h:x<=9223372036854775807):Calls Tryz.prog 103 #[.int .u64 (x:Int)] w (zd5 (.int .i64 (Lib.bitLen x:Nat)) w):=by
 have L:=qwk (bits_Len64 (x:Int) w (by omega) (by omega));go_enter Tryz.func103,Tryz.ntmps103
 go_wp2_with (go_at_call 120;refine L.out.mono ?_;rintro e a ⟨rfl,rfl⟩)
 go_ret
 exact⟨by simp,rfl⟩
theorem z7s(n:Int)(w:World)(v: -9223372036854775808<=n)(h:n<=9223372036854775807):Calls Tryz.prog 72 #[.int .i64 n] w (zd5 (.int .i64 (za8 n.toNat:Nat)) w):=by
 by_cases f:n<2
 ·have o:za8 n.toNat=0:=by unfold za8;exact if_pos (by omega)
  rw[o];have d:decide (n<2)=true:=decide_eq_true f;go_enter Tryz.func72,Tryz.ntmps72
  go_wp2
  go_ret
  exact⟨by simp,rfl⟩
 ·have d:decide (n<2)=false:=decide_eq_false f
  obtain⟨m,rfl⟩:∃m:Nat,n=(m:Int):=⟨n.toNat,by omega⟩;obtain⟨g,q,r⟩:=zsk (n:=m) (by omega);obtain⟨b,s⟩:=z36 (x:=m-1) (by omega) (by omega);have L:=qjr (m-1) w (by omega);rw[b] at L;have L:=qwk L;have t:(m:Int)-1=((m-1:Nat):Int):=by omega
  rw[qrn,g];have l:2^(m-1).log2<9223372036854775808:=by omega
  generalize j:(m-1).log2=k at*;obtain⟨p,a⟩:∃p,p=2^k:=⟨_,rfl⟩;have u:((k+1:Nat):Int)-1=(k:Int):=by omega
  clear g q r b j;go_enter Tryz.func72,Tryz.ntmps72
  go_wp2_with (go_at_call 103;refine L.out.mono ?_;rintro e y ⟨rfl,rfl⟩)
  go_ret
  have c:(2:Int)^k=(p:Int):=by rw[a];simp
  have i:wrap64 ((2:Int)^k)=((2^k:Nat):Int):=by rw[c,<-a];rw[<-a] at l;unfold wrap64;omega
  exact⟨by rw[<-i];rfl,rfl⟩
end Go.Proofs.Y
namespace Go.Hm
open Go Go.RowKit
abbrev zcy:List Nat:=[110,111,100,101]
abbrev zbz:List Nat:=[110,111,110,101]
def zca(s:List Nat)(L:List (List Nat)):List Nat:=(zey s L).map Int.toNat
def zna(d:List Nat):Prop:=d.length=32/\ ∀x∈d,x<256
theorem qei(l:List Nat):∀x∈zef l,0<=x/\x<256:=by intro x a;unfold zef zv8 at a;obtain⟨k,_,rfl⟩:=qqu.1 a;unfold qmq;omega
theorem zl4(s:List Nat)(L:List (List Nat)):∀x∈zey s L,0<=x/\x<256:=by
 unfold zey;cases za9 s L with
 |none=>
  intro x a;have:x=0:=(qs3.1 a).2;omega
 |some f=>exact qei f
theorem znf{l:List Int}(h:∀x∈l,0<=x):(l.map Int.toNat).map (fun n:Nat=>(n:Int))=l:=by
 rw[qsj];conv=>rhs;rw[<-qua l]
 exact qsk fun x a=>by have:=h x a;simp;omega
theorem zcg(s:List Nat)(L:List (List Nat)):zna (zca s L):=by refine⟨by unfold zca;rw[qtl,zl3],fun x a=>?_⟩;obtain⟨y,b,rfl⟩:=qqu.1 a;have:=zl4 s L y b;omega
theorem z8f(s:List Nat)(L:List (List Nat)):zar .u8 (zca s L)=za5 .u8 (zey s L):=by
 have:=znf (l:=zey s L) fun x a=>(zl4 s L x a).1
 unfold zar za5 zca;conv=>rhs;rw[<-this]
 simp only[qsj];rfl
theorem zv9{s t:List Nat}{L M:List (List Nat)}(h:zca s L=zca t M):zey s L=zey t M:=by
 have a:=znf (l:=zey s L) fun x c=>(zl4 s L x c).1
 have b:=znf (l:=zey t M) fun x c=>(zl4 t M x c).1
 unfold zca at h;rw[<-a,h,b]
theorem zgd{a b:List Nat}:za9 zcy [a,b]=some (zb2 zcy [a,b]):=by unfold za9;exact if_pos ⟨by decide,by decide,by simp⟩
theorem zng:za9 zbz []=some (zb2 zbz []):=by unfold za9;exact if_pos ⟨by decide,by decide,by simp⟩
def zc9(L:List (List Nat)):List Nat × List (List Nat):=
 if _h0:L.length=0 then(zca zbz [],[zb2 zbz []])
 else if _h1:L.length=1 then(L.getD 0 [],[])
 else
  let a:=zc9 (L.take (za8 L.length))
  let b:=zc9 (L.drop (za8 L.length))
  (zca zcy [a.1,b.1],a.2++b.2++[zb2 zcy [a.1,b.1]])
termination_by L.length
decreasing_by
 ·have:=zho (n:=L.length) (by omega)
  rw[qqx];omega
 ·have:=zho (n:=L.length) (by omega)
  rw[qqw];omega
theorem zjf:zc9 []=(zca zbz [],[zb2 zbz []]):=by rw[zc9];rfl
theorem zgo(x:List Nat):zc9 [x]=(x,[]):=by rw[zc9];rfl
theorem zhr{L:List (List Nat)}(h:2<=L.length):zc9 L=(zca zcy [(zc9 (L.take (za8 L.length))).1,(zc9 (L.drop (za8 L.length))).1],
 (zc9 (L.take (za8 L.length))).2++(zc9 (L.drop (za8 L.length))).2++[zb2 zcy [(zc9 (L.take (za8 L.length))).1,(zc9 (L.drop (za8 L.length))).1]]):=by
 rw[zc9,dif_neg (by omega),dif_neg (by omega)]
theorem z8g{C:List (List Nat)->Prop}(c:C [])(d:∀x,C [x])(e:∀L,2<=L.length->C (L.take (za8 L.length))->C (L.drop (za8 L.length))->C L):∀L,C L:=by
 intro L;induction a:L.length using Nat.strongRecOn generalizing L with
 |_ n b=>
  match L,a with
  | [],_=>exact c
  | [x],_=>exact d x
  |x::y::r,a=>
   have f:=zho (n:=(x::y::r).length) (by simp);refine e _ (by simp) (b _ ?_ _ rfl) (b _ ?_ _ rfl)
   ·rw[qqx];omega
   ·rw[qqw];omega
def Digs(L:List (List Nat)):Prop:=∀d∈L,zna d
theorem Digs.take{L:List (List Nat)}(h:Digs L)(k:Nat):Digs (L.take k):=fun d a=>h d (qro a)
theorem Digs.drop{L:List (List Nat)}(h:Digs L)(k:Nat):Digs (L.drop k):=fun d a=>h d (qte a)
theorem zd7:∀L,Digs L->zna (zc9 L).1:=by
 refine z8g ?_ ?_ ?_
 ·intro _;rw[zjf];exact zcg _ _
 ·intro x h;rw[zgo];exact h x (by simp)
 ·intro L h _ _ _;rw[zhr h];exact zcg _ _
theorem zij:∀L,Digs L->1<=L.length->(zc9 L).2.length=L.length-1/\ ∀f∈(zc9 L).2,∃a b,zna a/\zna b/\za9 zcy [a,b]=some f:=by
 refine z8g ?_ ?_ ?_
 ·intro _ h;simp at h
 ·intro x h _;rw[zgo];exact⟨rfl,by simp⟩
 ·intro L h k l d _
  obtain⟨m,n,o⟩:=zho h;obtain⟨e,g⟩:=k (d.take _) (by rw[qqx];omega);obtain⟨i,j⟩:=l (d.drop _) (by rw[qqw];omega);rw[zhr h];refine⟨?_,?_⟩
  ·simp only[qrp,e,i,qqx,qqw,qr1,qub]
   omega
  ·intro f c
   simp only[qr5,qr6] at c;rcases c with(c|c)|rfl
   ·exact g f c
   ·exact j f c
   ·exact⟨_,_,zd7 _ (d.take _),zd7 _ (d.drop _),zgd⟩
theorem zy7:∀L,Digs L-> ∀M,Digs M->M.length=L.length->(zc9 L).1=(zc9 M).1->L≠M-> ∃x∈(zc9 L).2,∃y∈(zc9 M).2,x≠y/\zef x=zef y:=by
 refine z8g ?_ ?_ ?_
 ·intro _ M _ c _ a
  exact absurd (qrh c).symm a
 ·intro x _ M _ c b a
  match M,c with
  | [y],_=>
    rw[zgo,zgo] at b;have b:x=y:=b;rw[b] at a;exact absurd rfl a
 ·intro L h l m f M g c b a
  obtain⟨A,B,C⟩:=zho h;have w:2<=M.length:=by omega
  rw[zhr h,zhr w] at b⊢;rw[c] at b⊢;have b:=zv9 b;have s:=zd7 _ (f.take (za8 L.length));have t:=zd7 _ (f.drop (za8 L.length));have u:=zd7 _ (g.take (za8 L.length));have v:=zd7 _ (g.drop (za8 L.length));have l:=l (f.take _) (M.take (za8 L.length)) (g.take _) (by rw[qqx,qqx,c]);have m:=m (f.drop _) (M.drop (za8 L.length)) (g.drop _) (by rw[qqw,qqw,c]);have z:zef (zb2 zcy [(zc9 (L.take (za8 L.length))).1,(zc9 (L.drop (za8 L.length))).1])=zef (zb2 zcy [(zc9 (M.take (za8 L.length))).1,(zc9 (M.drop (za8 L.length))).1]):=by unfold zey at b;rw[zgd,zgd] at b;exact b
  by_cases o:zb2 zcy [(zc9 (L.take (za8 L.length))).1,(zc9 (L.drop (za8 L.length))).1]=zb2 zcy [(zc9 (M.take (za8 L.length))).1,(zc9 (M.drop (za8 L.length))).1]
  ·have q:=(zp2 (L:=[(zc9 (L.take (za8 L.length))).1,(zc9 (L.drop (za8 L.length))).1]) (M:=[(zc9 (M.take (za8 L.length))).1,(zc9 (M.drop (za8 L.length))).1])
    (by intro p d;simp at d;rcases d with rfl|rfl;rw[s.1];omega;rw[t.1];omega) (by intro p d;simp at d;rcases d with rfl|rfl;rw[u.1];omega;rw[v.1];omega) zgd zgd).1 o
   have e:=q.2;simp only[qqe,and_true] at e;by_cases n:L.take (za8 L.length)=M.take (za8 L.length)
   ·have i:L.drop (za8 L.length)≠M.drop (za8 L.length):=fun i=>a (by rw[<-qtq (za8 L.length) L,n,i,qtq])
    obtain⟨x,j,y,k,r⟩:=m e.2 i;exact⟨x,by simp[j],y,by simp[k],r⟩
   ·obtain⟨x,j,y,k,r⟩:=l e.1 n
    exact⟨x,by simp[j],y,by simp[k],r⟩
  ·exact⟨_,by simp,_,by simp,o,z⟩
theorem zuc{A B:List (List Nat)}{x y:List Nat}(c:x∈A)(d:y∈B)(a:x≠y)(b:zef x=zef y):∃z,zdf A B=some z:=by
 cases he:zdf A B with
 |some z=>exact⟨z,rfl⟩
 |none=>
  unfold zdf at he;rw[List.findSome?_eq_none_iff] at he;have:=he x c;rw[Option.map_eq_none_iff,List.find?_eq_none] at this;exact absurd (decide_eq_true ⟨a,b⟩) (this y d)
end Go.Hm
namespace Go.Proofs.Y
open Go.RowKit Go.Hm
theorem zge(L:List Nat)(x:Nat)(c:x<=64)(a:L.length<=65536)(b:wid L<=x):zqe L (x:Int)=some (low (pk x L) ((x*L.length+7)/8)):=by unfold zqe;rw[if_pos ⟨by omega,by omega,a,by omega⟩,qrn]
theorem zio(L:List Nat)(x:Nat)(f:x<=64)(g:L.length<=65536)(e:wid L<=x)(d:∀x∈L,x<=18446744073709551615):zch (low (pk x L) ((x*L.length+7)/8)) (x:Int) (L.length:Int)=some L:=by
 have b:=(zhj L x f d).1 e;have a:=qmr x L b;have c:num (low (pk x L) ((x*L.length+7)/8))=pk x L:=by rw[z7o,qj6,qr8];exact qqv a (qsb (by omega) (by omega))
 unfold zch;rw[if_pos ⟨by omega,by omega,by omega,by omega,by simp only[qrn,za0],by simp only[qrn,c];exact a⟩];simp only[qrn,c];rw[qj5 x L b _ (qr8 a)]
theorem zld{b l:List Nat}{x n:Int}(k:∀x∈b,x<256)(h:zch b x n=some l):zqe l x=some b/\(l.length:Int)=n/\(wid l:Int)<=x/\(∀y∈l,y<=18446744073709551615)/\l.length<=65536:=by
 unfold zch at h;split at h
 ·rename_i m
  obtain⟨i,q,j,r,e,f⟩:=m;injection h with h;obtain⟨x,rfl⟩:=qsu i;obtain⟨n,rfl⟩:=qsu j;simp only[qrn] at e f h;have d:x<=64:=by omega
  have a:∀y∈l,y<2^x:=by rw[<-h];exact qj3 _ _ _
  have c:l.length=n:=by rw[<-h,zfc]
  have s:2^x<=2^64:=qsb (by omega) d;have g:∀y∈l,y<=18446744073709551615:=fun y p=>by have:=a y p;omega
  have o:wid l<=x:=(zhj l x d g).2 a;refine⟨?_,by omega,by omega,g,by omega⟩;rw[zge l x d (by omega) o,c,<-e,<-h,qj4,qr8 f,zub b k]
 ·cases h
end Go.Proofs.Y
namespace Go.Hm
open Go Go.RowKit Go.Maps
abbrev DWn:=DataW Unit
def qdx(p:Nat):Value:= .int .u64 (p:Int)
def zzt(p:Nat):DWn:= .lit (.int .u64 (p:Int))
def qoq:Value->Option (DWn × List MemPlace)
 | .int .u64 a=>some (.lit (.int .u64 a),[])
 |_=>none
theorem qkq(p:Nat):qoq (qdx p)=some (zzt p,[]):=rfl
theorem qfi{v:Value}{z:DWn × List MemPlace}(h:qoq v=some z):∃p:Int,v= .int .u64 p/\z=(.lit (.int .u64 p),[]):=by
 unfold qoq at h;split at h
 ·rename_i a
  exact⟨a,rfl,(qqf h).symm⟩
 ·cases h
def Bok(c:zab):Prop:=∀z∈c.2.2.1,z<256
theorem z9f{c d:zab}(g:Bok c)(i:Bok d)(h:zde c=zde d):c=d:=by obtain⟨j,l,m,o,p⟩:=c;obtain⟨q,r,t,u,v⟩:=d;simp only[zde,zay,Value.agg.injEq,Array.mk.injEq,qqe,Value.bool.injEq,Value.int.injEq,Value.string.injEq,true_and,and_true] at h;obtain⟨rfl,rfl,e,rfl,rfl⟩:=h;have:=congrArg (fun s=>s.toList) e;have a:=zg2 g i;dsimp only at this a;rw[this] at a;simp at a;rw[a]
theorem zsw{P:Program}{d:Nat}{t:TypeId}{c:Array Field}{cs:List Value}{L:List (TypeId × Nat)}(h:P.underlying t=some (.struct c))(a:cs.length=P.cellsOf t)(g:c.all (·.name != "_")=true)
 (e:c.toList.map (fun f=>(f.type,f.offset))=L):P.keyLits (d+1) t cs=(L.mapM fun p=>P.keyLits d p.1 ((cs.drop p.2).take (P.cellsOf p.1))).map List.flatten:=by
 rw[<-e,List.mapM_map];conv=>lhs;unfold Program.keyLits
 simp only[h];rw[if_pos ⟨a,g⟩];rfl
theorem qfj{P:Program}{d:Nat}{t:TypeId}{b:Bool}(a:P.underlying t=some .bool):P.keyLits (d+1) t [.bool b]=some [.bool b]:=by unfold Program.keyLits;simp only[a]
theorem zzu{P:Program}{d:Nat}{t:TypeId}{n:Int}(a:P.underlying t=some (.int .i64))(h: -9223372036854775808<=n/\n<=9223372036854775807):P.keyLits (d+1) t [.int .i64 n]=some [.int .i64 n]:=by
 have c:(Lit.int .i64 n).wf=true:=by simp[Lit.wf,IntKind.min,IntKind.max,IntKind.signed,IntKind.bits];omega
 unfold Program.keyLits;simp[a,c]
theorem z4u{P:Program}{d:Nat}{t:TypeId}{s:ByteArray}(a:P.underlying t=some .string)(h:s.size<=maxLen):P.keyLits (d+1) t [.string s]=some [.string s.data.toList]:=by unfold Program.keyLits;simp[a,h]
section
variable{P:Program}{k e:TypeId}
def MapC(P:Program)(k:TypeId)(w:World)(b n:Nat)(f:zab->Option Nat):Prop:=
 ∃D:DWn,w.ownsMap P k qoq b n D/\IsMap D/\ ∀c kl,Bok c->keyOf P k (zde c)=some kl-> ∀zd,D.atKey kl zd=((f c).map zzt).getD zd
theorem MapC.made(w:World):MapC P k (w.alloc (.map #[] 0)) w.heap.size 0 fun _=>none:=
 ⟨.map [],qwt _ _ _ _,isMap_empty,fun _ _ _ _ _=>rfl⟩
variable{w:World}{b n:Nat}{f:zab->Option Nat}
theorem MapC.kept{w':World}{row:Option Nat}(h:MapC P k w b n f)(i:w.grownBy w' row)(a:some b≠row):MapC P k w' b n f:=by obtain⟨D,c,d,g⟩:=h;exact⟨D,c.kept i a,d,g⟩
theorem MapC.lt(h:MapC P k w b n f):b<w.heap.size:=by obtain⟨D,a,_⟩:=h;exact a.lt
theorem MapC.eqf{f':zab->Option Nat}(h:MapC P k w b n f)(e:∀c,Bok c->f c=f' c):MapC P k w b n f':=by obtain⟨D,d,g,i⟩:=h;exact⟨D,d,g,fun c l a j m=>by rw[i c l a j m,e c a]⟩
theorem MapC.look{t:TypeId}(h:MapC P k w b n f)(K:Keyed P k)(v:P.underlying t=some (.map k e))(x:(zeroValue e).run P w= .ok (qdx 0) w){c:zab}(s:Bok c)(d:∃kl,keyOf P k (zde c)=some kl):
 (Instr.lookup t (.map (some b)) (zde c) true).run P w= .ok (.tuple #[qdx ((f c).getD 0),.bool (f c).isSome]) w:=by
 obtain⟨D,⟨A,l,r,F,_,rfl⟩,B,o⟩:=h;obtain⟨kl,d⟩:=d;have i:=o c kl s d;rcases fit_look true K v x r F d with⟨a,_,g⟩|⟨z,y,_,_,a,m,g,_⟩
 ·cases hf:f c with
  |none=>exact a
  |some p=>
   rw[hf] at i;have j:=(g .nil).symm.trans (i .nil);cases j
 ·obtain⟨p,u,rfl⟩:=qfi m
  rw[u] at a;cases hf:f c with
  |none=>
   rw[hf] at i;have j:=(g .nil).symm.trans (i .nil);cases j
  |some q=>
   rw[hf] at i;have j:(DataW.lit (.int .u64 p):DWn)=zzt q:=(g .nil).symm.trans (i .nil);simp only[zzt,qqo,qqp,true_and] at j;rw[j] at a;exact a
theorem MapC.put{t:TypeId}(h:MapC P k w b n f)(K:Keyed P k)(z:P.underlying t=some (.map k e))(x:n<maxLen){c:zab}(s:Bok c)(a:∃kl,keyOf P k (zde c)=some kl)(p:Nat):
 ∃w',(Instr.mapUpdate t (.map (some b)) (zde c) (qdx p)).run P w= .ok () w'/\MapC P k w' b (n+1) (fun d=>if d=c then some p else f d)/\w.grownBy w' (some b):=by
 obtain⟨D,q,l,r⟩:=h;obtain⟨kl,a⟩:=a;obtain⟨w',g,y,u⟩:=q.update K z x a (qkq p);refine⟨w',g,⟨_,y,l.put _ _,fun d A m i o=>?_⟩,u⟩;by_cases j:d=c
 ·subst j
  rw[i] at a;obtain rfl:=qqf a;show _=((if d=d then some p else f d).map zzt).getD o;rw[if_pos rfl,atKey_put_same l (K.key i)];rfl
 ·show _=((if d=c then some p else f d).map zzt).getD o
  rw[if_neg j,atKey_put_other,r d A m i];intro v;subst v;exact j (z9f m s (K.inj i a))
theorem zog{j:Array Oper}{rest:List Oper}{o:Oper}{a:Act}{Q:Exit->Act->World->Prop}(r:o.guard=none)(m x:Operand)(t:TypeId)(p:o.op=Op.lookup t m x true)
 (K:Keyed P k)(s:P.underlying t=some (.map k e))(v:(zeroValue e).run P w= .ok (qdx 0) w)(g:MapC P k w b n f){c:zab}(q:Bok c)(d:∃kl,keyOf P k (zde c)=some kl)(hm:a.eval m= .map (some b))(u:a.eval x=zde c)
 (h:wpList P j Q rest (a.put o.dst (.tuple #[qdx ((f c).getD 0),.bool (f c).isSome])) w):wpList P j Q (o::rest) a w:=by
 refine wpList_plain r fun y l=>?_
 have i:=g.look K s v q d;unfold Oper.wp;simp[execOp,p,hm,u,i,Result.andThen];exact l _ _ h
theorem zzv{l:Array Oper}{rest:List Oper}{o:Oper}{a:Act}{Q:Exit->Act->World->Prop}(u:o.guard=none)(m x v:Operand)(t:TypeId)(r:o.op=Op.mapUpdate t m x v)
 (K:Keyed P k)(z:P.underlying t=some (.map k e))(i:MapC P k w b n f)(y:n<maxLen){c:zab}(s:Bok c)(g:∃kl,keyOf P k (zde c)=some kl)(p:Nat)
 (hm:a.eval m= .map (some b))(B:a.eval x=zde c)(A:a.eval v=qdx p)
 (h:∀w',MapC P k w' b (n+1) (fun d=>if d=c then some p else f d)->w.grownBy w' (some b)->wpList P l Q rest (a.put o.dst undef) w'):wpList P l Q (o::rest) a w:=by
 refine wpList_plain u fun E q=>?_
 obtain⟨w',j,C,D⟩:=i.put K z y s g p;unfold Oper.wp;simp[execOp,r,hm,B,A,j,Result.andThen];exact q _ _ (h w' C D)
end
end Go.Hm
namespace Go.Proofs.Y
open Go.RowKit Go.Hm
theorem qfk{c:zab}(A:c.2.2.1.length<=140737488351232)(s: -9223372036854775808<=c.2.1/\c.2.1<=9223372036854775807)(t: -9223372036854775808<=c.2.2.2.1/\c.2.2.2.1<=9223372036854775807)(u: -9223372036854775808<=c.2.2.2.2/\c.2.2.2.2<=9223372036854775807):
 ∃kl,keyOf Tryz.prog 75 (zde c)=some kl:=by
 obtain⟨d,g,a,h,i⟩:=c;dsimp only at A s t u;have l:Tryz.prog.underlying 75=some (.struct (zdm Tryz.prog 75)):=by kernel_rfl
 have D:Tryz.prog.underlying 73=some (.struct (zdm Tryz.prog 73)):=by kernel_rfl
 have F:Tryz.prog.keyType 75=true:=by kernel_rfl
 have p:Tryz.prog.cellsOf 75=5:=by kernel_rfl
 have r:Tryz.prog.cellsOf 73=2:=by kernel_rfl
 have q:Tryz.prog.cellsOf 3=1:=by kernel_rfl
 have v:Tryz.prog.cellsOf 4=1:=by kernel_rfl
 have x:Tryz.prog.cellsOf 9=1:=by kernel_rfl
 have o:Tryz.prog.underlying 3=some (.int .i64):=by kernel_rfl
 have I:Tryz.prog.underlying 4=some .bool:=by kernel_rfl
 have J:Tryz.prog.underlying 9=some .string:=by kernel_rfl
 have y:(zdm Tryz.prog 75).toList.map (fun f=>(f.type,f.offset))=[(4,0),(3,1),(9,2),(73,3)]:=by kernel_rfl
 have z:(zdm Tryz.prog 73).toList.map (fun f=>(f.type,f.offset))=[(3,0),(3,1)]:=by kernel_rfl
 have G:(zdm Tryz.prog 75).all (·.name != "_")=true:=by kernel_rfl
 have H:(zdm Tryz.prog 73).all (·.name != "_")=true:=by kernel_rfl
 obtain⟨m,C⟩:∃m,Tryz.prog.types.size=m+2:=⟨Tryz.prog.types.size-2,by have:2<=Tryz.prog.types.size:=of_decide_eq_true (by kernel_rfl);omega⟩
 have B:(zde (d,g,a,h,i)).formed Tryz.prog 75=true:=by simp[zde,zay,Value.formed,l,p]
 unfold keyOf;rw[l];simp only[F,B,Bool.and_self,if_true,C];have E:(zaf a).size<=maxLen:=by rw[zbq];unfold maxLen;omega
 have j:(zde (d,g,a,h,i)).cells.toList=[.bool d,.int .i64 g,.string (zaf a),.int .i64 h,.int .i64 i]:=by simp[zde,zay,Value.cells]
 rw[j,zsw l (by rw[p];rfl) G y];simp only[quh,List.mapM_nil,v,q,x,r,qu8,qu9,qva,qrq];rw[qfj I,zzu o s,z4u J E,zsw D (by rw[r];rfl) H z];simp only[quh,List.mapM_nil,q,qu8,qu9,qva,qrq];rw[zzu o t,zzu o u];exact⟨_,rfl⟩
theorem qp1:(75:TypeId)<Tryz.prog.types.size:=of_decide_eq_true (by kernel_rfl)
theorem z9g:Maps.Keyed Tryz.prog 75:=Maps.Keyed.of_law (deep_law_laid Tryz.laidOut (m:=3) (by omega) qp1 (by kernel_rfl) (by kernel_rfl))
theorem qkr:Tryz.prog.underlying 244=some (.map 75 138):=by kernel_rfl
theorem qm1(w:World):(zeroValue 138).run Tryz.prog w= .ok (qdx 0) w:=by kernel_rfl
end Go.Proofs.Y
namespace Go.Hm
open Go Go.RowKit
def u64N(n:Int):Nat:=(n%18446744073709551616).toNat
def plE(t:Int)(c:zab):List Nat:=
 if t=0 then low (u64N c.2.1) 8 else if t=2 then vp c.2.2.1.length++c.2.2.1 else if t=3 then vp (zig c.2.2.2.1)++vp (zig c.2.2.2.2) else []
def zep(l:List zab):List Nat:=l.map fun c=>u64N c.2.1
def zjk(t:Int)(l:List zab):Bool:=decide (0<=t/\t<=3/\l.length<=65536)&&l.all fun c=>zad c t false
def plB(t:Int)(l:List zab):List Nat:=if t=1 then low (pk 1 (zep l)) ((1*l.length+7)/8) else l.flatMap (plE t)
def plO(t:Int)(l:List zab):Option (List Nat):=if zjk t l then some (plB t l) else none
theorem zzw(n:Int):u64N n<18446744073709551616:=by unfold u64N;omega
theorem plOk_iff{t:Int}{l:List zab}:zjk t l=true↔(0<=t/\t<=3/\l.length<=65536)/\ ∀c∈l,zad c t false=true:=by unfold zjk;rw[qsl,decide_eq_true_iff,qs9]
theorem zhz{c:zab}{t:Int}(h:zad c t false=true):c.1=false:=by
 unfold zad at h;cases e:c.1 with
 |false=>rfl
 |true=>rw[e] at h;simp at h
theorem qip{c:zab}(h:zad c 1 false=true):c.2.1=0\/c.2.1=1:=by have a:=zhz h;unfold zad at h;rw[a] at h;simp at h;exact h.2
theorem z9h{c:zab}(h:zad c 2 false=true):c.2.2.1.length<=65536:=by have a:=zhz h;unfold zad at h;rw[a] at h;simp at h;exact h.2
theorem zoh{c:zab}(h:zad c 3 false=true):(-1048576<=c.2.2.2.1/\c.2.2.2.1<=1048576)/\ -1048576<=c.2.2.2.2/\c.2.2.2.2<=1048576:=by have a:=zhz h;unfold zad inBox at h;rw[a] at h;simp at h;omega
theorem zqm{l:List zab}(h:∀c∈l,zad c 1 false=true):wid (zep l)<=1:=by
 have b:∀x∈zep l,x<2:=by intro x a;obtain⟨c,d,rfl⟩:=qqu.1 a;rcases qip (h c d) with e|e<;> rw[e]<;> decide
 exact(zhj _ 1 (by omega) fun x a=>by have:=b x a;omega).2 fun x a=>by simpa using b x a
theorem znk{t:Int}{c:zab}(h:zad c t false=true):(plE t c).length<=20+c.2.2.1.length:=by
 unfold plE;split
 ·rw[za0];omega
 ·split
  ·rename_i d
   subst d;have:=z9h h;have:=zae (n:=c.2.2.1.length) (by omega);rw[qrp];omega
  ·split
   ·rename_i d
    subst d;have:=zoh h;have a:=zae (n:=zig c.2.2.2.1) (by unfold zig;split<;> omega);have b:=zae (n:=zig c.2.2.2.2) (by unfold zig;split<;> omega);rw[qrp];omega
   ·simp
end Go.Hm
namespace Go.Proofs.Y
open Go.RowKit Go.Hm
theorem qfl{L:List zab}(a:∀c∈L,zad c 1 false=true)(b:L.length<=65536):zqe (zep L) 1=some (plB 1 L):=by refine(zge (zep L) 1 (by omega) (by unfold zep;rw[qtl];omega) (zqm a)).trans ?_;unfold plB;rw[if_pos rfl];unfold zep;rw[qtl]
theorem zme{w:World}{t n:Int}:Calls Tryz.prog 145 #[.int .i64 t,.int .i64 n] w (zd5 (.bool (decide (0<=t/\t<=3/\0<=n/\n<=65536))) w):=by
 by_cases a:0<=t;all_goals try by_cases b:t<=3
 all_goals try by_cases c:0<=n
 all_goals try by_cases d:n<=65536
 all_goals
  go_enter Tryz.func145,Tryz.ntmps145
  go_wp2
  go_ret
  exact⟨by simp;try omega,rfl⟩
theorem zoi{w:World}{t:Int}{A:Option Addr}{n c:Nat}{L:List zab}(h:Reads w w.heap.size 5 A n (recs zay L))(I:∀y∈L,y.2.2.1.length<=140737488351232)(hn:n<=4611686018427387903):
 Calls Tryz.prog 146 #[.int .i64 t,.slice A n c] w (zap (.bool (L.all fun c=>zad c t false)) w):=by
 obtain rfl:=h.lenCell;have P:=qwk h;have O:=qwk I;clear h I;obtain⟨M,z⟩:∃M,M=L.all fun c=>zad c t false:=⟨_,rfl⟩
 rw[<-z];have H:=qwk z;clear z;go_enter Tryz.func146,Tryz.ntmps146
 go_wp2_with fail
 go_loopw [9] (fun i wr=>∃k:Nat,k<=L.length/\i= .int .i64 (k:Int)/\New w wr/\Hid (∀c∈L.take k,zad c t false=true)) (fun i _=>L.length-(intOf i).toNat)
 case atStart=>exact⟨0,qq1 _,rfl,qw4 _,qwk (by simp)⟩
 case round=>
  obtain⟨k,hk,rfl,B,u⟩:=hrel;by_cases g:k<L.length
  ·obtain⟨Z,rfl,hb,R,S,T,U,V⟩:=(qxj P.out B).cell5 g
   have p:=zac L k (false,0,[],0,0) g;have d:L.getD k (false,0,[],0,0)∈L:=by rw[qsh,qqt g];exact qrf g
   have N:=O.out _ d;have r:=fun(W:World)=>zgf (w:=W) (b:=(L.getD k (false,0,[],0,0)).1) (n:=(L.getD k (false,0,[],0,0)).2.1) (s:=(L.getD k (false,0,[],0,0)).2.2.1) (x:=(L.getD k (false,0,[],0,0)).2.2.2.1) (y:=(L.getD k (false,0,[],0,0)).2.2.2.2) (cn:=[]) (t:=t) (nu:=false) N
   have f:zad (L.getD k (false,0,[],0,0)) t false=false->M=false:=fun e=>by
    rw[H.out];refine qvb.2 fun X=>?_
    have:=(qs9.1 X) _ d;rw[e] at this;cases this
   have a:zad (L.getD k (false,0,[],0,0)) t false=true-> ∀c∈L.take (k+1),zad c t false=true:=fun e c o=>by
    rw[p] at o;rcases qr5.1 o with o|o
    ·exact u.out c o
    ·rw[qr6.1 o];exact e
   clear p d N u;generalize L.getD k (false,0,[],0,0)=y at*;obtain⟨C,D,E,F,G⟩:=y;dsimp only at r R S T U V;generalize zad (C,D,E,F,G) t false=m at*;have r:Hid (∀W,Calls Tryz.prog 83 #[.agg #[.bool C,.int .i64 D,.string (zaf E),.int .i64 F,.int .i64 G],.agg #[.string ⟨#[]⟩,.int .i64 t,.bool false]] W (zap (.bool m) W)):=qwk r;have f:=qwk f;have a:=qwk a;have Y:New wr (wr.alloc (.cells #[.bool C,.int .i64 D,.string (zaf E),.int .i64 F,.int .i64 G] 75)):=(qwd _ _).alloc (qq0 _) _;go_wp2_with fail
   refine(r.out _).mono ?_;rintro e w1 ⟨rfl,Q⟩;have J:=qw5 (qw5 B Y) Q;cases m with
   |false=>
    have K:=f.out (by trivial);have j:=qwk K;clear f a K;go_wp2_with fail
    go_ret
    exact⟨by rw[j.out];rfl,J⟩
   |true=>
    have q:=a.out (by trivial);have v:=qwk q;clear f a q;go_wp2_with fail
    go_roundw
    case rel=>exact⟨k+1,by omega,by go_num,J,v⟩
    case measure=>simp[intOf];omega
  ·obtain rfl:k=L.length:=by omega
   have l:=u.out;rw[quw] at l;have j:Hid (M=true):=qwk (by rw[H.out];exact qs9.2 l);clear u l;go_wp2_with fail
   go_ret
   exact⟨by rw[j.out];rfl,B⟩
theorem qfm(L:List zab)(k:Nat)(h:k<L.length):(zep (L.take k)++List.replicate (L.length-k) 0).set k (u64N (L.getD k (false,0,[],0,0)).2.1)=zep (L.take (k+1))++List.replicate (L.length-(k+1)) 0:=by
 have a:(zep (L.take k)).length=k:=by unfold zep;rw[qtl,qqx];omega
 rw[qsy _ _ (by omega),a,qsz,show L.length-k=(L.length-(k+1))+1 by omega,qs0,qs1,zac L k (false,0,[],0,0) h];unfold zep;rw[que,qrc];rfl
theorem zws(n:Int):IntKind.u64.wrap n=(u64N n:Int):=by rw[qwp];unfold u64N;omega
theorem zuo{w:World}{A:Option Addr}{n c:Nat}{L:List zab}(h:Reads w w.heap.size 5 A n (recs zay L))(hn:n<=65536):
 Calls Tryz.prog 147 #[.slice A n c] w (OptB (zqe (zep L) 1) w):=by
 obtain rfl:=h.lenCell;have H:=qwk h;clear h;go_enter Tryz.func147,Tryz.ntmps147
 go_wp2_with (first
  |(refine zcf elW rfl (.tmp 8) (.tmp 8) rfl (W:=w) (B:=w.heap.size) L.length L.length rfl rfl rfl rfl (by omega) (qwd _ _) (qq0 _) rfl (by omega) (by simp only[maxLen];omega) ?_
    intro w3 d s j t))
 go_loopw [12] (fun i wr=>∃k:Nat,k<=L.length/\i= .int .i64 (k:Int)/\Own wr w.heap.size 138 (.slice (some ⟨w.heap.size,0,none⟩) L.length L.length) (zar .u64 (zep (L.take k)++List.replicate (L.length-k) 0))/\Below w.heap.size w wr) (fun i _=>L.length-(intOf i).toNat)
 case atStart=>exact⟨0,qq1 _,rfl,by simpa[zb5,zep] using d,j⟩
 case round=>
  obtain⟨k,hk,rfl,a,b⟩:=hrel;clear d s j t;by_cases g:k<L.length
  ·obtain⟨ad,rfl,hb,J,K,M,N,O⟩:=(qxj H.out b).cell5 g
   have f:=qfm L k g;have u:=zws (L.getD k (false,0,[],0,0)).2.1;have S:=b.size;generalize L.getD k (false,0,[],0,0)=y at*;obtain⟨U,F,V,X,Y⟩:=y;dsimp only at f u J K M N O;generalize u64N F=z at*;have D:New wr (wr.alloc (.cells #[.bool U,.int .i64 F,.string (zaf V),.int .i64 X,.int .i64 Y] 75)):=(qwd _ _).alloc (qq0 _) _;obtain⟨Q,R,hc,hf,q⟩:=(a.later D).num0 (i:=k) g;have q:=q z;rw[f] at q;have I:=qwk q;have m:=qw5 b D;have G:=qwk (m.setCell (p:=⟨w.heap.size,k,none⟩) (qq0 _) (.int .u64 (z:Int)));clear f q a;go_wp2_with fail
   go_roundw
   case rel=>exact⟨k+1,by omega,by go_num,I.out,G.out⟩
   case measure=>simp[intOf];omega
  ·obtain rfl:k=L.length:=by omega
   rw[qsz,qup,qra,quw] at a;have P:=qwk (zo7 (c:=L.length) 1 a.reads (fun x E=>by unfold zep at E;obtain⟨y,_,rfl⟩:=qqu.1 E;have:=zzw y.2.1;omega) (by omega) (by omega) (by omega));go_wp2_with fail
   refine P.out.mono ?_;intro e w5 C;have v:=b.size;generalize zqe (zep L) 1=o at*;cases o with
   |none=>
    obtain⟨rfl,r⟩:=C;go_wp2_with fail
    go_ret2
    exact⟨rfl,b.trans (qwo r v)⟩
   |some l=>
    obtain⟨Z,n5,c5,rfl,T,r⟩:=C;go_wp2_with fail
    go_ret2
    exact⟨_,_,_,rfl,T.base_le v,b.trans (qwo r v)⟩
theorem qm2:(vp 18446744073709551615).length=10:=by rw[zgk (by omega),zgk (by omega),zgk (by omega),zgk (by omega),zgk (by omega),zgk (by omega),zgk (by omega),zgk (by omega),zgk (by omega),zgj (by omega)];rfl
def qfn(w:World)(e:Ending)(w':World):Prop:=∃r:Nat,e= .returned (.int .i64 (r:Int))/\r<=10000000000/\New w w'
theorem qfo{w:World}{A:Option Addr}{n c:Nat}{L:List zab}(h:Reads w w.heap.size 5 A n (recs zay L))(M:n<=65536)(p:∀y∈L,y.2.2.1.length<=65536):
 Calls Tryz.prog 148 #[.slice A n c] w (qfn w):=by
 obtain rfl:=h.lenCell;have t:=qwk h;have s:=qwk p;clear h p;go_enter Tryz.func148,Tryz.ntmps148
 go_wp2_with fail
 go_loopw [3,8] (fun v i wr=>∃k r:Nat,k<=L.length/\i= .int .i64 (k:Int)/\v= .int .i64 (r:Int)/\r<=k*65546/\New w wr) (fun _ i _=>L.length-(intOf i).toNat)
 case atStart=>exact⟨0,0,qq1 _,rfl,rfl,by omega,qw4 _⟩
 case round=>
  obtain⟨k,r,J,rfl,rfl,N,d⟩:=hrel;by_cases b:k<L.length
  ·obtain⟨H,rfl,I,x,z,B,C,D⟩:=(qxj t.out d).cell5 b
   have G:=s.out (L.getD k (false,0,[],0,0)) (by rw[qsh,qqt b];exact qrf b);generalize L.getD k (false,0,[],0,0)=y at*;obtain⟨f,g,a,j,l⟩:=y;dsimp only at G x z B C D;have Y:=zbq a;have m:=qwk (qw1 wr 75 #[.bool f,.int .i64 g,.string (zaf a),.int .i64 j,.int .i64 l]);have F:New wr (wr.alloc (.cells #[.bool f,.int .i64 g,.string (zaf a),.int .i64 j,.int .i64 l] 75)):=(qwd _ _).alloc (qq0 _) _;have u:Hid (∀W,Calls Tryz.prog 132 #[.int .u64 18446744073709551615] W (zd5 (.int .i64 10) W)):=qwk fun W=>(z1z 18446744073709551615 W (by omega)).mono (by rintro e O ⟨rfl,rfl⟩;exact⟨by rw[qm2];rfl,rfl⟩)
   have P:IntKind.i64.wrap (10+(a.length:Int))=10+(a.length:Int):=qwj _ (by omega);have Q:IntKind.i64.wrap ((r:Int)+(10+(a.length:Int)))=(r:Int)+(10+(a.length:Int)):=qwj _ (by omega);go_wp2_with fail
   refine zav New [(true,0),(true,2),(true,3),(true,4),(false,1),(true,5),(true,6),(true,7)] qw4 qw5 (by kernel_rfl) (by kernel_rfl) (by kernel_rfl) (by kernel_rfl) ?_;have q:=qw6 (wr.alloc (.cells #[.bool f,.int .i64 g,.string (zaf a),.int .i64 j,.int .i64 l] 75));repeat(first
    |(refine za7 rfl rfl (fun K o=>?_);go_simp
      (with_reducible refine(u.out _).mono ?_);rintro e R ⟨rfl,rfl⟩
      refine o _ _ (qw4 _) ?_;clear o)
    |(refine qjq rfl rfl ?_;simp only[Act.put,qta,qs1,qtb])
    |(refine zas rfl rfl (v:=?_) (fun W E=>?_) ?_;rotate_left;(obtain⟨S,T,U,V,X⟩:=zc3 (m.out.below (qw5 q E) m.out.lt);go_simp<;> with_reducible rfl);simp only[Act.put,qta,qs1,qtb]))
   refine zdr ?_;go_wp2_with fail
   go_roundw
   case rel=>exact⟨k+1,r+(10+a.length),by omega,by go_num,by simp,by omega,qw5 (qw5 d F) q⟩
   case measure=>simp[intOf];omega
  ·obtain rfl:k=L.length:=by omega
   go_wp2_with fail
   go_ret
   exact⟨r,rfl,by omega,d⟩
end Go.Proofs.Y
namespace Go.Hm
open Go Go.RowKit
theorem zzy{c:zab}(h:zad c 3 false=true):c.2.2.1=[]:=by have a:=zhz h;unfold zad at h;rw[a] at h;simp at h;exact h.1.2
theorem zup{c:zab}{t:Int}(h:zad c t false=true):t=0\/t=1\/t=2\/t=3:=by
 have f:=zhz h;unfold zad at h;rw[f] at h;by_cases a:t=0
 ·exact .inl a
 ·by_cases b:t=1
  ·exact .inr (.inl b)
  ·by_cases d:t=2
   ·exact .inr (.inr (.inl d))
   ·by_cases e:t=3
    ·exact .inr (.inr (.inr e))
    ·simp[a,b,d,e] at h
end Go.Hm
namespace Go.Proofs.Y
open Go.RowKit Go.Hm
def qpr(W0:World)(B base:Nat)(l:List Nat)(e:Ending)(w':World):Prop:=∃A n c,e= .returned (.slice A n c)/\Own w' base 5 (.slice A n c) (zar .u8 l)/\Below B W0 w'
theorem qks{w W0:World}{B base:Nat}{A:Option Addr}{n cap:Nat}{l:List Nat}{t:Int}{c:zab}(o:Own w base 5 (.slice A n cap) (zar .u8 l))(hb:Below B W0 w)(d:B<=base)(X:base<=w.heap.size)(hn:n<=100000000000)
 (D:zad c t false=true)(ht:t≠1)(h8:∀z∈c.2.2.1,z<256)(hi: -9223372036854775808<=c.2.1/\c.2.1<=9223372036854775807):
 Calls Tryz.prog 149 #[.slice A n cap,.int .i64 t,zde c] w (qpr W0 B base (l++plE t c)):=by
 have I:=fun(e:t=2)=>z9h (by rw[<-e];exact D)
 have J:=fun(e:t=3)=>zoh (by rw[<-e];exact D)
 have K:=fun(e:t=3)=>zzy (by rw[<-e];exact D)
 have h1:=zup D;clear D;obtain⟨N,h,g,i,j⟩:=c;dsimp only at I J K h8 hi;unfold plE;dsimp only;show Calls Tryz.prog 149 #[.slice A n cap,.int .i64 t,.agg #[.bool N,.int .i64 h,.string (zaf g),.int .i64 i,.int .i64 j]] w _;have x:=qw1 w 75 #[.bool N,.int .i64 h,.string (zaf g),.int .i64 i,.int .i64 j];obtain⟨q,r,s,u,v⟩:=zc3 x;have T:New w (w.alloc (.cells #[.bool N,.int .i64 h,.string (zaf g),.int .i64 i,.int .i64 j] 75)):=(qwd _ _).alloc (qq0 _) _;have Z:=o.later T;have S:Below B W0 (w.alloc (.cells #[.bool N,.int .i64 h,.string (zaf g),.int .i64 i,.int .i64 j] 75)):=hb.trans (qwo T (by omega));have zs:=zbq g;have a1:=T.size;clear o hb;rcases h1 with rfl|rfl|rfl|rfl
 ·rw[if_pos rfl]
  have HL:=qwk (za0 (u64N h) 8);have U:=qwk (fun(W:World)=>z8t (w:=W) (A:=none) (n:=0) (c:=0) (l:=[]) (u64N h) qwy (by omega));have hw:=zws h;generalize u64N h=z at*;go_enter Tryz.func149,Tryz.ntmps149
  go_wp2_with fail
  refine(U.out _).mono ?_;rintro e p ⟨A2,F,c2,rfl,b,a⟩;rw[qrr] at b;have m:=Z.later a;have f:Below B W0 p:=S.trans (qwo a (by omega));have q2:F<=8:=by have:=b.len;rw[zaa,HL.out] at this;omega
  have E:=a.size;have H:=b.reads;clear b a
  go_wp2_with (refine zaq elB rfl (.tmp 19) (.tmp 23) rfl (W:=W0) (B:=B) m H rfl rfl f d (by omega) (by omega) (by simp only[maxLen];omega) ?_
               intro A3 c3 w3 _ _ G _ y _)
  go_ret
  exact⟨_,_,_,rfl,G,y⟩
 ·exact absurd rfl ht
 ·rw[if_neg (by decide),if_pos rfl]
  have a0:=I rfl;have V:=qwk (zae (n:=g.length) (by omega));have P:=qwk (fun(W:World)=>zdc none 0 0 [] g.length W qwy (by omega) (by omega));have hw:IntKind.u64.wrap (g.length:Int)=(g.length:Int):=by rw[qwp];omega
  clear I J K;go_enter Tryz.func149,Tryz.ntmps149
  go_wp2_with fail
  refine(P.out _).mono ?_;rintro e p ⟨A2,F,c2,rfl,b,a⟩;rw[qrr] at b;have m:=Z.later a;have f:Below B W0 p:=S.trans (qwo a (by omega));have q2:F<=10:=by have:=b.len;rw[zaa] at this;have:=V.out;omega
  have E:=a.size;have H:=b.reads;have O:=x.below a x.lt;clear b a q r s u v;go_wp2_with (first
   |(refine zaq elB rfl (.tmp 36) (.tmp 38) rfl (W:=W0) (B:=B) m H rfl rfl f d (by omega) (by omega) (by simp only[maxLen];omega) ?_
     intro A3 c3 w3 _ _ G C y _;obtain⟨q,r,s,u,v⟩:=zc3 (O.push m C (by decide));have Y:=C.size)
   |(refine zer elB qih rfl (.tmp 40) (.tmp 42) rfl (W:=W0) (B:=B) G h8 rfl rfl y d (by omega) (by omega) ?_
     intro A4 c4 w4 _ _ M _ k))
  go_ret
  exact⟨_,_,_,rfl,by rw[<-qrc];exact M,k⟩
 ·rw[if_neg (by decide),if_neg (by decide),if_pos rfl]
  obtain⟨⟨p1,p2⟩,p3,p4⟩:=J rfl;have he:=K rfl;subst he;have V1:=qwk (zae (n:=zig i) (by unfold zig;split<;> omega));have V2:=qwk (zae (n:=zig j) (by unfold zig;split<;> omega));have Z1:=qwk (fun(W:World)=>zqh i W (by omega) (by omega));have Z2:=qwk (fun(W:World)=>zqh j W (by omega) (by omega));have P1:=qwk (fun(W:World)=>zdc none 0 0 [] (zig i) W qwy (by omega) (by unfold zig;split<;> omega));have P2:=qwk (fun(W:World)=>zdc none 0 0 [] (zig j) W qwy (by omega) (by unfold zig;split<;> omega));clear I J K;generalize zig i=z3 at*;generalize zig j=z4 at*;go_enter Tryz.func149,Tryz.ntmps149
  go_wp2_with fail
  refine(Z1.out _).mono ?_;rintro e p ⟨rfl,rfl⟩;go_wp2_with fail
  refine(P1.out _).mono ?_;rintro e p ⟨A2,F,c2,rfl,b,a⟩;rw[qrr] at b;have m:=Z.later a;have f:Below B W0 p:=S.trans (qwo a (by omega));have q2:F<=10:=by have:=b.len;rw[zaa] at this;have:=V1.out;omega
  have E:=a.size;have H:=b.reads;have O:=x.below a x.lt;clear b a q r s u v
  go_wp2_with (refine zaq elB rfl (.tmp 25) (.tmp 30) rfl (W:=W0) (B:=B) m H rfl rfl f d (by omega) (by omega) (by simp only[maxLen];omega) ?_
               intro A3 c3 w3 _ _ G C y _;have Q:=O.push m C (by decide);obtain⟨q,r,s,u,v⟩:=zc3 Q;have Y:=C.size)
  refine(Z2.out _).mono ?_;rintro e w4 ⟨rfl,rfl⟩;go_wp2_with fail
  refine(P2.out _).mono ?_;rintro e w4 ⟨A4,n4,c4,rfl,L,k⟩;rw[qrr] at L;have M:=G.later k;have R:Below B W0 w4:=y.trans (qwo k (by omega));have q4:n4<=10:=by have:=L.len;rw[zaa] at this;have:=V2.out;omega
  have a2:=k.size;have r4:=L.reads;have B4:=Q.below k Q.lt;clear L k q r s u v;go_wp2_with (first
   |(refine zaq elB rfl (.tmp 36) (.tmp 38) rfl (W:=W0) (B:=B) M r4 rfl rfl R d (by omega) (by omega) (by simp only[maxLen];omega) ?_
     intro A5 c5 w5 _ _ o5 g5 b5 _;obtain⟨q,r,s,u,v⟩:=zc3 (B4.push M g5 (by decide));have a3:=g5.size)
   |(refine zer elB qih rfl (.tmp 40) (.tmp 42) rfl (W:=W0) (B:=B) o5 (l2:=[]) (by simp) rfl rfl b5 d (by omega) (by simp;omega) ?_
     intro A6 c6 w6 _ _ o6 _ b6))
  go_ret
  exact⟨_,_,_,rfl,by rw[qra] at o6;rw[<-qrc];exact o6,b6⟩
theorem z9j{t:Int}{L:List zab}{k:Nat}(h:k<L.length):(L.take (k+1)).flatMap (plE t)=(L.take k).flatMap (plE t)++plE t (L.getD k (false,0,[],0,0)):=by rw[zac L k (false,0,[],0,0) h,quf];simp
theorem zuq{t:Int}:∀l:List zab,(∀c∈l,zad c t false=true)->(∀c∈l,c.2.2.1.length<=65536)->(l.flatMap (plE t)).length<=l.length*65556
 | [],_,_=>by simp
 |c::l,h,k=>by
  have a:=zuq l (fun d e=>h d (by simp[e])) (fun d e=>k d (by simp[e]));have b:=znk (h c (by simp));have d:=k c (by simp);rw[qt6,qrp,qr1];omega
theorem zgg{c:zab}{t:Int}(h:zad c t false=true):c.2.2.1.length<=65536:=by
 have a:=zhz h;rcases zup h with rfl|rfl|rfl|rfl
 ·unfold zad at h
  rw[a] at h;simp at h;rw[h.1];simp
 ·unfold zad at h
  rw[a] at h;simp at h;rw[h.1.1];simp
 ·exact z9h h
 ·rw[zzy h]
  simp
def zaj(c:zab):Prop:=(c.2.2.1.length<=140737488351232/\ ∀z∈c.2.2.1,z<256)/\ -9223372036854775808<=c.2.1/\c.2.1<=9223372036854775807
theorem zmg{w:World}{t:Int}{A:Option Addr}{n c:Nat}{L:List zab}(h:Reads w w.heap.size 5 A n (recs zay L))(E:∀y∈L,zaj y)(hn:n<=4611686018427387903):
 Calls Tryz.prog 134 #[.int .i64 t,.slice A n c] w (OptB (plO t L) w):=by
 obtain rfl:=h.lenCell;have S:=qwk h;have z:=qwk (zoi (t:=t) (c:=c) h (fun y hy=>(E y hy).1.1) hn);have C:=qwk (zme (w:=w) (t:=t) (n:=(L.length:Int)));have p:zjk t L=(decide (0<=t/\t<=3/\0<=(L.length:Int)/\(L.length:Int)<=65536)&&L.all fun c=>zad c t false):=by
  unfold zjk;congr 1
  rw[decide_eq_decide];omega
 obtain⟨M,a⟩:∃M,M=plO t L:=⟨_,rfl⟩;rw[<-a];unfold plO at a;by_cases hk:(0<=t/\t<=3/\0<=(L.length:Int)/\(L.length:Int)<=65536)
 ·rw[decide_eq_true hk] at C p
  cases d:L.all fun c=>zad c t false with
  |false=>
   rw[d] at z;rw[p,d] at a;simp at a;have s:=qwk a;clear a p d E h;go_enter Tryz.func134,Tryz.ntmps134
   go_wp2_with fail
   refine C.out.mono ?_;rintro e F ⟨rfl,rfl⟩;go_wp2_with fail
   refine z.out.mono ?_;rintro e F ⟨rfl,j⟩;go_wp2_with fail
   go_ret2
   rw[s.out];exact⟨rfl,j⟩
  |true=>
   rw[d] at z;rw[p,d] at a;simp at a;have H:=qs9.1 d;have N:L.length<=65536:=by omega
   by_cases T:t=1
   ·subst T
    have hP:=zge (zep L) 1 (by omega) (by unfold zep;rw[qtl];omega) (zqm H);have f:M=zqe (zep L) 1:=by rw[a];unfold plB;rw[if_pos rfl];refine Eq.trans ?_ hP.symm;unfold zep;rw[qtl]
    have s:=qwk f;have PB:=qwk (fun(W:World) (X:New w W)=>zuo (c:=c) (qxj S.out X) N);clear a f hP p d H E h;go_enter Tryz.func134,Tryz.ntmps134
    go_wp2_with fail
    refine C.out.mono ?_;rintro e F ⟨rfl,rfl⟩;go_wp2_with fail
    refine z.out.mono ?_;rintro e F ⟨rfl,j⟩;go_wp2_with fail
    refine(PB.out _ j).mono ?_;intro e w2 U;rw[<-s.out] at U;cases M with
    |none=>
     obtain⟨rfl,D⟩:=U;go_wp2_with fail
     go_ret2
     exact⟨rfl,qw5 j D⟩
    |some l=>
     obtain⟨A2,n2,c2,rfl,o2,D⟩:=U;go_wp2_with fail
     go_ret2
     exact⟨_,_,_,rfl,o2.base_le j.size,qw5 j D⟩
   ·have f:M=some (L.flatMap (plE t)):=by rw[a];unfold plB;rw[if_neg T]
    have s:=qwk f;have G:=qwk H;have Z:∀c∈L,c.2.2.1.length<=65536:=fun c I=>zgg (H c I)
    have HX:=qwk Z;have HD:=qwk E;have RM:=qwk (fun(W:World) (X:New w W)=>qfo (c:=c) (qxj S.out X) N Z);clear a f p d H E h Z;go_enter Tryz.func134,Tryz.ntmps134
    go_wp2_with fail
    refine C.out.mono ?_;rintro e F ⟨rfl,rfl⟩;go_wp2_with fail
    refine z.out.mono ?_;rintro e F ⟨rfl,j⟩;go_wp2_with fail
    refine(RM.out _ j).mono ?_;rintro e w2 ⟨r,rfl,hr,D⟩;have u:=qw5 j D;have x:=u.size
    go_wp2_with (refine zcf elB rfl (.const (.int .i64 0)) (.tmp 27) rfl (W:=w) (B:=w.heap.size) 0 r rfl rfl rfl rfl (by omega) u x rfl (by omega) (by simp only[maxLen];omega) ?_
                 intro w3 o3 _ b3 Y)
    go_loopw [6,31] (fun v i wr=>∃(k m R:Nat) (P:Option Addr),k<=L.length/\i= .int .i64 (k:Int)/\v= .slice P m R/\Own wr w.heap.size 5 (.slice P m R) (zar .u8 ((L.take k).flatMap (plE t)))/\Below w.heap.size w wr) (fun _ i _=>L.length-(intOf i).toNat)
    case atStart=>exact⟨0,0,r,_,qq1 _,rfl,rfl,by have:=o3.base_le x;simpa[zar] using this,b3⟩
    case round=>
     obtain⟨k,m,R,P,a0,rfl,rfl,o,b⟩:=hrel;clear o3 b3 Y j D u x;by_cases q:k<L.length
     ·obtain⟨ad,rfl,hb,d0,d1,d2,d3,d4⟩:=(qxj S.out b).cell5 q
      have g:L.getD k (false,0,[],0,0)∈L:=by rw[qsh,qqt q];exact qrf q
      have K:=z9j (t:=t) q;have J:=zuq (L.take k) (fun c I=>G.out c (qro I)) (fun c I=>HX.out c (qro I));rw[qqx] at J;have hm:m<=100000000000:=by have:=o.len;rw[zaa] at this;have:=Nat.min_le_left k L.length;omega
      have V:=HD.out _ g;have O:=G.out _ g;clear g J;generalize L.getD k (false,0,[],0,0)=y at*;have hz:=b.size;have d:New wr (wr.alloc (.cells (zay y).toArray 75)):=(qwd _ _).alloc (qq0 _) _;have Q:=qks (W0:=w) (B:=w.heap.size) (o.later d) (b.trans (qwo d hz)) (qq0 _) (by have:=d.size;omega) hm O T V.1.2 V.2;rw[<-K] at Q;obtain⟨y0,y1,y2,y3,y4⟩:=y;have Q:Hid (Calls Tryz.prog 149 #[.slice P m R,.int .i64 t,.agg #[.bool y0,.int .i64 y1,.string (zaf y2),.int .i64 y3,.int .i64 y4]] (wr.alloc (.cells #[.bool y0,.int .i64 y1,.string (zaf y2),.int .i64 y3,.int .i64 y4] 75)) (qpr w w.heap.size w.heap.size ((L.take (k+1)).flatMap (plE t)))):=qwk Q;dsimp only at d0 d1 d2 d3 d4;clear K o b V O;go_wp2_with fail
      refine Q.out.mono ?_;rintro e w5 ⟨A5,n5,c5,rfl,o5,b5⟩;go_wp2_with fail
      go_roundw
      case rel=>exact⟨k+1,n5,c5,A5,by omega,by go_num,rfl,o5,b5⟩
      case measure=>simp[intOf];omega
     ·obtain rfl:k=L.length:=by omega
      rw[quw] at o;go_wp2_with fail
      go_ret2
      rw[s.out];exact⟨_,_,_,rfl,o,b⟩
 ·rw[decide_eq_false hk] at C p
  rw[p] at a;simp at a;have s:=qwk a;clear a p z E h;go_enter Tryz.func134,Tryz.ntmps134
  go_wp2_with fail
  refine C.out.mono ?_;rintro e F ⟨rfl,rfl⟩;go_wp2_with fail
  go_ret2
  rw[s.out];exact⟨rfl,qwd _ _⟩
def encP(p:List Nat):List Nat:=
 if 4<=st p then vp (2*p.length)++vp (p.getD 0 0) else vp (2*p.length+1)++(wid p::low (pk (wid p) p) ((wid p*p.length+7)/8))
def zlu(l:List Nat):List Nat:=(pcs l).flatMap encP
def rpS(most:Nat)(S:St):List Nat × St:=
 let h:=lenS (2*(most:Int)+1) S
 if h.1%2=1 then
  let b:=zbn h.2
  let x:=zcv (nby (b.1:Int) ((h.1/2:Nat):Int)) b.2
  match zch x.1 (b.1:Int) ((h.1/2:Nat):Int) with
  |some l=>(l,x.2)
  |none=>([],none)
 else
  let g:=zk3 h.2
  (List.replicate (h.1/2) g.1,g.2)
theorem znl{l:List Nat}(h:∀x∈l,x<=18446744073709551615){p:List Nat}(d:p∈pcs l):(∀x∈p,x<=18446744073709551615)/\p.length<=l.length:=by have c:=zmi l;refine⟨fun x f=>h x (by rw[<-c];exact qvh.2 ⟨p,d,f⟩),?_⟩;rw[<-c];obtain⟨a,b,e⟩:=List.append_of_mem d;rw[e,qul,qvg,qrp,qrp];omega
theorem qk5{p:List Nat}(g:zqs p)(d:∀x∈p,x<=18446744073709551615)(h:p.length<=65536){most:Nat}(hm:p.length<=most)(j:most<=65536)(r:List Nat):rpS most (some (encP p++r))=(p,some r):=by
 unfold encP;by_cases c:4<=st p
 ·rw[if_pos c,qrc]
  have k:p.getD 0 0<=18446744073709551615:=by have f:=g.1;rw[qsh,qqt f];exact d _ (qrf f)
  have e:=qk3 (g.2 c);unfold rpS;rw[zb9 (2*p.length) _ (by omega) (by omega)];dsimp only;rw[if_neg (by omega),zj5 _ _ (by omega)];dsimp only;rw[show 2*p.length/2=p.length by omega,<-e]
 ·rw[if_neg c,qrc]
  have a:=zk2 p d;unfold rpS;rw[zb9 (2*p.length+1) _ (by omega) (by omega)];dsimp only;rw[if_pos (by omega),show(2*p.length+1)/2=p.length by omega];rw[qr0];simp only[zbn];rw[zum (wid p) p.length a h];have b:(low (pk (wid p) p) ((wid p*p.length+7)/8)).length=(wid p*p.length+7)/8:=za0 _ _;have i:=zea (low (pk (wid p) p) ((wid p*p.length+7)/8)) r;rw[b] at i;rw[i];dsimp only;rw[zio p (wid p) a h (qq0 _) d]
theorem z2e(p:List Nat):0<(encP p).length:=by
 unfold encP;split
 ·have:=zps (2*p.length)
  rw[qrp];omega
 ·have:=zps (2*p.length+1)
  rw[qrp];omega
def qm9(n:Nat):Nat->List Nat->St->List Nat × St
 |0,out,S=>(out,S)
 |k+1,out,S=>match S with
  |some (b::r)=>qm9 n k (out++(rpS (n-out.length) (some (b::r))).1) (rpS (n-out.length) (some (b::r))).2
  |S=>(out,S)
theorem zqt(n:Nat)(f:n<=65536):∀(c:List (List Nat)) (k:Nat) (a:List Nat),c.length<=k->(∀p∈c,zqs p/\ ∀x∈p,x<=18446744073709551615)->a.length+c.flatten.length<=n->qm9 n k a (some (c.flatMap encP))=(a++c.flatten,some [])
 | [],k,a,_,_,_=>by cases k<;> simp[qm9]
 |p::c,0,a,h,_,_=>by simp at h
 |p::c,k+1,a,h,hp,hl=>by
  rw[qvg,qrp] at hl;obtain⟨hk,hw⟩:=hp p (by simp);have e:=qk5 hk hw (by omega) (most:=n-a.length) (by omega) (by omega) (c.flatMap encP);rw[qt6];cases d:encP p++c.flatMap encP with
  |nil=>
   have:=z2e p;have:=congrArg List.length d;rw[qrp,qub] at this;omega
  |cons b r=>
   rw[d] at e;rw[qm9,e];dsimp only;rw[zqt n f c k (a++p) (by simpa using h) (fun q d=>hp q (by simp[d])) (by rw[qrp];omega),qvg,qrc]
theorem z2f{l:List Nat}(f:∀x∈l,x<=18446744073709551615){n k:Nat}(e:n<=65536)(a:l.length<=n)(c:(zlu l).length<=k):qm9 n k [] (some (zlu l))=(l,some []):=by
 have b:(pcs l).length<=k:=by
  refine qqs ?_ c;unfold zlu;clear c;induction pcs l with
  |nil=>simp
  |cons p h g=>
   have:=z2e p;rw[qt6,qrp,qr1];omega
 have:=zqt n e (pcs l) k [] b (fun p d=>⟨z91 l p d,(znl f d).1⟩) (by rw[zmi];simpa using a);rw[zmi,qrr] at this;exact this
def IsDec(b:List Nat)(n:Int)(o:Option (List Nat)):Prop:=
 ∀l,o=some l↔((l.length:Int)=n/\l.length<=65536/\(∀x∈l,x<=18446744073709551615)/\zlu l=b)
theorem qfv{l m:List Nat}(c:l.length<=65536)(hm:m.length<=65536)(d:∀x∈l,x<=18446744073709551615)(e:∀x∈m,x<=18446744073709551615)(h:zlu l=zlu m):l=m:=by have a:=z2f d (n:=65536) (k:=(zlu l).length) (qq0 _) c (qq0 _);have b:=z2f e (n:=65536) (k:=(zlu l).length) (qq0 _) hm (by rw[h];exact qq0 _);rw[<-h,a] at b;injection b
theorem elP:ElT Tryz.prog 108 111 (.agg #[.int .i64 0,.int .i64 0]) 2 16:=⟨by kernel_rfl,by kernel_rfl,rfl,by omega⟩
def qba(l:List (Int × Int))(w:World)(e:Ending)(w':World):Prop:=∃A n c,e= .returned (.slice A n c)/\w'.ownsRow w.heap.size 111 2 (.slice A n c) n (zdy l)/\New w w'
theorem z51(l:List (Int × Int))(p:Int × Int):zdy (l++[p])=zdy l++[.int .i64 p.1,.int .i64 p.2]:=by simp[zdy]
theorem z2z(f t s:Int)(O: -9223372036854775808<=f)(P:t<=9223372036854775807)(Q:s<=9223372036854775807)(w:World):
 Calls Tryz.prog 50 #[.int .i64 f,.int .i64 t,.int .i64 s] w (qba (zbl f t s) w):=by
 by_cases j:f<0\/t<=f\/65536<t\/s<1
 ·rw[zxb j]
  by_cases K:f<0;all_goals try(have G:decide (f<0)=false:=by simpa using K)
  all_goals try(by_cases M:t<=f)
  all_goals try(have H:decide (t<=f)=false:=by simpa using M)
  all_goals try(by_cases N:65536<t)
  all_goals try(have I:decide (65536<t)=false:=by simpa using N)
  all_goals try(have g4:s<1:=by omega)
  all_goals
   clear j;go_enter Tryz.func50,Tryz.ntmps50
   go_wp2
   go_ret
   exact⟨_,_,_,rfl,zd8,qw4 _⟩
 ·obtain⟨f,rfl⟩:=qsu (show 0<=f by omega)
  obtain⟨t,rfl⟩:=qsu (show 0<=t by omega);obtain⟨s,rfl⟩:=qsu (show 0<=s by omega);have V:f<t:=by omega
  have X:t<=65536:=by omega
  have m:0<s:=by omega
  have k4:s<=9223372036854775807:=by omega
  rw[z2r V X m];have G:decide ((f:Int)<0)=false:=by simp
  have H:decide (t<=f)=false:=by simp;omega
  have I:decide ((65536:Int)<(t:Int))=false:=by simp;omega
  have d4:decide ((s:Int)<1)=false:=by simp;omega
  have hN:=z2p (f:=f) (t:=t) m;clear j O P Q;go_enter Tryz.func50,Tryz.ntmps50
  go_wp2
  go_loopw [7,8] (fun v i wr=>∃(k:Nat) (A:Option Addr) (c:Nat),k<=ziy f t s/\i= .int .i64 ((atN f t s k:Nat):Int)/\v= .slice A k c/\wr.ownsRow w.heap.size 111 2 (.slice A k c) k (zdy ((zhb f t s).take k))/\New w wr) (fun _ i _=>t-(intOf i).toNat)
  case atStart=>exact⟨0,none,0,by omega,by congr 1;unfold atN;simp;omega,rfl,zd8,qw4 _⟩
  case round=>
   obtain⟨k,A,c,hk,rfl,rfl,o,b⟩:=hrel;have L:=zhc (f:=f) (t:=t) m k;by_cases d:k<ziy f t s
   ·obtain⟨J,h,x⟩:=z2q (L.1 d)
    have T:=qwk (zq0 d);have z:=qwk x;have l:atN f t s k<t:=by have:=L.1 d;omega
    clear L J x;have a:=qwk h;clear h;generalize atN f t s k=p at*;generalize U:atN f t s (k+1)=q at*;have D:=qwk U;have h:=a.out;have Y:=b.size;have S:k<=65536:=by omega
    by_cases hm:t-p<s;all_goals
     first
     |(have r:(p:Int)+((t-p:Nat):Int)=(q:Int):=by have:=a.out;omega)
     |(have r:(p:Int)+(s:Int)=(q:Int):=by have:=a.out;omega)
     have mq:p<q/\q<=t:=by have:=a.out;omega
     have Z:=qwk r;clear r
     go_wp2_with (refine zd9 elP rfl (.tmp 36) (.tmp 40) rfl (W:=w) (B:=w.heap.size) (base:=w.heap.size) (n:=k) o rfl rfl b (qq0 _) Y rfl (by simp[Value.oneCell']) (by omega) (by simp only[maxLen];omega) ?_
                  intro y F w' _ _ e g' E _ _)
     go_roundw
     case rel=>
      have h:=a.out;refine⟨k+1,y,F,by omega,by rw[D.out];congr 1<;> omega,rfl,?_,E⟩;rw[T.out,z51,z.out];first
       |(rw[show(p:Int)+((t:Int)-(p:Int))=(q:Int) by omega] at e;exact e)
       |(rw[show(p:Int)+min (s:Int) ((t:Int)-(p:Int))=(q:Int) by omega] at e;exact e)
       |(rw[show(p:Int)+(s:Int)=(q:Int) by omega] at e;exact e)
     case measure=>simp[intOf];omega
   ·have g:k=ziy f t s:=by omega
    have l:atN f t s k=t:=by
     have: ¬f+k*s<t:=fun R=>d (L.2 R)
     unfold atN;omega
    rw[l] at*;have u:=qwk g;have C:=qwk o;clear g L l o;go_wp2
    go_ret
    exact⟨_,_,_,rfl,by have o:=C.out;rw[u.out,qru (by rw[zgh];omega)] at o;rw[u.out];exact o,b⟩
theorem zgy{w:World}{A:Option Addr}{n c:Nat}{D:List zju}(h:Reads w w.heap.size 1 A n (recs zjb D))(K:∀d∈D,BytIn w d)(hn:n<=140737488351232)(X:(zdh D).length<=140737488351232):
 Calls Tryz.prog 54 #[.slice A n c] w (zcx (zdh D) w):=by
 have r:n=D.length:=by have:=h.1;rw[zaw (sz:=1) (fun _=>rfl)] at this;omega
 subst r;have C:=qwk h;have P:=qwk K;clear h K;go_enter Tryz.func54,Tryz.ntmps54
 go_wp2_with fail
 go_loopw [3,11] (fun s i wr=>∃k:Nat,k<=D.length/\i= .int .i64 (k:Int)/\s= .int .i64 ((zdh (D.take k)).length:Int)/\wr=w) (fun _ i _=>D.length-(intOf i).toNat)
 case atStart=>exact⟨0,qq1 _,rfl,rfl,rfl⟩
 case round=>
  obtain⟨k,V,rfl,rfl,rfl⟩:=hrel;by_cases a:k<D.length
  ·obtain⟨Q,rfl,_,U⟩:=qbo C.out a
   have j:=ztt a;have J:=zm1 D (k+1);have v:=qwk j;have m:(zdh (D.take (k+1))).length=(zdh (D.take k)).length+(D.getD k (none,0,[])).2.2.length:=by rw[j,qrp]
   clear j;generalize D.getD k (none,0,[])=d at*;obtain⟨H,I,g⟩:=d;have i1:(k:Int)<(D.length:Int):=by omega
   have i2:wrap64 (((zdh (D.take k)).length:Int)+(g.length:Int))=((zdh (D.take (k+1))).length:Int):=by rw[m];dsimp only;unfold wrap64;dsimp only at m;omega
   have i3: ¬(((zdh (D.take (k+1))).length:Int)<0):=by omega
   have E3:=qwk m;clear m;generalize(zdh (D.take k)).length=s0 at*;generalize f:(zdh (D.take (k+1))).length=s1 at*;have x:=qwk f;clear f;go_wp2_with fail
   go_roundw
   case rel=>exact⟨k+1,by omega,by go_num,by rw[x.out,i2],by trivial⟩
   case measure=>simp[intOf];omega
  ·obtain rfl:k=D.length:=by omega
   rw[quw];generalize wr=t at*;have G:=qwk (qbp (w:=t) (n:=(zdh D).length) X);generalize f:(zdh D).length=s1 at*;have x:=qwk f;clear f;go_wp2_with fail
   refine G.out.mono ?_;rintro e W1 ⟨M,S,rfl,L,E⟩;clear G;go_wp2_with fail
   go_loopw [6,27] (fun s i wr=>∃(k:Nat) (u:Option Addr) (c2:Nat),k<=D.length/\i= .int .i64 (k:Int)/\s= .slice u (zdh (D.take k)).length c2/\Go.Hm.Own wr t.heap.size 5 (.slice u (zdh (D.take k)).length c2) (zar .u8 (zdh (D.take k)))/\New t wr) (fun _ i _=>D.length-(intOf i).toNat)
   case atStart=>exact⟨0,M,S,qq1 _,rfl,rfl,L,E⟩
   case round=>
    clear L E;obtain⟨k,u,c2,V,rfl,rfl,o,b⟩:=hrel;by_cases a:k<D.length
    ·obtain⟨Q,rfl,_,U⟩:=qbo (qxj C.out b) a
     have p:=qxs (P.out _ (zdt (none,0,[]) a)) b;have j:=ztt a;have J:=zm1 D (k+1);rw[x.out] at J;have v:=qwk j;have m:(zdh (D.take (k+1))).length=(zdh (D.take k)).length+(D.getD k (none,0,[])).2.2.length:=by rw[j,qrp]
     have e4:(zdh (D.take (k+1))).length<=140737488351232:=by omega
     clear j;generalize D.getD k (none,0,[])=d at*;obtain⟨H,I,g⟩:=d;have i1:(k:Int)<(D.length:Int):=by omega
     have p:Reads _ _ 1 H g.length (zar .u8 g):=p;have y:=b.size;generalize zdh (D.take k)=F at*;generalize q:zdh (D.take (k+1))=O at*;have z:=qwk q;have e5:F.length+g.length<=140737488351232:=by have e6:O.length=F.length+g.length:=m;omega
     clear m;clear q
     go_wp2_with (refine zaq elB rfl (.tmp 31) (.tmp 32) rfl (W:=t) (B:=t.heap.size) (k:= .u8) (l:=F) (l2:=g) (c2:=I) o p rfl rfl b (qq0 _) y (by omega) (by simp only[maxLen];omega) ?_
                  intro N T w3 Y Z o3 g3 R a0)
     go_roundw
     case rel=>exact⟨k+1,N,T,by omega,by go_num,by rw[z.out,v.out,qrp],by rw[z.out,v.out,qrp];exact o3,R⟩
     case measure=>simp[intOf];omega
    ·obtain rfl:k=D.length:=by omega
     rw[quw] at o⊢;go_wp2_with fail
     go_ret
     exact⟨u,_,c2,rfl,o,b⟩
end Go.Proofs.Y
