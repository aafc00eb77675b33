import Derived.Test.YtbahbnbpmfgimaaGreatDoorBun29
import Derived.Test.YtbahbnbpmfgimaaGreatDoorBun32
set_option maxHeartbeats 4000000
set_option maxRecDepth 100000
namespace Go.Hm
open Go Go.RowKit
def szL(l:List za3):Nat:=(l.map fun p=>p.1.toNat).sum
def szC(C:List (List za3)):Nat:=(C.map szL).sum
def szG(G:List za6):Nat:=(G.map fun g=>szC g.2).sum
def z52:List za3->List Nat->List (List Nat)
 | [],_=>[]
 |p::l,x=>x.take p.1.toNat::z52 l (x.drop p.1.toNat)
def zck:List (List za3)->List Nat->List (List (List Nat))
 | [],_=>[]
 |l::C,x=>z52 l x::zck C (x.drop (szL l))
def ze9:List za6->List Nat->List (List (List (List Nat)))
 | [],_=>[]
 |g::G,x=>zck g.2 x::ze9 G (x.drop (szC g.2))
theorem zmq(p:za3)(l:List za3):szL (p::l)=p.1.toNat+szL l:=by simp[szL]
theorem zmr(l:List za3)(C:List (List za3)):szC (l::C)=szL l+szC C:=by simp[szC]
theorem zms(g:za6)(G:List za6):szG (g::G)=szC g.2+szG G:=by simp[szG]
theorem zkh:∀(l:List za3) (x:List Nat),(z52 l x).length=l.length
 | [],_=>rfl
 |p::l,x=>by simp[z52,zkh l]
theorem zmt:∀(C:List (List za3)) (x:List Nat),(zck C x).length=C.length
 | [],_=>rfl
 |l::C,x=>by simp[zck,zmt C]
theorem zki:∀(G:List za6) (x:List Nat),(ze9 G x).length=G.length
 | [],_=>rfl
 |g::G,x=>by simp[ze9,zki G]
theorem z0j:∀(l:List za3) (x:List Nat) (q:Nat),q<l.length->(z52 l x).getD q []=(x.drop (szL (l.take q))).take (l.getD q zby).1.toNat
 | [],_,_,h=>by simp at h
 |p::l,x,0,_=>by simp[z52,szL]
 |p::l,x,q+1,h=>by
  simp only[z52,qu1,qva,zmq];rw[z0j l _ q (by simpa using h),qth]
theorem cutC_at:∀(C:List (List za3)) (x:List Nat) (j:Nat),j<C.length->(zck C x).getD j []=z52 (C.getD j []) (x.drop (szC (C.take j)))
 | [],_,_,h=>by simp at h
 |l::C,x,0,_=>by simp[zck,szC]
 |l::C,x,j+1,h=>by
  simp only[zck,qu1,qva,zmr];rw[cutC_at C _ j (by simpa using h),qth]
theorem zjr:∀(G:List za6) (x:List Nat) (k:Nat),k<G.length->(ze9 G x).getD k []=zck (G.getD k zao).2 (x.drop (szG (G.take k)))
 | [],_,_,h=>by simp at h
 |g::G,x,0,_=>by simp[ze9,szG]
 |g::G,x,k+1,h=>by
  simp only[ze9,qu1,qva,zms];rw[zjr G _ k (by simpa using h),qth]
theorem z20{l:List za3}{q:Nat}(h:q<l.length):szL (l.take (q+1))=szL (l.take q)+(l.getD q zby).1.toNat:=by rw[zac _ q zby h];unfold szL;rw[que,qud];simp
theorem zu9{C:List (List za3)}{j:Nat}(h:j<C.length):szC (C.take (j+1))=szC (C.take j)+szL (C.getD j []):=by rw[zac _ j [] h];unfold szC;rw[que,qud];simp
theorem zva{G:List za6}{k:Nat}(h:k<G.length):szG (G.take (k+1))=szG (G.take k)+szC (G.getD k zao).2:=by rw[zac _ k zao h];unfold szG;rw[que,qud];simp
theorem qiw(l:List za3)(q:Nat):szL (l.take q)<=szL l:=by
 have e:szL l=szL (l.take q)+szL (l.drop q):=by unfold szL;rw[<-qud,<-que,qtq]
 omega
theorem qix(C:List (List za3))(q:Nat):szC (C.take q)<=szC C:=by
 have e:szC C=szC (C.take q)+szC (C.drop q):=by unfold szC;rw[<-qud,<-que,qtq]
 omega
theorem qiy(G:List za6)(q:Nat):szG (G.take q)<=szG G:=by
 have e:szG G=szG (G.take q)+szG (G.drop q):=by unfold szG;rw[<-qud,<-que,qtq]
 omega
theorem zxp:∀(l:List za3) (x:List Nat),(z52 l x).flatten=x.take (szL l)
 | [],x=>by simp[z52,szL]
 |p::l,x=>by
  rw[z52,qvg,zxp l,zmq,qu3]
theorem zxq:∀(C:List (List za3)) (x:List Nat),(zck C x).flatten.flatten=x.take (szC C)
 | [],x=>by simp[zck,szC]
 |l::C,x=>by
  rw[zck,qvg,qul,zxp,zxq C,zmr,qu3]
theorem zmu:∀(G:List za6) (x:List Nat),(ze9 G x).flatten.flatten.flatten=x.take (szG G)
 | [],x=>by simp[ze9,szG]
 |g::G,x=>by
  rw[ze9,qvg,qul,qul,zxq,zmu G,zms,qu3]
theorem zop{α:Type}{p:List α}:∀{L:List (List α)},p∈L->p.length<=L.flatten.length
 | [],h=>by cases h
 |q::L,h=>by
  rw[qvg,qrp];rcases qsm.1 h with rfl|h
  ·omega
  ·have:=zop h
   omega
theorem zkj{G:List za6}{x p:List Nat}(h:p∈(ze9 G x).flatten.flatten):(∀y∈p,y∈x)/\p.length<=x.length:=by
 have e:=zmu G x;refine⟨fun y b=>?_,?_⟩
 ·have:y∈(ze9 G x).flatten.flatten.flatten:=qvh.2 ⟨p,h,b⟩
  rw[e] at this;exact qro this
 ·have a:p.length<=(ze9 G x).flatten.flatten.flatten.length:=zop h
  rw[e,qqx] at a;omega
theorem zmv:∀(C:List (List za3)) (x:List Nat),(zck C x).flatten.length=C.flatten.length
 | [],_=>rfl
 |l::C,x=>by
  rw[zck,qvg,qrp,zmv C,zkh,qvg,qrp]
theorem qbc{l:List za3}(h:∀p∈l,0<=p.1):(szL l:Int)=zc0 l:=by
 induction l with
 |nil=>rfl
 |cons p l b=>
  have c:=h p (by simp);have d:=b fun q a=>h q (by simp[a])
  rw[zmq,zll];omega
theorem qbd{C:List (List za3)}(h:∀l∈C,∀p∈l,0<=p.1):(szC C:Int)=(C.map zc0).sum:=by
 induction C with
 |nil=>rfl
 |cons l C b=>
  have c:=qbc (h l (by simp));have d:=b fun q a=>h q (by simp[a])
  rw[zmr,qrj,qt7];omega
theorem z0k{G:List za6}(h:∀g∈G,∀l∈g.2,∀p∈l,0<=p.1):(szG G:Int)=(G.map zco).sum:=by
 induction G with
 |nil=>rfl
 |cons g G c=>
  have d:=qbd (h g (by simp));have a:=c fun q b=>h q (by simp[b])
  rw[zms,qrj,qt7];unfold zco;unfold zco at a;omega
theorem zmw{F:FootS}(h:zbs F):∀g∈F.groups,∀l∈g.2,∀p∈l,1<=p.1/\p.1<=268435456/\1<=p.2.1/\p.2.1<=65536:=by intro g b l d p e;obtain⟨f,j,a⟩:=h.2.1 g b;obtain⟨i,c,rfl⟩:=qtv d;have:=(a i (by omega)).1 p (by rw[qsh,qqt c];exact e);have:=(pageB_most.1 this).1;omega
end Go.Hm
namespace Go.Proofs.Y
open Go Go.RowKit Go.Hm
theorem z54{F:FootS}(h:zbs F){k j q:Nat}(e:k<F.groups.length)(s:j<F.cols.length):
 zda F.groups k j q=((szG (F.groups.take k)+szC ((F.groups.getD k zao).2.take j)+szL ((zax F.groups k j).take q):Nat):Int):=by
 have d:=zmw h;have b:F.groups.getD k zao∈F.groups:=zah zao e;have f:=(zc5 h e).2.1;have n:=z0k (G:=F.groups.take k) (fun g i l c p a=>by have:=d g (qro i) l c p a;omega);have o:=qbd (C:=(F.groups.getD k zao).2.take j) (fun l c p a=>by have:=d _ b l (qro c) p a;omega);have r:=qbc (l:=(zax F.groups k j).take q) (fun p a=>by have m:zax F.groups k j∈(F.groups.getD k zao).2:=zah [] (by omega);have:=d _ b _ m p (qro a);omega)
 unfold zda zxl zth;omega
theorem z55{F:FootS}(h:zbs F):zda F.groups F.groups.length 0 0=(szG F.groups:Int):=by have d:=z0k (G:=F.groups) (fun g b l c p a=>by have:=zmw h g b l c p a;omega);unfold zda zxl zth;rw[quw];simp only[qrq,qrk,List.sum_nil];have:zc0 []=0:=rfl;omega
end Go.Proofs.Y
namespace Go.Hm
open Go Go.RowKit
abbrev zny:=Option Addr × Nat × List zjv
def zxy(d:zny):List Value:=[.slice d.1 d.2.2.length d.2.1]
def byP(d:zju):List Nat:=d.2.2
def rwP(r:zjv):List (List Nat):=r.2.2.map byP
def gpP(g:zny):List (List (List Nat)):=g.2.2.map rwP
def PieceIn(w:World)(d:zju):Prop:=BytIn w d/\d.2.2.length<=d.2.1/\d.2.1<=9223372036854775807
theorem PieceIn.later{w w':World}{d:zju}(h:PieceIn w d)(a:New w w'):PieceIn w' d:=⟨h.1.later a,h.2⟩
def PieceOf(A:Option Addr)(w:World)(d:zju):Prop:=PieceIn w d/\ ∀ad,d.1=some ad-> ∃a0,A=some a0/\ad.block=a0.block
theorem PieceOf.later{A:Option Addr}{w w':World}{d:zju}(h:PieceOf A w d)(a:New w w'):PieceOf A w' d:=⟨h.1.later a,h.2⟩
theorem qbt{A:Option Addr}{k:Nat}{p:Prop}[Decidable p]:∀ad,(if p then A else A.map (·.add k))=some ad-> ∃a0,A=some a0/\ad.block=a0.block:=by
 intro ad h;split at h
 ·exact⟨ad,h,rfl⟩
 ·cases A with
  |none=>cases h
  |some a0=>
   injection h with h;subst h;exact⟨a0,rfl,zam _ _⟩
theorem zrj{α:Type}{f:α->List Value}(b:∀x,(f x).length=1)(X:List α)(x:α)(k m:Nat)(h:X.length=k){z v:Value}(c:f x=[v]):
 (recs f X++List.replicate (m+1) z).toArray.setIfInBounds k v=(recs f (X++[x])++List.replicate m z).toArray:=by
 have a:(recs f X).length=k:=by rw[zaw (sz:=1) b];omega
 rw[qta,qsy _ _ (by omega),a,qsz,qs0,qs1,zbe,qrc];congr 2
 simp[recs,c]
theorem zh6{α:Type}{f:α->List Value}(a:∀x,(f x).length=1)(X:List α)(m:Nat)(z:Value):(recs f X++List.replicate m z).toArray.size=X.length+m:=by rw[qrt,qrp,zaw (sz:=1) a,qtd,qq7]
end Go.Hm
namespace Go.Proofs.Y
open Go.RowKit Go.Hm
def RowBAt(W:World)(lo:Nat)(r:zjv):Prop:=∃k,lo<k/\r.1=some ⟨k,0,none⟩/\r.2.1=r.2.2.length/\Blk W k 24 (recs zjb r.2.2).toArray
def RowRAt(W:World)(lo:Nat)(g:zny):Prop:=∃k,lo<k/\g.1=some ⟨k,0,none⟩/\g.2.1=g.2.2.length/\Blk W k 22 (recs zri g.2.2).toArray/\ ∀r∈g.2.2,RowBAt W k r
theorem RowBAt.below{W a:World}{c B:Nat}{r:zjv}(h:RowBAt W c r)(g:Below B W a)(i:W.heap.size<=B):RowBAt a c r:=by obtain⟨k,d,e,f,b⟩:=h;exact⟨k,d,e,f,b.below g (by have:=b.lt;omega)⟩
theorem RowRAt.below{W a:World}{d B:Nat}{g:zny}(h:RowRAt W d g)(c:Below B W a)(l:W.heap.size<=B):RowRAt a d g:=by obtain⟨k,e,f,i,b,j⟩:=h;exact⟨k,e,f,i,b.below c (by have:=b.lt;omega),fun r m=>(j r m).below c l⟩
theorem RowBAt.far{W b:World}{a g:Nat}{r:zjv}(h:RowBAt W a r)(j:W.grownBy b (some g))(l:g<=a):RowBAt b a r:=by obtain⟨k,c,d,f,i⟩:=h;exact⟨k,c,d,f,i.grown j (by intro e;injection e with e;omega)⟩
theorem RowRAt.far{W b:World}{a g:Nat}{r:zny}(h:RowRAt W a r)(c:W.grownBy b (some g))(n:g<=a):RowRAt b a r:=by obtain⟨k,d,f,i,j,l⟩:=h;exact⟨k,d,f,i,j.grown c (by intro e;injection e with e;omega),fun r m=>(l r m).far c (by omega)⟩
theorem RowBAt.mv{W b:World}{a hi:Nat}{r:zjv}(h:RowBAt W a r)(i:W.heap.size<=hi)(g:∀k,a<k->k<hi->b.heap[k]? =W.heap[k]?):RowBAt b a r:=by obtain⟨k,c,e,f,d⟩:=h;exact⟨k,c,e,f,(g k c (by have:=d.lt;omega)).trans d⟩
theorem RowRAt.mv{W b:World}{a hi:Nat}{g:zny}(h:RowRAt W a g)(n:W.heap.size<=hi)(e:∀k,a<k->k<hi->b.heap[k]? =W.heap[k]?):RowRAt b a g:=by obtain⟨k,c,f,i,d,l⟩:=h;exact⟨k,c,f,i,(e k c (by have:=d.lt;omega)).trans d,fun r m=>(l r m).mv n (fun j o=>e j (by omega))⟩
theorem zhl{W:World}{k:Nat}{t:TypeId}{cs:List Value}{n:Nat}(h:Blk W k t cs.toArray)(a:n=cs.length):Reads W W.heap.size 1 (some ⟨k,0,none⟩) n cs:=by subst a;refine⟨by simp,fun _=>⟨_,rfl,h.lt,fun j u b=>?_⟩⟩;rw[Addr.add_mid,qrs,h.cell,List.getElem?_toArray,b]
theorem RowBAt.inn{W:World}{c:Nat}{r:zjv}(h:RowBAt W c r):RowBIn W r:=by obtain⟨k,d,a,e,b⟩:=h;unfold RowBIn;rw[a];exact zhl b (by rw[zaw (sz:=1) (fun _=>rfl),qq7])
theorem RowRAt.inn{W:World}{e:Nat}{g:zny}(h:RowRAt W e g):Reads W W.heap.size 1 g.1 g.2.2.length (recs zri g.2.2)/\ ∀r∈g.2.2,RowBIn W r:=by obtain⟨k,f,a,i,b,c⟩:=h;rw[a];exact⟨zhl b (by rw[zaw (sz:=1) (fun _=>rfl),qq7]),fun r d=>(c r d).inn⟩
def SheCutPostA(A0:Option Addr)(G:List za6)(b:List Nat)(w:World)(e:Ending)(w':World):Prop:=
 ∃A X,e= .returned (.slice A X.length X.length)/\New w w'/\(Reads w' w'.heap.size 1 A X.length (recs zxy X)/\ ∀ad,A=some ad->w.heap.size<=ad.block)/\(∀g∈X,g.2.1=g.2.2.length/\(Reads w' w'.heap.size 1 g.1 g.2.2.length (recs zri g.2.2)/\ ∀ad,g.1=some ad->w.heap.size<=ad.block)/\ ∀r∈g.2.2,r.2.1=r.2.2.length/\(RowBIn w' r/\ ∀ad,r.1=some ad->w.heap.size<=ad.block)/\ ∀d∈r.2.2,PieceOf A0 w' d)/\X.map gpP=ze9 G (b.drop 4)
def z6g(G:List za6)(b:List Nat)(w:World)(e:Ending)(w':World):Prop:=
 ∃A X,e= .returned (.slice A X.length X.length)/\New w w'/\Reads w' w'.heap.size 1 A X.length (recs zxy X)/\(∀g∈X,g.2.1=g.2.2.length/\Reads w' w'.heap.size 1 g.1 g.2.2.length (recs zri g.2.2)/\ ∀r∈g.2.2,r.2.1=r.2.2.length/\RowBIn w' r/\ ∀d∈r.2.2,PieceIn w' d)/\X.map gpP=ze9 G (b.drop 4)
theorem SheCutPostA.post{i:Option Addr}{G:List za6}{b:List Nat}{w:World}{e:Ending}{w':World}(h:SheCutPostA i G b w e w'):z6g G b w e w':=by obtain⟨A,X,j,k,l,a,m⟩:=h;exact⟨A,X,j,k,l.1,fun g c=>⟨(a g c).1,(a g c).2.1.1,fun r f=>⟨((a g c).2.2 r f).1,((a g c).2.2 r f).2.1.1,fun d n=>(((a g c).2.2 r f).2.2 d n).1⟩⟩,m⟩
def zpl(G:List za6)(k j q:Nat):Nat:=4+szG (G.take k)+szC ((G.getD k zao).2.take j)+szL ((zax G k j).take q)
theorem qbu(G:List za6):zpl G 0 0 0=4:=by simp[zpl,szG,szC,szL]
theorem zxz{F:FootS}{b:List Nat}(o:4+szG F.groups<=b.length){k j q:Nat}(d:k<F.groups.length)(c:j<(F.groups.getD k zao).2.length)(f:q<(zax F.groups k j).length):
 zpl F.groups k j (q+1)=zpl F.groups k j q+((zax F.groups k j).getD q zby).1.toNat/\zpl F.groups k j (q+1)<=b.length
  /\(((ze9 F.groups (b.drop 4)).getD k []).getD j []).getD q []=(b.drop (zpl F.groups k j q)).take ((zax F.groups k j).getD q zby).1.toNat:=by
 have g:=z20 f;have h:=qiw (zax F.groups k j) (q+1);have i:=zu9 c;have l:=qix (F.groups.getD k zao).2 (j+1);have m:=zva d;have n:=qiy F.groups (k+1);refine⟨by unfold zpl;omega,?_,?_⟩
 ·unfold zpl
  have e:szL ((F.groups.getD k zao).2.getD j [])=szL (zax F.groups k j):=rfl;omega
 ·rw[zjr _ _ _ d,cutC_at _ _ _ c]
  have a:q<((F.groups.getD k zao).2.getD j []).length:=f;rw[z0j _ _ _ a,qth,qth,qth];unfold zpl zax;congr 2
  omega
theorem z6h{G:List za6}{k j:Nat}(b:j<(G.getD k zao).2.length):zpl G k j (zax G k j).length=zpl G k (j+1) 0:=by have a:=zu9 b;unfold zpl;rw[quw,qrq,show szL []=0 from rfl,a];unfold zax;omega
theorem z6i{G:List za6}{k:Nat}(b:k<G.length):zpl G k (G.getD k zao).2.length 0=zpl G (k+1) 0 0:=by have a:=zva b;unfold zpl;rw[quw,qrq,qrq,qrq,show szL []=0 from rfl,show szC []=0 from rfl,a];omega
theorem z25{F:FootS}(h:zbs F):F.groups.length<=65536/\F.cols.length<=64/\ ∀k,k<F.groups.length->(F.groups.getD k zao).2.length=F.cols.length/\ ∀j,j<F.cols.length->(zax F.groups k j).length<=65536:=by obtain⟨m,g⟩:=zmz h.2.1;have i:=h.2.2.1;have l:=h.2.2.2.1;refine⟨by omega,h.1.1,fun k d=>⟨(zc5 h d).2.1,fun j f=>?_⟩⟩;obtain⟨e,_⟩:=zkg h d f;have a:=zfy e.1;have b:=e.2;have c:=g _ (zah zao d);omega
theorem qcm{S:St}(d:S.ok):(∀c∈(getC S).1,(∀z∈c.1,z<256)/\c.1.length<=140737488351232)/\(getC S).1.length<=64:=by
 cases h:(getC S).2 with
 |none=>
  have:=qbi (show getC S=((getC S).1,none) by rw[<-h]);rw[this];simp
 |some r=>
  obtain⟨f,g⟩:=zh4 d (show getC S=((getC S).1,some r) by rw[<-h]);obtain⟨a,b,-⟩:=(zdv _).1 f;refine⟨fun c e=>⟨fun z i=>d _ g z ?_,by have:=(b c e).2.1;omega⟩,a⟩;rw[qrc];refine qvt _ (qvs _ (qtj.2 ⟨c,e,?_⟩));simp only[z50,qr5];exact .inl (.inr i)
theorem qlt{S:St}(a:S.ok):(getC S).2.ok:=by
 cases h:(getC S).2 with
 |none=>exact qxo
 |some r=>
  have:=(zh4 a (show getC S=((getC S).1,some r) by rw[<-h])).2;exact qxp fun x b=>a _ this x (by simp[b])
theorem qhr{S:St}(a:S.ok):((getC S).2.getD []).length<=(S.getD []).length:=by
 cases h:(getC S).2 with
 |none=>simp
 |some r=>
  have:=(zh4 a (show getC S=((getC S).1,some r) by rw[<-h])).2;rw[this];simp only[qsi,qrp];omega
theorem zrr{m:Int}:∀(cs:List za2) {S:St},S.ok->((zbk m cs S).2.getD []).length<=(S.getD []).length
 | [],_,_=>qq0 _
 |c::cs,S,h=>by
  have a:=zrr (m:=m) cs (zmy (t:=c.2.1) (m:=m) h);have b:=ztw (t:=c.2.1) (m:=m) h;simp only[zbk];omega
theorem z6z{k:Int->Int}{cols:List za2}{m:Int}{S:St}(h:S.ok):((zdx k cols m S).2.getD []).length<=(S.getD []).length:=by have a:=zev (m:=m) h;have b:=zrr (m:=k ((lenS m S).1:Int)) cols (zbo (m:=m) h);unfold zdx;dsimp only;omega
structure GrOwn(w:World)(B:Nat)(A:Option Addr)(d:Nat)(G:List GrD):Prop where
 row:w.ownsRow B 114 2 (.slice A G.length d) G.length (recs grV G)
 chunks:∀g∈G,ChOwn w B g.2.1 g.2.2.1 g.2.2.2
theorem GrOwn.later{w w':World}{B:Nat}{A:Option Addr}{d:Nat}{G:List GrD}(h:GrOwn w B A d G)(b:New w w'):GrOwn w' B A d G:=⟨zba h.row b,fun x a=>(h.chunks x a).later b⟩
theorem GrOwn.far{w w':World}{B g:Nat}{A:Option Addr}{d:Nat}{G:List GrD}(h:GrOwn w B A d G)(b:w.grownBy w' (some g))(a:g<B):GrOwn w' B A d G:=
 ⟨h.row.kept b (.inr (fun e=>by have:=(qqj h.row _ e).1;omega)),fun x c=>(h.chunks x c).far b a⟩
theorem ChOwn.base{w:World}{B a:Nat}{A:Option Addr}{d:Nat}{D:List ChD}(h:ChOwn w B A d D)(b:a<=B):ChOwn w a A d D:=⟨zfd h.row b,fun x c=>zfd (h.pages x c) b⟩
theorem ChOwn.row_{w w':World}{B base sz n:Nat}{A:Option Addr}{d:Nat}{D:List ChD}{e:TypeId}{v:Value}{xs:List Value}(h:ChOwn w B A d D)(o:w.ownsRow base e sz v n xs)(a:w.grownBy w' v.ownBlock)(c:136≠e)(f:135≠e):ChOwn w' B A d D:=
 ⟨h.row.kept a (zem h.row o c),fun x b=>(h.pages x b).kept a (zem (h.pages x b) o f)⟩
theorem FootIn.own{w:World}{B cc d:Nat}{Ac A:Option Addr}{L:List za2}{G:List GrD}(h:w.ownsRow B 71 3 (.slice Ac L.length cc) L.length (recs zle L))(b:GrOwn w B A d G)(g:∀x∈L,(∀z∈x.1,z<256)/\x.1.length<=140737488351232)(f:L.length<=cc)(j:L.length<=64)(i:G.length<=65536)
 (c:∀x∈G,x.2.2.2.length=L.length/\ ∀y∈x.2.2.2,y.2.2.length<=65536):FootIn w Ac cc L A G:=
 ⟨qwz h,g,f,by omega,qwz b.row,by omega,fun x a=>⟨qwz (b.chunks x a).row,by have:=(c x a).1;omega⟩,fun x a y e=>⟨qwz ((b.chunks x a).pages y e),by have:=(c x a).2 y e;omega⟩⟩
theorem ztz{t m:Int}:∀(k:Nat) (S:St),(zc1 t m k S).1.length<=k
 |0,_=>qq0 _
 |_+1,none=>qq1 _
 |k+1,some l=>by
  have:=ztz (t:=t) (m:=m) k (zhk t m (some l)).2;simp only[zc1,qr1];omega
theorem z60{t m:Int}{S:St}(c:S.ok)(hm:0<=m/\m<=65536):(zdl t m S).1.length<=65536:=by have a:=ztz (t:=t) (m:=m) (lenS m S).1 (lenS m S).2;have b:=zdo (m:=m) S hm.1 c;unfold zdl;omega
theorem zrs{m:Int}(hm:0<=m/\m<=65536):∀(b:List za2) {S:St},S.ok-> ∀l∈(zbk m b S).1,l.length<=65536
 | [],_,_,l,a=>by simp[zbk] at a
 |c::b,S,d,l,a=>by
  simp only[zbk,qsm] at a;rcases a with rfl|a
  ·exact z60 d hm
  ·exact zrs hm b (zmy d) l a
theorem zrt{cols:List za2}{m:Int}(hm:0<=m/\m<=65536):∀(n:Nat) {S:St},S.ok-> ∀g∈(zbp (fun r=>r) cols m n S).1,g.2.length=cols.length/\ ∀l∈g.2,l.length<=65536
 |0,_,_,g,hg=>by simp[zbp] at hg
 |_+1,none,_,g,hg=>by simp[zbp] at hg
 |n+1,some b,hS,g,hg=>by
  simp only[zbp,qsm] at hg;rcases hg with rfl|hg
  ·have hle:=zdo (m:=m) (some b) hm.1 hS
   exact⟨zrb _ _,zrs (by dsimp only;omega) _ (zbo hS)⟩
  ·exact zrt hm n (zxu hS) g hg
def qpg(o:Option FootS)(w:World)(e:Ending)(w':World):Prop:=
 match o with
 |none=>e= .returned (.tuple #[.agg #[.slice none 0 0,.int .i64 0,.slice none 0 0],.bool false])/\New w w'
 |some F=>∃Ac cc L r Ag cg G,e= .returned (.tuple #[zmp Ac cc L r Ag cg G,.bool true])/\zb0 L r G=F/\((∀g W,g<=w.heap.size->w'.grownBy W (some g)->FootIn W Ac cc L Ag G)/\G.length<=cg)/\New w w'
theorem qqb:ElT Tryz.prog 77 114 (.agg #[.int .i64 0,.slice none 0 0]) 2 32:=⟨by kernel_rfl,by kernel_rfl,rfl,by omega⟩
theorem zvm(D:List GrD)(x:GrD):recs grV (D++[x])=recs grV D++[.int .i64 x.1,.slice x.2.1 x.2.2.2.length x.2.2.1]:=by rw[zbe];rfl
theorem zye{k:Int->Int}{cols:List za2}{m:Int}{j:Nat}{b:List Nat}:zbp k cols m (j+1) (some b)=((zdx k cols m (some b)).1::(zbp k cols m j (zdx k cols m (some b)).2).1,(zbp k cols m j (zdx k cols m (some b)).2).2):=rfl
theorem zyf{w:World}{A:Option Addr}{m c:Nat}{b:List Nat}(h:Reads w w.heap.size 1 A m (zar .u8 b))(h8:∀x∈b,x<256)(hm:m<=140737488351232):
 Calls Tryz.prog 68 #[.slice A m c] w (qpg (zo0 (fun r=>r) b) w):=by
 obtain rfl:m=b.length:=h.len;have U:St.ok (some b):=qxp h8;obtain⟨i6,e1⟩:=qcm U;have P:=qlt U;have b2:=qhr U;have ha:New w (w.alloc (.cells #[.slice none 0 0,.int .i64 0,.slice none 0 0] 79)):=(qwd _ _).alloc (qq0 _) _;have Q:=qw1 w 79 #[.slice none 0 0,.int .i64 0,.slice none 0 0];have OV:=qwk (zuk (c:=c) (qxj h ha) (by omega) h8);obtain⟨M,hM⟩:∃M,M=zo0 (fun r=>r) b:=⟨_,rfl⟩;rw[<-hM];unfold zo0 zvc znw zre at hM;have c7:=zdo (m:=65536) (getC (some b)).2 (by omega) P;have u:=zbo (m:=65536) P;have b3:=zev (m:=65536) P;have S:=qwk i6;have HM:=qwk hM;have GC:=fun(W:World) (g:Nat) (hs:CurS W g (some b))=>qhq hs
 clear h hM i6 U;generalize getC (some b)=H at*;obtain⟨L,SC⟩:=H;dsimp only at P b2 e1 c7 u b3 S HM GC;have L1:=fun(W:World) (g:Nat) (hs:CurS W g SC)=>zei (m:=65536) hs (by omega) (by omega)
 generalize lenS 65536 SC=H at*;obtain⟨R,SN⟩:=H;dsimp only at c7 u b3 HM L1;have j0:=zdo (m:=(R:Int)) SN (by omega) u;have b0:=zbo (m:=(R:Int)) u;have b4:=zev (m:=(R:Int)) u;have L2:=fun(W:World) (g:Nat) (hs:CurS W g SN)=>zei (m:=(R:Int)) hs (by omega) (by omega)
 generalize lenS (R:Int) SN=H at*;obtain⟨N,Sn⟩:=H;dsimp only at j0 b0 b4 HM L2;simp only[qsi] at b2;have g4:=qwk GC;have g6:=qwk L1;have g9:=qwk L2;clear GC L1 L2 P u;go_enter Tryz.func68,Tryz.ntmps68
 go_wp2_with fail
 refine OV.out.mono ?_;rintro e w1 ⟨g,rfl,hg,C1,b1⟩;have k8:=C1.lt;have j8:=b1.size;simp only[qww] at j8 hg;have s1:=CurS.of C1;have c9:=Q.below b1 Q.lt;have h5:=qw5 ha b1;have c1:New w1 (w1.alloc (.cells #[.slice none 0 0,.int .i64 0,.slice none 0 0] 79)):=(qwd _ _).alloc (qq0 _) _;have BQ:=qw1 w1 79 #[.slice none 0 0,.int .i64 0,.slice none 0 0];have Y:=c9.below c1 c9.lt;have s2:=s1.below c1;have h6:=qw5 h5 c1;have P1:=qwk (g4.out _ _ s2);have e4:(w1.alloc (.cells #[.slice none 0 0,.int .i64 0,.slice none 0 0] 79)).heap.size=w1.heap.size+1:=by simp
 clear OV C1 Q c9 b1 h5 ha c1 s1 s2;go_wp2_with fail
 refine P1.out.mono ?_;rintro e w3 ⟨Ac,nc,cc,rfl,i5,l9,V,s3,g3⟩;obtain rfl:nc=L.length:=(qwz V).lenC;rw[e4] at V;have j9:=g3.size;rw[e4] at j9;have a4:=BQ.grown g3 (by intro e;injection e with e;omega);have f3:=Y.grown g3 (by intro e;injection e with e;omega);have h7:=qxa h6 g3 (by omega) (qq0 _);clear P1 BQ Y h6 g3 e4;generalize w1.heap.size=f at*;obtain⟨x0,x1,x2⟩:=zan a4;have f0:=a4.frozen 0;have n:w3.grownBy (w3.setCell ⟨f,0,none⟩ (.slice Ac L.length cc)) (some f):=zaz;have l4:w3.heap.size<=(w3.setCell ⟨f,0,none⟩ (.slice Ac L.length cc)).heap.size:=n.size;have s4:=s3.keep n a4 (by omega) (by decide);have e6:=V.kept n (.inr (fun e=>by have:=(qqj V _ e).1;omega));have f4:=f3.grown n (by intro e;injection e with e;omega);have c8:=a4.set_ 0 (.slice Ac L.length cc);simp only[qta,qs1] at c8;have h9:=qxa h7 n (by omega) (qq0 _);have P2:=qwk (g6.out _ _ s4);clear s3 V f3 a4 h7 n;go_wp2_with fail
 refine P2.out.mono ?_;rintro e w5 ⟨rfl,s5,g5⟩;have l1:=g5.size;have a5:=c8.grown g5 (by intro e;injection e with e;omega);have f5:=f4.grown g5 (by intro e;injection e with e;omega);have e7:=e6.kept g5 (.inr (fun e=>by have:=(qqj e6 _ e).1;omega));have i0:=qxa h9 g5 (by omega) (qq0 _);clear P2 s4 e6 f4 c8 h9 g5 x0 x1 x2 f0;obtain⟨x0,x1,x2⟩:=zan a5;have f1:=a5.frozen 1;have n:w5.grownBy (w5.setCell ⟨f,1,none⟩ (.int .i64 (R:Int))) (some f):=zaz;have k0:w5.heap.size<=(w5.setCell ⟨f,1,none⟩ (.int .i64 (R:Int))).heap.size:=n.size;have s6:=s5.keep n a5 (by omega) (by decide);have e8:=e7.kept n (.inr (fun e=>by have:=(qqj e7 _ e).1;omega));have f6:=f5.grown n (by intro e;injection e with e;omega);have b8:=a5.set_ 1 (.int .i64 (R:Int));simp only[qta,qs1,qtb] at b8;have i1:=qxa i0 n (by omega) (qq0 _);have P3:=qwk (g9.out _ _ s6);clear s5 e7 f5 a5 i0 n;obtain⟨y0,y1,y2⟩:=zan b8;go_wp2_with fail
 refine P3.out.mono ?_;rintro e w7 ⟨rfl,s7,g7⟩;have l2:=g7.size;have e9:=b8.grown g7 (by intro e;injection e with e;omega);have f7:=f6.grown g7 (by intro e;injection e with e;omega);have k2:=e8.kept g7 (.inr (fun e=>by have:=(qqj e8 _ e).1;omega));have i2:=qxa i1 g7 (by omega) (qq0 _);clear P3 s6 e8 f6 b8 i1 g7 x0 x1 x2 y0 y1 y2 f1;go_wp2_with fail
 have m2:w.heap.size<g:=by omega
 have m1:g<f:=by omega
 have j3:f<w7.heap.size:=by omega
 have d4:=qwk (show zbp (fun r=>r) L (R:Int) N Sn=([]++(zbp (fun r=>r) L (R:Int) N Sn).1,(zbp (fun r=>r) L (R:Int) N Sn).2) from rfl);obtain⟨X,t⟩:∃X,X=zbp (fun r=>r) L (R:Int) N Sn:=⟨_,rfl⟩;rw[<-t] at HM;have d4:Hid (X=([]++(zbp (fun r=>r) L (R:Int) N Sn).1,(zbp (fun r=>r) L (R:Int) N Sn).2)):=qwk (by rw[t];rfl);have a8:Hid (∀gr∈X.1,∀l∈gr.2,∀p∈l,statData p.2.2):=qwk (by rw[t];exact zjs _ _);have a9:Hid (∀gr∈X.1,gr.2.length=L.length/\ ∀l∈gr.2,l.length<=65536):=qwk (by rw[t];exact zrt (by omega) _ b0);clear t l4 k0 j9 l1 l2 j8 hg k8;go_loopw [6] (fun i wr=>∃(j d:Nat) (A:Option Addr) (G:List GrD) (Sj:St),i= .int .i64 (j:Int)/\Hid (G.length+j=N)/\j<=N/\Blk wr f 79 #[.slice Ac L.length cc,.int .i64 (R:Int),.slice A G.length d]/\Blk wr w.heap.size 79 #[.slice none 0 0,.int .i64 0,.slice none 0 0]
  /\wr.ownsRow (f+1) 71 3 (.slice Ac L.length cc) L.length (recs zle L)/\GrOwn wr (f+1) A d G/\CurS wr g Sj/\(Sj.getD []).length<=140737488351232/\Hid (X=(G.map grP++(zbp (fun r=>r) L (R:Int) j Sj).1,(zbp (fun r=>r) L (R:Int) j Sj).2))/\New w wr/\f<wr.heap.size) (fun i _=>(intOf i).toNat)
 case atStart=>exact⟨N,0,none,[],Sn,rfl,qwk (by simp),qq0 _,e9,f7,k2,⟨zd8,by simp⟩,s7,by omega,d4,i2,j3⟩
 case round=>
  obtain⟨j,d,A,G,Sj,rfl,d9,m3,B,Q,V,GO,s,l0,a0,bw,k9⟩:=hrel;clear d4 s7 e9 f7 k2 i2 j3 g6 g9 g4 b0 b4;have BD:=qwk (qir s);by_cases hj:0<j
  ·cases Sj with
   |none=>
    simp only[Option.isNone_none] at BD;have t:=a0.out;rw[zos,qra] at t;clear a0;have hN:M=none:=by rw[HM.out,t];exact if_neg (fun h=>by simp at h)
    have a:=qwk hN;have BW:=bw;have q:=zmh s;simp only[z7k] at q;have q:=qwk q;clear HM a8 a9 hN GO V S;go_wp2_with fail
    refine BD.out.mono ?_;rintro e l6 ⟨rfl,rfl⟩;go_wp2_with fail
    refine q.out.mono ?_;rintro e w8 ⟨rfl,rfl⟩
    go_wp2_with (refine zal rfl 79 (.tmp 2) (.tmp 47) rfl w.heap.size _ rfl rfl Q (by kernel_rfl) rfl (by simp[Value.oneCell']) ?_
                 intro W9 BR G9;obtain⟨r0,r1,r2⟩:=zan BR)
    rw[a.out];exact bodyPost_ret (v:= .tuple #[.agg #[.slice none 0 0,.int .i64 0,.slice none 0 0],.bool false]) (by simp[results,Tryz.results68,go_sem,r0,r1,r2]) rfl ⟨rfl,qxa BW G9 (qq0 _) (qq0 _)⟩
   |some b=>
    simp only[qvc] at BD;obtain⟨j,rfl⟩:∃k,j=k+1:=⟨j-1,by omega⟩;have t:=a0.out;rw[zye] at t;have j2:=s.ok;have i9:=z6z (k:=fun r=>r) (cols:=L) (m:=(R:Int)) j2;have GG:=fun(W:World) (hs:CurS W g (some b)) (hC:W.ownsRow (f+1) 71 3 (.slice Ac L.length cc) L.length (recs zle L))=>zya (m:=(R:Int)) hs l0 (by omega) hC (by omega)
    generalize zdx (fun r=>r) L (R:Int) (some b)=H at*;obtain⟨gv,S5⟩:=H;obtain⟨o,k7⟩:=gv;dsimp only at t i9 GG;have HX:=qwk t;have e0:G.length<=65536:=by have:=d9.out;omega
    have e2:∀x∈zbt (.slice A G.length d),f+1<=x:=fun x T=>(zp6 GO.row x T).1
    have j1:f∉(g::zbt (.slice A G.length d)):=by
     intro hm;rcases qsm.1 hm with e|e
     ·omega
     ·have:=e2 _ e;omega
    have l7:w.heap.size∉(g::zbt (.slice A G.length d)):=by
     intro hm;rcases qsm.1 hm with e|e
     ·omega
     ·have:=e2 _ e;omega
    obtain⟨x0,x1,x2⟩:=zan B;clear t a0 j2;go_wp2_with fail
    refine BD.out.mono ?_;rintro e l6 ⟨rfl,rfl⟩;go_wp2_with fail
    refine zc6 (Turns (g::zbt (.slice A G.length d))) 11 [(1,0),(0,1),(1,2),(1,3),(0,4),(1,5),(0,6),(2,7),(2,8),(2,9),(1,10),(2,11)]
     (qxc _) qxd (by kernel_rfl) (by kernel_rfl) (by kernel_rfl) (by kernel_rfl) ?_
    have F:=qwk (fun(W:World) (hW:Turns (g::zbt (.slice A G.length d)) wr.drew W)=>B.drew.touch hW j1);have s2:=s.below (qw6 wr);have d2:=GO.later (qw6 wr);have b6:=zba V (qw6 wr);have B2:=B.drew;have Y:=Q.drew;have d5:=qw5 bw (qw6 wr);have d3:=qwk (GG _ s2 b6);have i8:f<wr.drew.heap.size:=k9;clear x0 x1 x2 B Q GO V s bw GG BD;obtain⟨wa,j6⟩:∃wa,wa=wr.drew:=⟨_,rfl⟩;rw[<-j6] at F s2 d2 b6 B2 Y d5 d3 i8⊢;clear j6;repeat(first
     |(refine zc7 rfl rfl (v:=?_) (fun W hW=>?_) ?_;rotate_left;(have F1:=F.out W hW;obtain⟨y0,y1,y2⟩:=zan F1;clear F1;go_simp<;> with_reducible rfl);simp only[Act.put,qta,qs1,qtb])
     |(refine zb8 rfl rfl (v:=?_) (fun W=>?_) ?_;rotate_left;(go_simp<;> with_reducible rfl);simp only[Act.put,qta,qs1,qtb]))
    refine zbh rfl rfl (fun K hK=>?_);go_simp
    (with_reducible refine d3.out.mono ?_)
    rintro e w8 ⟨A8,d8,D8,rfl,d7,c0,s8,g8⟩;refine hK _ _ (.inr (.inr (qxf g8 (by simp)))) ?_;clear hK;dsimp only at d7;have m4:=g8.size;have f9:=d2.far g8 (by omega);have k3:=b6.kept g8 (.inr (fun e=>by have:=(qqj b6 _ e).1;omega));have B8:=B2.grown g8 (by intro e;injection e with e;omega);have d0:=Y.grown g8 (by intro e;injection e with e;omega);have i4:=qxa d5 g8 (by omega) (qq0 _);have c0:=c0.base (show f+1<=wa.heap.size by omega);have g0:=qwk d7;clear F d3 d2 b6 B2 Y d5 s2 g8 d7;refine zbh rfl rfl (fun K hK=>?_);go_simp
    refine hK _ _ (.inr (.inr (qxe ((qwd _ _).alloc (qq0 _) _)))) ?_;clear hK;have RL:=qxk w8 114 #[.int .i64 o,.slice A8 D8.length d8] 1 2 [.int .i64 o,.slice A8 D8.length d8] rfl rfl;have D:New w8 (w8.alloc (.cells #[.int .i64 o,.slice A8 D8.length d8] 114)):=(qwd _ _).alloc (qq0 _) _;have I:=f9.later D;have d1:=c0.later D;have c2:=zba k3 D;have s9:=s8.below D;have B9:=B8.below D B8.lt;have a6:=d0.below D d0.lt;have d6:=qw5 i4 D;have l3:=D.size;clear f9 c0 k3 s8 B8 d0 i4 D;obtain⟨wb,j7⟩:∃wb,wb=w8.alloc (.cells #[.int .i64 o,.slice A8 D8.length d8] 114):=⟨_,rfl⟩;rw[<-j7] at RL I d1 c2 s9 B9 a6 d6 l3⊢;clear j7;refine zbh rfl rfl (fun K hK=>?_);refine zy9 qqb (.tmp 29) (.tmp 36) rfl (W:=w) (B:=w.heap.size) (base:=f+1) I.row RL rfl rfl d6 (by omega) (by omega) (by simp[Value.oneCell']) (by omega) (by simp only[maxLen];omega) ?_;intro E J a2 _ _ e5 C c5;refine hK _ _ (.inr (.inr ((qxl C).more (fun x T=>quq _ T)))) ?_;clear hK;have l8:=C.size;have j4:∀y,y<f+1->y∉zbt (.slice A G.length d):=fun y hy hm=>by have:=e2 _ hm;omega
    have a3:=B9.touch (qxl C) (j4 _ (by omega));have c3:=a6.touch (qxl C) (j4 _ (by omega));have k4:=s9.pushRow I.row C (by decide) (by decide);have b5:=c2.kept C (zem c2 I.row (by decide));have h4:∀x∈G,ChOwn a2 (f+1) x.2.1 x.2.2.1 x.2.2.2:=fun x T=>(I.chunks x T).row_ I.row C (by decide) (by decide)
    have c4:=d1.row_ I.row C (by decide) (by decide);have x0:=a3.cell 2;have y0:=a3.frozen 2;simp at x0;have n:a2.grownBy (a2.setCell ⟨f,2,none⟩ (.slice E (G.length+1) J)) (some f):=zaz;clear I d1 c2 s9 B9 a6 d6 C RL;refine zb8 rfl rfl (v:=?_) (fun W=>?_) ?_;rotate_left
    ·go_simp<;> with_reducible rfl
    simp only[Act.put,qta,qs1,qtb];refine zbh rfl rfl (fun K hK=>?_);go_simp
    refine hK _ _ (.inr (.inl rfl)) ?_;clear hK x0 y0;refine zgm ?_;have f8:GrOwn (a2.setCell ⟨f,2,none⟩ (.slice E (G.length+1) J)) (f+1) E J (G++[(o,A8,d8,D8)]):=by
     constructor
     ·rw[zvm,qrp]
      exact e5.kept n (.inr (fun e=>by have:=(qqj e5 _ e).1;omega))
     ·intro x T
      rcases qr5.1 T with T|T
      ·exact(h4 x T).far n (by omega)
      ·rw[qr6.1 T]
       exact c4.far n (by omega)
    have b7:=a3.set_ 2 (.slice E (G.length+1) J);simp only[qta,qs1,qtb] at b7;have f2:=c3.grown n (by intro e;injection e with e;omega);have l5:=k4.keep n a3 (by omega) (by decide);have k1:=b5.kept n (.inr (fun e=>by have:=(qqj b5 _ e).1;omega));have i3:=qxa c5 n (by omega) (qq0 _);have i7:f<(a2.setCell ⟨f,2,none⟩ (.slice E (G.length+1) J)).heap.size:=by have:=n.size;omega
    have h0:Hid (X=((G++[(o,A8,d8,D8)]).map grP++(zbp (fun r=>r) L (R:Int) j S5).1,(zbp (fun r=>r) L (R:Int) j S5).2)):=qwk (by rw[HX.out,que,show [((o,A8,d8,D8):GrD)].map grP=[(o,k7)] by rw[<-g0.out];rfl,qrc];rfl)
    have g2:Hid ((G++[(o,A8,d8,D8)]).length+j=N):=qwk (by rw[qrp,<-d9.out];simp;omega);have j5:(S5.getD []).length<=140737488351232:=by omega
    have b7:Blk (a2.setCell ⟨f,2,none⟩ (.slice E (G.length+1) J)) f 79 #[.slice Ac L.length cc,.int .i64 (R:Int),.slice E (G++[(o,A8,d8,D8)]).length J]:=by rw[qrp];exact b7
    clear n h4 c4 e5 k4 b5 c3 a3 c5 HX g0 i9;go_wp2_with fail
    go_roundw
    case rel=>exact⟨j,J,E,G++[(o,A8,d8,D8)],S5,by go_num,g2,by omega,b7,f2,k1,f8,l5,j5,h0,i3,i7⟩
    case measure=>simp[intOf]
  ·obtain rfl:j=0:=by omega
   have t:=a0.out;rw[show zbp (fun r=>r) L (R:Int) 0 Sj=([],Sj) from rfl,qra] at t;clear a0 BD;cases Sj with
   |none=>
    have hN:M=none:=by rw[HM.out,t];exact if_neg (fun h=>by simp at h)
    have a:=qwk hN;have BW:=bw;have q:=zmh s;simp only[z7k] at q;have q:=qwk q;clear HM a8 a9 hN GO V S;go_wp2_with fail
    refine q.out.mono ?_;rintro e w8 ⟨rfl,rfl⟩
    go_wp2_with (refine zal rfl 79 (.tmp 2) (.tmp 47) rfl w.heap.size _ rfl rfl Q (by kernel_rfl) rfl (by simp[Value.oneCell']) ?_
                 intro W9 BR G9;obtain⟨r0,r1,r2⟩:=zan BR)
    rw[a.out];exact bodyPost_ret (v:= .tuple #[.agg #[.slice none 0 0,.int .i64 0,.slice none 0 0],.bool false]) (by simp[results,Tryz.results68,go_sem,r0,r1,r2]) rfl ⟨rfl,qxa BW G9 (qq0 _) (qq0 _)⟩
   |some r=>
    cases r with
    |cons z r=>
     have hN:M=none:=by rw[HM.out,t];exact if_neg (fun h=>by simp at h)
     have a:=qwk hN;have BW:=bw;have q:=zmh s;simp only[z7k] at q;have q:=qwk q;clear HM a8 a9 hN GO V S;go_wp2_with fail
     refine q.out.mono ?_;rintro e w8 ⟨rfl,rfl⟩
     go_wp2_with (refine zal rfl 79 (.tmp 2) (.tmp 47) rfl w.heap.size _ rfl rfl Q (by kernel_rfl) rfl (by simp[Value.oneCell']) ?_
                  intro W9 BR G9;obtain⟨r0,r1,r2⟩:=zan BR)
     rw[a.out];exact bodyPost_ret (v:= .tuple #[.agg #[.slice none 0 0,.int .i64 0,.slice none 0 0],.bool false]) (by simp[results,Tryz.results68,go_sem,r0,r1,r2]) rfl ⟨rfl,qxa BW G9 (qq0 _) (qq0 _)⟩
    |nil=>
     have q:=zmh s;simp only[z7k] at q;have q:=qwk q;have e0:G.length<=65536:=by have:=d9.out;omega
     have e3:∀x∈G,x.2.2.2.length=L.length/\ ∀y∈x.2.2.2,y.2.2.length<=65536:=fun x T=>by have h1:=a9.out;rw[t] at h1;obtain⟨h2,h3⟩:=h1 (grP x) (qqu.2 ⟨x,T,rfl⟩);unfold grP at h2 h3;rw[qtl] at h2;exact⟨h2,fun y hy=>h3 y.2.2 (qqu.2 ⟨y,hy,rfl⟩)⟩
     have FI:=FootIn.own V GO S.out i5 e1 e0 e3;have g1:=qwk (fun(W:World) (o1:W.ownsRow (f+1) 71 3 (.slice Ac L.length cc) L.length (recs zle L)) (o2:GrOwn W (f+1) A d G)=>FootIn.own o1 o2 S.out i5 e1 e0 e3);have c6:∀x∈G,∀y∈x.2.2.2,∀p∈y.2.2,zew p.2.2:=fun x T y hy p hp=>by have h1:=a8.out;rw[t] at h1;exact(h1 (grP x) (qqu.2 ⟨x,T,rfl⟩) y.2.2 (qqu.2 ⟨y,hy,rfl⟩) p hp).fine
     have RT:=znv (cg:=d) (r:=(R:Int)) FI c6;have RT:Calls Tryz.prog 87 #[.agg #[.slice Ac L.length cc,.int .i64 (R:Int),.slice A G.length d]] wr (zap (.bool (ze6 (zb0 L (R:Int) G))) wr):=RT;have O:=HM.out;rw[t] at O;dsimp only at O;have Z:=qwk V;have a7:=qwk GO;clear HM a8 a9 c6 e3 FI GO V S;obtain⟨x0,x1,x2⟩:=zan B;by_cases a1:zbs (zb0 L (R:Int) G)
     ·rw[znu a1] at RT
      rw[if_pos ⟨rfl,a1⟩] at O;have RT:=qwk RT;have k5:=qwk O;clear O a1;go_wp2_with fail
      refine q.out.mono ?_;rintro e w8 ⟨rfl,rfl⟩;go_wp2_with fail
      refine RT.out.mono ?_;rintro e w9 ⟨rfl,b9⟩;have B9:=B.below b9 B.lt;have a6:=Q.below b9 Q.lt;have Z:=qwk (zba Z.out b9);have a7:=qwk (a7.out.later b9);have k6:=qw5 bw b9;clear B Q b9 x0 x1 x2 RT q;obtain⟨x0,x1,x2⟩:=zan B9
      go_wp2_with (refine zal rfl 79 (.tmp 2) (.tmp 48) rfl w.heap.size _ rfl rfl a6 (by kernel_rfl) rfl (by simp[Value.oneCell']) ?_
                   intro W9 BR G9;obtain⟨r0,r1,r2⟩:=zan BR)
      rw[k5.out];exact bodyPost_ret (v:= .tuple #[.agg #[.slice Ac L.length cc,.int .i64 (R:Int),.slice A G.length d],.bool true]) (by simp[results,Tryz.results68,go_sem,r0,r1,r2]) rfl ⟨Ac,cc,L,(R:Int),A,d,G,rfl,rfl,⟨fun g' W' m0 G'=>g1.out _ (qqi (Z.out.kept G9 (.inr (fun e=>by have:=(qqj Z.out _ e).1;omega))) G' (.inr (fun e=>by have:=(qqj Z.out _ e).1;omega))) ((a7.out.far G9 (by omega)).far G' (by omega)),by obtain⟨_,_,e,k,_⟩:=zes a7.out.row;injection e with _ _ e;omega⟩,qxa k6 G9 (qq0 _) (qq0 _)⟩
     ·rw[zq7 a1] at RT
      rw[if_neg (fun h=>a1 h.2)] at O;have RT:=qwk RT;have a:=qwk O;clear O a1 g1 Z a7;go_wp2_with fail
      refine q.out.mono ?_;rintro e w8 ⟨rfl,rfl⟩;go_wp2_with fail
      refine RT.out.mono ?_;rintro e w9 ⟨rfl,b9⟩;have Q:=Q.below b9 Q.lt;have BW:=qw5 bw b9;clear B b9 x0 x1 x2 RT q
      go_wp2_with (refine zal rfl 79 (.tmp 2) (.tmp 47) rfl w.heap.size _ rfl rfl Q (by kernel_rfl) rfl (by simp[Value.oneCell']) ?_
                   intro W9 BR G9;obtain⟨r0,r1,r2⟩:=zan BR)
      rw[a.out];exact bodyPost_ret (v:= .tuple #[.agg #[.slice none 0 0,.int .i64 0,.slice none 0 0],.bool false]) (by simp[results,Tryz.results68,go_sem,r0,r1,r2]) rfl ⟨rfl,qxa BW G9 (qq0 _) (qq0 _)⟩
end Go.Proofs.Y
