import Derived.Test.YtbahbnbpmfgimaaGreatDoorBun23
import Derived.Test.YtbahbnbpmfgimaaGreatDoorBun24
import Derived.Test.YtbahbnbpmfgimaaGreatDoorBun37
set_option maxHeartbeats 4000000
set_option maxRecDepth 100000
namespace Go.Proofs.Y
open Go.RowKit Go.Hm
def zr4(x:Int):zab:=(false,x,[],0,0)
def qlf(s:List Nat):zab:=(false,0,s,0,0)
def cPt(p:Int × Int):zab:=(false,0,[],p.1,p.2)
theorem z5q{x:Int}:zad (zr4 x) 0 false=true:=by simp[zad,zr4]
theorem z5r{s:List Nat}(h:s.length<=65536):zad (qlf s) 2 false=true:=by simp[zad,qlf,h]
theorem qa0{p:Int × Int}:zad (cPt p) 3 false=inBox p.1 p.2:=by simp[zad,cPt]
theorem qa1{c:zab}{t:Int}(i:t=0\/t=1)(h:zad c t false=true):c=zr4 c.2.1:=by
 have a:=zhz h;obtain⟨j,b,d,f,g⟩:=c;dsimp only at a;subst a;rcases i with rfl|rfl
 ·have e:d=[]/\f=0/\g=0:=by simpa[zad] using h
  obtain⟨rfl,rfl,rfl⟩:=e;rfl
 ·have e:(d=[]/\f=0/\g=0)/\(b=0\/b=1):=by simpa[zad] using h
  obtain⟨⟨rfl,rfl,rfl⟩,-⟩:=e;rfl
theorem qlg{c:zab}(h:zad c 2 false=true):c=qlf c.2.2.1:=by
 have a:=zhz h;obtain⟨i,b,d,f,g⟩:=c;dsimp only at a;subst a;have e:(b=0/\f=0/\g=0)/\d.length<=65536:=by simpa[zad] using h
 obtain⟨⟨rfl,rfl,rfl⟩,-⟩:=e;rfl
theorem qnj{c:zab}(h:zad c 3 false=true):c=cPt (c.2.2.2.1,c.2.2.2.2):=by
 have a:=zhz h;obtain⟨i,b,d,f,g⟩:=c;dsimp only at a;subst a;have e:(b=0/\d=[])/\inBox f g=true:=by simpa[zad] using h
 obtain⟨⟨rfl,rfl⟩,-⟩:=e;rfl
theorem ziz{t e:Int}(h:fitsV t e=true):(0<=e/\e<=4)/\0<=t/\t<=3:=by unfold fitsV at h;rw[decide_eq_true_eq] at h;omega
def ze7(l:List zab):List Nat:=l.map fun c=>zig c.2.1
def zfx(l:List zab):List Int:=l.map fun c=>c.2.1
def za4(l:List zab):List (List Nat):=l.map fun c=>c.2.2.1
def xsV(l:List zab):List Int:=l.map fun c=>c.2.2.2.1
def ysV(l:List zab):List Int:=l.map fun c=>c.2.2.2.2
def zkx(a:Int):List Int->List Int
 | []=>[]
 |x::l=>(x-a)::zkx x l
theorem zhd:∀(l:List Int) (a:Int),(zkx a l).length=l.length
 | [],_=>rfl
 |x::l,a=>by rw[zkx,qr1,qr1,zhd l]
theorem zu3{l:List Int}:∀{a:Int},(-1048576<=a/\a<=1048576)->(∀x∈l,-1048576<=x/\x<=1048576)-> ∀d∈zkx a l,-2097152<=d/\d<=2097152:=by
 induction l with
 |nil=>intro a _ _ d b;simp[zkx] at b
 |cons x l f=>
  intro a g h d b;have c:=h x (by simp);rw[zkx] at b;rcases qsm.1 b with rfl|b
  ·omega
  ·exact f c (fun y e=>h y (by simp[e])) d b
def encPts(l:List zab):Option (List Nat):=
 match zql (zkx 0 (xsV l)),zql (zkx 0 (ysV l)) with
 |some a,some b=>some (vp a.length++a++b)
 |_,_=>none
theorem z2s:∀(P:List (Int × Int)) (h:Int × Int),inBox h.1 h.2=true->(∀p∈P,inBox p.1 p.2=true)->zsd h ((zkx h.1 (P.map (·.1))).zip (zkx h.2 (P.map (·.2))))=some P
 | [],_,_,_=>rfl
 |p::P,h,hh,hP=>by
  have hp:=hP p (by simp);have d:=z2s P p hp (fun q c=>hP q (by simp[c]));have e:=inBox_iff.1 hh;have f:=inBox_iff.1 hp;have b:qgp (p.1-h.1) (p.2-h.2)=true:=nearB_iff.2 (by omega);simp only[qrj,zkx,List.zip_cons_cons,zsd];rw[show h.1+(p.1-h.1)=p.1 by omega,show h.2+(p.2-h.2)=p.2 by omega,b,hp,if_pos (show(true&&true)=true from rfl)];have a:zsd (p.1,p.2) ((zkx p.1 (P.map (·.1))).zip (zkx p.2 (P.map (·.2))))=some P:=d;rw[a];rfl
theorem zs9:∀(X Y:List Int) (h:Int × Int) (P:List (Int × Int)),X.length=Y.length->zsd h (X.zip Y)=some P->
 P.length=X.length/\zkx h.1 (P.map (·.1))=X/\zkx h.2 (P.map (·.2))=Y/\ ∀p∈P,inBox p.1 p.2=true
 | [],[],h,P,_,e=>by
   simp[zsd] at e;subst e;simp[zkx]
 | [],b::Y,h,P,hl,e=>by simp at hl
 |a::X,[],h,P,hl,e=>by simp at hl
 |a::X,b::Y,h,P,hl,e=>by
  rw[List.zip_cons_cons,zsd] at e;split at e
  ·rename_i hc
   rw[qsl] at hc;cases e2:zsd (h.1+a,h.2+b) (X.zip Y) with
   |none=>rw[e2] at e;cases e
   |some P2=>
    rw[e2] at e;injection e with e;subst e;obtain⟨h1,h2,h3,h4⟩:=zs9 X Y (h.1+a,h.2+b) P2 (by simpa using hl) e2;simp only[qrj,zkx,qr1,h1,h2,h3];refine⟨trivial,by congr 1;omega,by congr 1;omega,?_⟩;intro p c;rcases qsm.1 c with rfl|c
    ·exact hc.2
    ·exact h4 p c
  ·cases e
theorem zxd:∀(P:List (Int × Int)) (h:Int × Int),(∀p∈P,inBox p.1 p.2=true)->zgw h P=some ((zkx h.1 (P.map (·.1))).zip (zkx h.2 (P.map (·.2))))
 | [],_,_=>rfl
 |p::P,h,a=>by
  rw[zgw,if_pos (a p (by simp)),zxd P p (fun q b=>a q (by simp[b]))];rfl
def zez(t e:Int)(l:List zab):Option (List Nat):=
 if e=0 then plO t l else if e=1 then zi7 t l else if zjk t l=true then
  (if e=2 then some (zlu (ze7 l)) else if e=3 then(if t=3 then encPts l else zql (zfx l)) else zz6 (za4 l)) else none
theorem qgq{t:Int}{l:List zab}{b:List Nat}(h:zi7 t l=some b):zjk t l=true:=by
 unfold zi7 at h;split at h
 ·cases h
 ·rename_i V f
  split at h
  ·rename_i i
   obtain⟨⟨a,d,-⟩,e⟩:=plOk_iff.1 (plO_iff.1 f).1;exact plOk_iff.2 ⟨⟨a,d,i⟩,fun c g=>e c ((zmd l c).2 g)⟩
  ·cases h
theorem zq2{t e:Int}{l:List zab}{b:List Nat}(h:zez t e l=some b):zjk t l=true:=by
 unfold zez at h;split at h
 ·exact(plO_iff.1 h).1
 ·split at h
  ·exact qgq h
  ·split at h
   ·assumption
   ·cases h
structure IsVal(t e:Int)(b:List Nat)(n:Int)(o:Option (List zab)):Prop where
 sound:∀l,o=some l->(l.length:Int)=n/\zez t e l=some b/\ ∀c∈l,zaj c
 compl:∀l,(∀c∈l,zaj c)->(l.length:Int)=n->zez t e l=some b->o=some l
theorem IsVal.uniq{t e:Int}{b:List Nat}{n:Int}{o p:Option (List zab)}(h:IsVal t e b n o)(k:IsVal t e b n p):o=p:=by
 cases o with
 |some l=>obtain⟨a,b,c⟩:=h.sound l rfl;exact(k.compl l c a b).symm
 |none=>
  cases p with
  |none=>rfl
  |some l=>obtain⟨a,b,c⟩:=k.sound l rfl;exact h.compl l c a b
theorem z0e{t:Int}{b:List Nat}{n:Int}{o:Option (List zab)}(h:IsPl zaj t b n o):IsVal t 0 b n o:=
 ⟨fun l e=>(by obtain⟨a,b,c⟩:=h.sound l e;exact⟨a,b,c⟩),fun l a b c=>h.compl l a b c⟩
theorem z5s{t:Int}{b:List Nat}{n:Int}{o:Option (List zab)}(h:IsDic t b n o):IsVal t 1 b n o:=
 ⟨fun l e=>(by obtain⟨a,b,c⟩:=h.sound l e;exact⟨a,b,c⟩),fun l a b c=>h.compl l a b c⟩
theorem qa2(m:List Nat):ze7 (m.map fun x=>zr4 (zag x))=m:=by
 unfold ze7;rw[qsj];conv=>rhs;rw[<-qua m]
 exact qsk fun x _=>zzn x
theorem zjp{l:List zab}(h:∀c∈l,zaj c):∀x∈ze7 l,x<=18446744073709551615:=fun x b=>by obtain⟨c,a,rfl⟩:=qqu.1 b;have:=zk4 (x:=c.2.1) (h c a).2;omega
def z2t(m:List Nat):List zab:=m.map fun x=>zr4 (zag x)
def qo5(t:Int)(o:Option (List Nat)):Option (List zab):=
 match o with
 |none=>none
 |some m=>if(z2t m).all (fun c=>zad c t false)=true then some (z2t m) else none
theorem z5t{t:Int}(y:t=0\/t=1){b:List Nat}{n:Int}{o:Option (List Nat)}(h:IsDec b n o):IsVal t 2 b n (qo5 t o):=by
 have k:∀l,zez t 2 l=if zjk t l=true then some (zlu (ze7 l)) else none:=fun l=>by unfold zez;simp
 constructor
 ·intro l a
  cases o with
  |none=>cases a
  |some m=>
   unfold qo5 z2t at a;dsimp only at a;split at a
   ·rename_i f
    injection a with a;obtain⟨p,q,r,s⟩:=(h m).1 rfl;rw[qs9] at f;subst a;refine⟨by simpa using p,?_,fun c g=>?_⟩
    ·rw[k,if_pos (plOk_iff.2 ⟨⟨by omega,by omega,by simpa using q⟩,f⟩),qa2,s]
    ·obtain⟨x,z,rfl⟩:=qqu.1 g
     have:=qio (n:=x) (by have:=r x z;omega);exact⟨⟨by simp[zr4],by simp[zr4]⟩,this⟩
   ·cases a
 ·intro l u w d
  rw[k] at d;split at d
  ·rename_i j
   injection d with d;obtain⟨⟨-,-,i⟩,f⟩:=plOk_iff.1 j;have e:=(h (ze7 l)).2 ⟨by unfold ze7;simpa using w,by unfold ze7;simpa using i,zjp u,d⟩;have v:(ze7 l).map (fun x=>zr4 (zag x))=l:=by
    unfold ze7;rw[qsj];conv=>rhs;rw[<-qua l]
    refine qsk fun c g=>?_
    simp only[Function.comp,zqg];exact(qa1 y (f c g)).symm
   rw[e];unfold qo5 z2t;dsimp only;rw[v,if_pos (qs9.2 f)]
  ·cases d
theorem z5u{b:List Nat}{n:Int}{o:Option (List Int)}(h:IsDel b n o):IsVal 0 3 b n (o.map fun l=>l.map zr4):=by
 have k:∀l,zez 0 3 l=if zjk 0 l=true then zql (zfx l) else none:=fun l=>by unfold zez;simp
 have s:∀m:List Int,zfx (m.map zr4)=m:=fun m=>by
  unfold zfx;rw[qsj];conv=>rhs;rw[<-qua m]
  exact qsk fun x _=>rfl
 constructor
 ·intro l f
  cases o with
  |none=>cases f
  |some m=>
   injection f with f;subst f;obtain⟨p,j,q⟩:=h.sound m rfl;refine⟨by simpa using p,?_,fun c a=>?_⟩
   ·rw[k,s,if_pos]
    ·exact j
    ·refine plOk_iff.2 ⟨⟨by omega,by omega,by have:=zj8 j;simpa using this⟩,fun c a=>?_⟩
     obtain⟨x,g,rfl⟩:=qqu.1 a;exact z5q
   ·obtain⟨x,g,rfl⟩:=qqu.1 a
    exact⟨⟨by simp[zr4],by simp[zr4]⟩,q x g⟩
 ·intro l r t d
  rw[k] at d;split at d
  ·rename_i i
   obtain⟨-,u⟩:=plOk_iff.1 i;have e:=h.compl (zfx l) (fun x g=>by obtain⟨c,a,rfl⟩:=qqu.1 g;exact(r c a).2) (by unfold zfx;simpa using t) d;rw[e];simp only[qtw,qqh];unfold zfx;rw[qsj];conv=>rhs;rw[<-qua l]
   refine qsk fun c a=>?_
   exact(qa1 (.inl rfl) (u c a)).symm
  ·cases d
theorem z5v{b:List Nat}{n:Int}(i:∀x∈b,x<256):IsVal 2 4 b n ((qf9 b n).map fun l=>l.map qlf):=by
 have k:∀l,zez 2 4 l=if zjk 2 l=true then zz6 (za4 l) else none:=fun l=>by unfold zez;simp
 have q:∀m:List (List Nat),za4 (m.map qlf)=m:=fun m=>by
  unfold za4;rw[qsj];conv=>rhs;rw[<-qua m]
  exact qsk fun x _=>rfl
 constructor
 ·intro l d
  cases e:qf9 b n with
  |none=>rw[e] at d;cases d
  |some m=>
   rw[e] at d;injection d with d;subst d;obtain⟨o,p⟩:=(zuy i).1 e;have a:=qnb (n:=n) i;rw[e] at a;simp only[qsi] at a;refine⟨by simpa using o,?_,fun c f=>?_⟩
   ·rw[k,q,if_pos]
    ·exact p
    ·refine plOk_iff.2 ⟨⟨by omega,by omega,by simpa using a.2.1⟩,fun c f=>?_⟩
     obtain⟨x,h,rfl⟩:=qqu.1 f;exact z5r (a.2.2 x h)
   ·obtain⟨x,h,rfl⟩:=qqu.1 f
    have:=a.2.2 x h;exact⟨⟨by simp only[qlf];omega,a.1 x h⟩,by simp[qlf]⟩
 ·intro l t r g
  rw[k] at g;split at g
  ·rename_i j
   obtain⟨-,s⟩:=plOk_iff.1 j;have e:=(zuy i).2 ⟨show((za4 l).length:Int)=n by unfold za4;simpa using r,g⟩;rw[e];simp only[qtw,qqh];unfold za4;rw[qsj];conv=>rhs;rw[<-qua l]
   refine qsk fun c f=>?_
   exact(qlg (s c f)).symm
  ·cases g
theorem qiv{l:List zab}(h:∀c∈l,zad c 3 false=true):(∀x∈zkx 0 (xsV l),zf9 x)/\ ∀y∈zkx 0 (ysV l),zf9 y:=by have a:=zu3 (l:=xsV l) (a:=0) (by omega) (fun x d=>by obtain⟨c,e,rfl⟩:=qqu.1 d;exact(zoh (h c e)).1);have b:=zu3 (l:=ysV l) (a:=0) (by omega) (fun x d=>by obtain⟨c,e,rfl⟩:=qqu.1 d;exact(zoh (h c e)).2);exact⟨fun x d=>by have:=a x d;unfold zf9;omega,fun x d=>by have:=b x d;unfold zf9;omega⟩
def qo6(S:St)(ox oy:Option (List Int)):Option (List zab):=
 match S,ox,oy with
 |some _,some X,some Y=>(zsd (0,0) (X.zip Y)).map fun P=>P.map cPt
 |_,_,_=>none
theorem qa3{b x y:List Nat}{n:Int}{sz:Nat}{S1 S2:St}{K L:Option (List Int)}(R:∀x∈b,x<256)(hb:b.length<=140737488355200)
 (k1:lenS (b.length:Int) (some b)=(sz,S1))(k2:zcv (sz:Int) S1=(x,S2))(s:S2.getD []=y)(H:IsDel x n K)(I:IsDel y n L):IsVal 3 3 b n (qo6 S2 K L):=by
 have G:∀l,zez 3 3 l=if zjk 3 l=true then encPts l else none:=fun l=>by unfold zez;simp
 constructor
 ·intro l i
  unfold qo6 at i;split at i
  ·rename_i r X Y
   cases e:zsd (0,0) (X.zip Y) with
   |none=>rw[e] at i;cases i
   |some P=>
    rw[e] at i;injection i with i;subst i;obtain⟨x1,M,x3⟩:=H.sound X rfl;obtain⟨y1,y2,y3⟩:=I.sound Y rfl;obtain⟨p1,U,V,W⟩:=zs9 X Y (0,0) P (by omega) e;have u:xsV (P.map cPt)=P.map (·.1):=by unfold xsV;rw[qsj];rfl
    have v:ysV (P.map cPt)=P.map (·.2):=by unfold ysV;rw[qsj];rfl
    have E:=zj8 M;have m:b=vp x.length++x++y:=by
     rcases zbx (b.length:Int) (some b) (qxp R) with q|⟨N,Z,j,q1,_,q⟩
     ·rw[q] at k1
      injection k1 with k1 f;subst k1 f;rw[zeh] at k2;injection k2 with _ k2;cases k2
     ·rw[q] at k1
      injection k1 with k1 f;subst k1 f;injection j with j;rcases zcl (N:Int) (some Z) with C|⟨l2,t,_,e5,C⟩
      ·rw[C] at k2
       injection k2 with _ k2;cases k2
      ·rw[C] at k2
       injection t with t;injection k2 with k2 d;injection d with d;subst t;rw[qrn] at k2 d;have B:x.length=N:=by rw[<-k2,qqx];omega
       simp only[qsi] at s;rw[j,B,<-s,<-d,<-k2];simp
    refine⟨by rw[qtl];omega,?_,fun c h=>?_⟩
    ·rw[G,if_pos]
     ·unfold encPts
      rw[u,v,U,V,M,y2];dsimp only;rw[m]
     ·refine plOk_iff.2 ⟨⟨by omega,by omega,by rw[qtl];omega⟩,fun c h=>?_⟩
      obtain⟨p,o,rfl⟩:=qqu.1 h;rw[qa0];exact W p o
    ·obtain⟨p,o,rfl⟩:=qqu.1 h
     exact⟨⟨by simp[cPt],by simp[cPt]⟩,by simp[cPt]⟩
  ·cases i
 ·intro l hd F g
  rw[G] at g;split at g
  ·rename_i z
   obtain⟨-,A⟩:=plOk_iff.1 z;obtain⟨J,T⟩:=qiv A;unfold encPts at g;split at g
   ·rename_i a c D h
    injection g with g;have S:=zis J D;have k:=congrArg List.length g;simp only[qrp] at k;have O:lenS (b.length:Int) (some b)=(a.length,some (a++c)):=by rw[<-g,qrc];refine zb9 _ _ ?_ (by simp only[qrp] at k⊢;omega);simp only[qrp];omega
    rw[O] at k1;injection k1 with k1 f;subst k1 f;rw[zea] at k2;injection k2 with k2 d;subst k2 d;simp only[qsi] at s;subst s;have u:=H.compl _ J (by rw[zhd];unfold xsV;simpa using F) D;have v:=I.compl _ T (by rw[zhd];unfold ysV;simpa using F) h;rw[u,v];unfold qo6;dsimp only;have w:=z2s (l.map fun c=>(c.2.2.2.1,c.2.2.2.2)) (0,0) (by decide) (fun p o=>by obtain⟨c,h,rfl⟩:=qqu.1 o;have:=zoh (A c h);exact inBox_iff.2 (by dsimp only;omega))
    rw[qsj,qsj] at w;have j:(l.map ((fun x:Int × Int=>x.1) ∘ fun c:zab=>(c.2.2.2.1,c.2.2.2.2)))=xsV l:=rfl;have Q:(l.map ((fun x:Int × Int=>x.2) ∘ fun c:zab=>(c.2.2.2.1,c.2.2.2.2)))=ysV l:=rfl;rw[j,Q] at w;rw[w];simp only[qtw,qqh];rw[qsj];conv=>rhs;rw[<-qua l]
    refine qsk fun c h=>?_
    exact(qnj (A c h)).symm
   ·cases g
  ·cases g
def zej(t:Int)(l:List zab):Nat->Int × Nat
 |0=>(-1,0)
 |k+1=>match(if fitsV t (k:Int)=true then zez t (k:Int) l else none) with
  |some b=>if(zej t l k).1<0\/b.length<(zej t l k).2 then((k:Int),b.length) else zej t l k
  |none=>zej t l k
def bestV(t:Int)(l:List zab):Int:=(zej t l 5).1
theorem zu4(t:Int)(l:List zab):∀k,(zej t l k).1= -1/\(zej t l k).2=0\/(0<=(zej t l k).1/\(zej t l k).1<(k:Int)/\fitsV t (zej t l k).1=true/\ ∃b,zez t (zej t l k).1 l=some b/\b.length=(zej t l k).2)
 |0=> .inl ⟨rfl,rfl⟩
 |k+1=>by
  have ih:(zej t l k).1= -1/\(zej t l k).2=0\/(0<=(zej t l k).1/\(zej t l k).1<((k+1:Nat):Int)/\fitsV t (zej t l k).1=true/\ ∃b,zez t (zej t l k).1 l=some b/\b.length=(zej t l k).2):=by
   rcases zu4 t l k with h|⟨c,f,d⟩
   ·exact .inl h
   ·exact .inr ⟨c,by omega,d⟩
  rw[zej];split
  ·rename_i b a
   split at a
   ·rename_i e
    split
    ·exact .inr ⟨by dsimp only;omega,by dsimp only;omega,e,b,a,rfl⟩
    ·exact ih
   ·cases a
  ·exact ih
theorem zkf(t:Int)(l:List zab){k:Nat}(h:0<=(zej t l k).1):0<=(zej t l (k+1)).1:=by
 rw[zej];split
 ·split
  ·dsimp only;omega
  ·exact h
 ·exact h
theorem zq3{t:Int}{l:List zab}(h:zjk t l=true):fitsV t (bestV t l)=true/\ ∃b,zez t (bestV t l) l=some b:=by
 obtain⟨⟨i,j,-⟩,-⟩:=plOk_iff.1 h;have a:0<=(zej t l 1).1:=by
  have g:zez t ((0:Nat):Int) l=some (plB t l):=by unfold zez;rw[if_pos (show((0:Nat):Int)=0 from rfl)];exact plO_iff.2 ⟨h,rfl⟩
  have f:fitsV t ((0:Nat):Int)=true:=by unfold fitsV;rw[decide_eq_true_eq];omega
  rw[zej,if_pos f,g];dsimp only;rw[if_pos (.inl (by rw[zej];omega))];exact qu2 _
 have c:=zkf t l (zkf t l (zkf t l (zkf t l a)));rcases zu4 t l 5 with h|⟨_,_,d,b,e,_⟩
 ·exact absurd c (by rw[h.1];omega)
 ·exact⟨d,b,e⟩
end Go.Proofs.Y
namespace Go.Hm
open Go Go.RowKit
theorem Own.str0{w:World}{base:Nat}{e:TypeId}{g n c i:Nat}{l:List (List Nat)}(h:Own w base e (.slice (some ⟨g,0,none⟩) n c) (zsm l))(hi:i<n):
 base<=g/\g<w.heap.size/\w.cell? ⟨g,i,none⟩=some (.string (zaf (l.getD i [])))/\w.frozen? ⟨g,i,none⟩=false/\
  ∀y:List Nat,Own (w.setCell ⟨g,i,none⟩ (.string (zaf y))) base e (.slice (some ⟨g,0,none⟩) n c) (zsm (l.set i y)):=by
 have m:=h.len;rw[zpt] at m;obtain⟨u,a,b,d,f,j,k⟩:=h.at0 hi;rw[z7r l i (by omega)] at a;injection a with a;subst a;refine⟨b,d,f,j,fun y=>?_⟩;have e:zsm (l.set i y)=(zsm l).set i (.string (zaf y)):=by simp[zsm]
 rw[e];exact k _
theorem qbz{P:List (List Nat)}{n k:Nat}(q:List Nat)(a:P.length=k)(b:k<n):(P++List.replicate (n-k) []).set k q=(P++[q])++List.replicate (n-(k+1)) []:=by rw[qsy _ _ (by omega),a,qsz,show n-k=(n-(k+1))+1 by omega,qs0,qs1,qrc];rfl
end Go.Hm
namespace Go.Proofs.Y
open Go.RowKit Go.Hm
def OptX(o:Option (List Nat))(w:World)(e:Ending)(w':World):Prop:=
 match o with
 |none=>(∃v,e= .returned (.tuple #[v,.bool false]))/\New w w'
 |some l=>∃A n c,e= .returned (.tuple #[.slice A n c,.bool true])/\Go.Hm.Own w' w.heap.size 5 (.slice A n c) (zar .u8 l)/\New w w'
theorem OptB.x{o:Option (List Nat)}{w w':World}{e:Ending}(h:OptB o w e w'):OptX o w e w':=by
 cases o with
 |none=>exact⟨⟨_,h.1⟩,h.2⟩
 |some l=>exact h
theorem OptX.later{o:Option (List Nat)}{w a w':World}{e:Ending}(h:OptX o a e w')(b:New w a):OptX o w e w':=by
 cases o with
 |none=>exact⟨h.1,qw5 b h.2⟩
 |some l=>
  obtain⟨A,n,c,d,f,g⟩:=h;exact⟨A,n,c,d,f.base_le b.size,qw5 b g⟩
theorem zkl{w:World}{t:Int}{A:Option Addr}{n c:Nat}{L:List zab}(h:Reads w w.heap.size 5 A n (recs zay L))(d:∀y∈L,zaj y)(f:n<=4611686018427387903):
 Calls Tryz.prog 176 #[.int .i64 t,.slice A n c] w (zap (.bool (zjk t L)) w):=by
 have P:=qwk (zmg (t:=t) (c:=c) h d f);have e:(plO t L).isSome=zjk t L:=by unfold plO;cases zjk t L<;> rfl
 rw[<-e];clear h d e;generalize plO t L=O at*;go_enter Tryz.func176,Tryz.ntmps176
 go_wp2_with fail
 refine P.out.mono ?_;intro e k b;cases O with
 |none=>
  obtain⟨rfl,a⟩:=b;go_wp2
  go_ret
  exact⟨rfl,a⟩
 |some l=>
  obtain⟨g,j,i,rfl,-,a⟩:=b;go_wp2
  go_ret
  exact⟨rfl,a⟩
theorem zsg{w:World}{t:Int}{A:Option Addr}{n c:Nat}{L:List zab}(h:Reads w w.heap.size 5 A n (recs zay L))(D:∀y∈L,zaj y)(hn:n<=4611686018):
 Calls Tryz.prog 157 #[.int .i64 t,.slice A n c] w (OptX (zez t 2 L) w):=by
 obtain rfl:=h.lenCell;have N:=qwk (zkl (t:=t) (c:=c) h D (by omega));have R:zez t 2 L=if zjk t L=true then some (zlu (ze7 L)) else none:=by unfold zez;simp
 have f:zjk t L=true->L.length<=65536:=fun e=>(plOk_iff.1 e).1.2.2
 obtain⟨X,I⟩:∃X,X=zez t 2 L:=⟨_,rfl⟩;rw[<-I];have C:=qwk (I.trans R);have HR:=qwk h;have HL:=qwk D;have HW:=qwk (zjp D);clear R I h D;generalize zjk t L=O at*;go_enter Tryz.func157,Tryz.ntmps157
 go_wp2_with fail
 refine N.out.mono ?_;rintro e l ⟨rfl,G⟩;clear N;cases O with
 |false=>
  have v:X=none:=by rw[C.out];rfl
  subst v;go_wp2
  go_ret2
  exact⟨⟨_,rfl⟩,G⟩
 |true=>
  have v:=C.out;rw[if_pos rfl] at v;replace C:=qwk v;clear v;have K:=f rfl;clear f
  go_wp2_with (refine zcf elW rfl (.tmp 14) (.tmp 14) rfl (W:=l) (B:=l.heap.size) L.length L.length rfl rfl rfl rfl (qq0 _) (qwd _ _) (qq0 _) rfl (by omega) (by simp only[maxLen];omega) ?_
               intro w1 S _ P s1)
  go_loopw [18] (fun i wr=>∃k:Nat,k<=L.length/\i= .int .i64 (k:Int)/\Go.Hm.Own wr l.heap.size 138 (.slice (some ⟨l.heap.size,0,none⟩) L.length L.length) (zar .u64 (ze7 (L.take k)++List.replicate (L.length-k) 0))/\New l wr) (fun i _=>L.length-(intOf i).toNat)
  case atStart=>exact⟨0,qq1 _,rfl,by simpa[ze7,zb5,zeu,zsm,zaf] using S,P⟩
  case round=>
   clear S P s1;obtain⟨k,hk,rfl,o,b⟩:=hrel;by_cases a:k<L.length
   ·obtain⟨ad,rfl,_,d0,d1,d2,d3,d4⟩:=(qxj HR.out (qw5 G b)).cell5 a
    have J:=HL.out _ (zdt (false,0,[],0,0) a);have d:ze7 (L.take (k+1))=ze7 (L.take k)++ze7 [L.getD k (false,0,[],0,0)]:=by rw[zac L k (false,0,[],0,0) a];simp[ze7]
    have u:(ze7 (L.take k)).length=k:=by unfold ze7;rw[qtl,qqx];omega
    have i1:(k:Int)<(L.length:Int):=by omega
    generalize L.getD k (false,0,[],0,0)=x at*;obtain⟨U,z,V,Y,Z⟩:=x;have d:ze7 (L.take (k+1))=ze7 (L.take k)++[zig z]:=d;dsimp only at d0 d1 d2 d3 d4;have H:New wr (wr.alloc (.cells #[.bool U,.int .i64 z,.string (zaf V),.int .i64 Y,.int .i64 Z] 75)):=(qwd _ _).alloc (qq0 _) _;have M:=qw1 wr 75 #[.bool U,.int .i64 z,.string (zaf V),.int .i64 Y,.int .i64 Z];have T:=o.later H;have s:=qw5 b H;obtain⟨p0,p1,p2,p3,p4⟩:=zc3 M;obtain⟨a0,a1,hc,hf,g⟩:=T.num0 (i:=k) a;have j:=g (zig z);rw[zx0 _ u a,<-d] at j;have m:=qwk j;have F:=qwk (fun q=>s.setCell (p:=⟨l.heap.size,k,none⟩) (qq0 _) q);generalize(ze7 (L.take k)++List.replicate (L.length-k) 0).getD k 0=q0 at*;have ZG:=qwk (fun W=>zqh z W J.2.1 J.2.2);clear d u g j o b H T s M J;go_wp2_with fail
    refine(ZG.out _).mono ?_;rintro e w5 ⟨rfl,rfl⟩;go_wp2_with fail
    go_roundw
    case rel=>exact⟨k+1,by omega,by go_num,m.out,F.out _⟩
    case measure=>simp[intOf];omega
   ·obtain rfl:k=L.length:=by omega
    have Q:ze7 (L.take L.length)=ze7 L:=by rw[quw]
    rw[Q,qsz,qup,qra] at o;clear Q a;have r:=qw5 G b;have E:=qwk (z97 (c:=L.length) o.reads (qq0 _) HW.out K);go_wp2_with fail
    refine E.out.mono ?_;rintro e w6 ⟨A6,n6,c6,rfl,o6,b6⟩;go_wp2_with fail
    go_ret2
    rw[C.out];exact⟨_,_,_,rfl,o6.base_le r.size,qw5 r b6⟩
theorem zsh{w:World}{A:Option Addr}{n c:Nat}{L:List zab}(h:Reads w w.heap.size 5 A n (recs zay L))(D:∀y∈L,zaj y)(hn:n<=4611686018):
 Calls Tryz.prog 159 #[.int .i64 0,.slice A n c] w (OptX (zez 0 3 L) w):=by
 obtain rfl:=h.lenCell;have P:=qwk (zkl (t:=0) (c:=c) h D (by omega));have T:zez 0 3 L=if zjk 0 L=true then zql (zfx L) else none:=by unfold zez;simp
 obtain⟨X,M⟩:∃X,X=zez 0 3 L:=⟨_,rfl⟩;rw[<-M];have C:=qwk (M.trans T);have HR:=qwk h;have HL:=qwk D;have HW:Hid (∀x∈zfx L,zf9 x):=qwk (fun x l=>by obtain⟨c,S,rfl⟩:=qqu.1 l;exact(D c S).2);clear T M h D;generalize zjk 0 L=O at*;go_enter Tryz.func159,Tryz.ntmps159
 go_wp2_with fail
 refine P.out.mono ?_;rintro e m ⟨rfl,H⟩;clear P;cases O with
 |false=>
  have l:X=none:=by rw[C.out];rfl
  subst l;go_wp2
  go_ret2
  exact⟨⟨_,rfl⟩,H⟩
 |true=>
  have l:=C.out;rw[if_pos rfl] at l;replace C:=qwk l;clear l
  go_wp2_with (refine zcf elI rfl (.tmp 20) (.tmp 20) rfl (W:=m) (B:=m.heap.size) L.length L.length rfl rfl rfl rfl (qq0 _) (qwd _ _) (qq0 _) rfl (by omega) (by simp only[maxLen];omega) ?_
               intro w1 U _ Q s1)
  go_loopw [24] (fun i wr=>∃k:Nat,k<=L.length/\i= .int .i64 (k:Int)/\Go.Hm.Own wr m.heap.size 3 (.slice (some ⟨m.heap.size,0,none⟩) L.length L.length) (za5 .i64 (zfx (L.take k)++List.replicate (L.length-k) 0))/\New m wr) (fun i _=>L.length-(intOf i).toNat)
  case atStart=>exact⟨0,qq1 _,rfl,by simpa[zfx,zb5,zeu,zsm,zaf] using U,Q⟩
  case round=>
   clear U Q s1;obtain⟨k,hk,rfl,o,b⟩:=hrel;by_cases a:k<L.length
   ·obtain⟨ad,rfl,_,d0,d1,d2,d3,d4⟩:=(qxj HR.out (qw5 H b)).cell5 a
    have hd:=HL.out _ (zdt (false,0,[],0,0) a);have f:zfx (L.take (k+1))=zfx (L.take k)++zfx [L.getD k (false,0,[],0,0)]:=by rw[zac L k (false,0,[],0,0) a];simp[zfx]
    have z:(zfx (L.take k)).length=k:=by unfold zfx;rw[qtl,qqx];omega
    have i1:(k:Int)<(L.length:Int):=by omega
    generalize L.getD k (false,0,[],0,0)=x at*;obtain⟨Y,F,Z,xx,xy⟩:=x;have f:zfx (L.take (k+1))=zfx (L.take k)++[F]:=f;dsimp only at d0 d1 d2 d3 d4;have J:New wr (wr.alloc (.cells #[.bool Y,.int .i64 F,.string (zaf Z),.int .i64 xx,.int .i64 xy] 75)):=(qwd _ _).alloc (qq0 _) _;have N:=qw1 wr 75 #[.bool Y,.int .i64 F,.string (zaf Z),.int .i64 xx,.int .i64 xy];have V:=o.later J;have s:=qw5 b J;obtain⟨p0,p1,p2,p3,p4⟩:=zc3 N;obtain⟨a0,a1,S,hf,g⟩:=V.int0 (i:=k) a;have j:=g (F);rw[zm3 _ z a,<-f] at j;have r:=qwk j;have G:=qwk (fun q=>s.setCell (p:=⟨m.heap.size,k,none⟩) (qq0 _) q);generalize(zfx (L.take k)++List.replicate (L.length-k) 0).getD k 0=q0 at*;clear f z g j o b J V s N hd;go_wp2_with fail
    go_roundw
    case rel=>exact⟨k+1,by omega,by go_num,r.out,G.out _⟩
    case measure=>simp[intOf];omega
   ·obtain rfl:k=L.length:=by omega
    have R:zfx (L.take L.length)=zfx L:=by rw[quw]
    rw[R,qsz,qup,qra] at o;clear R a;have I:=qw5 H b;have E:=qwk (zjw (c:=L.length) o.reads HW.out (by omega));go_wp2_with fail
    refine E.out.mono ?_;intro e w6 u;have u:=OptX.later (OptB.x u) I;rw[<-C.out] at u;cases X with
    |none=>
     obtain⟨⟨v,rfl⟩,K⟩:=u;go_wp2_with fail
     go_ret2
     exact⟨⟨_,rfl⟩,K⟩
    |some d=>
     obtain⟨A6,n6,c6,rfl,o6,K⟩:=u;go_wp2_with fail
     go_ret2
     exact⟨_,_,_,rfl,o6,K⟩
theorem zrk{w:World}{t:Int}{A:Option Addr}{n c:Nat}{L:List zab}(h:Reads w w.heap.size 5 A n (recs zay L))(z:∀y∈L,zaj y)(hn:n<=4611686018):
 Calls Tryz.prog 161 #[.int .i64 t,.slice A n c] w (OptX (zez t 4 L) w):=by
 obtain rfl:=h.lenCell;have S:=qwk (fun(W:World) (hW:New w W)=>zkl (t:=t) (c:=c) (qxj h hW) z (by omega));have Z:zez t 4 L=if zjk t L=true then zz6 (za4 L) else none:=by unfold zez;simp
 obtain⟨X,K⟩:∃X,X=zez t 4 L:=⟨_,rfl⟩;rw[<-K];have H:=qwk (K.trans Z);have HR:=qwk h;have HL:=qwk z;have R:Hid (∀s∈za4 L,(∀x∈s,x<256)/\s.length<=140737488351232):=qwk (fun x r=>by obtain⟨c,M,rfl⟩:=qqu.1 r;exact⟨(z c M).1.2,(z c M).1.1⟩);clear Z K h z;generalize zjk t L=O at*;have T:New w w:=qw4 w;go_enter Tryz.func161,Tryz.ntmps161
 go_wp2_with (refine zcf elS rfl (.tmp 12) (.tmp 12) rfl (W:=w) (B:=w.heap.size) L.length L.length rfl rfl rfl rfl (qq0 _) (qwd _ _) (qq0 _) rfl (by omega) (by simp only[maxLen];omega) ?_
              intro w1 o1 _ U s1)
 go_loopw [16] (fun i wr=>∃k:Nat,k<=L.length/\i= .int .i64 (k:Int)/\Go.Hm.Own wr w.heap.size 9 (.slice (some ⟨w.heap.size,0,none⟩) L.length L.length) (zsm (za4 (L.take k)++List.replicate (L.length-k) []))/\New w wr) (fun i _=>L.length-(intOf i).toNat)
 case atStart=>exact⟨0,qq1 _,rfl,by simpa[za4,zb5,zeu,zsm,zaf] using o1,U⟩
 case round=>
  clear o1 U s1;obtain⟨k,hk,rfl,o,b⟩:=hrel;by_cases a:k<L.length
  ·obtain⟨ad,rfl,_,d0,d1,d2,d3,d4⟩:=(qxj HR.out (qw5 T b)).cell5 a
   have hd:=HL.out _ (zdt (false,0,[],0,0) a);have f:za4 (L.take (k+1))=za4 (L.take k)++za4 [L.getD k (false,0,[],0,0)]:=by rw[zac L k (false,0,[],0,0) a];simp[za4]
   have C:(za4 (L.take k)).length=k:=by unfold za4;rw[qtl,qqx];omega
   have i1:(k:Int)<(L.length:Int):=by omega
   generalize L.getD k (false,0,[],0,0)=x at*;obtain⟨xb,xn,F,xx,xy⟩:=x;have f:za4 (L.take (k+1))=za4 (L.take k)++[F]:=f;dsimp only at d0 d1 d2 d3 d4;have I:New wr (wr.alloc (.cells #[.bool xb,.int .i64 xn,.string (zaf F),.int .i64 xx,.int .i64 xy] 75)):=(qwd _ _).alloc (qq0 _) _;have Q:=qw1 wr 75 #[.bool xb,.int .i64 xn,.string (zaf F),.int .i64 xx,.int .i64 xy];have o2:=o.later I;have v:=qw5 b I;obtain⟨p0,p1,p2,p3,p4⟩:=zc3 Q;obtain⟨a0,a1,M,hf,g⟩:=o2.str0 (i:=k) a;have m:=g (F);rw[qbz _ C a,<-f] at m;have u:=qwk m;have G:=qwk (fun q=>v.setCell (p:=⟨w.heap.size,k,none⟩) (qq0 _) q);generalize(za4 (L.take k)++List.replicate (L.length-k) []).getD k []=q0 at*;clear f C g m o b I o2 v Q hd;go_wp2_with fail
   go_roundw
   case rel=>exact⟨k+1,by omega,by go_num,u.out,G.out _⟩
   case measure=>simp[intOf];omega
  ·obtain rfl:k=L.length:=by omega
   have Y:za4 (L.take L.length)=za4 L:=by rw[quw]
   rw[Y,qsz,qup,qra] at o;clear Y a;have j:=qw5 T b;have E:=qwk (qhd (c:=L.length) o.reads (fun s N=>(R.out s N).1) (fun s N=>(R.out s N).2) (by omega));go_wp2_with fail
   refine E.out.mono ?_;intro e w6 V;generalize zz6 (za4 L)=E6 at*;cases E6 with
   |none=>
    have r:X=none:=by rw[H.out];cases O<;> rfl
    subst r;obtain⟨rfl,D⟩:=V;go_wp2_with fail
    go_ret2
    exact⟨⟨_,rfl⟩,qw5 j D⟩
   |some d=>
    obtain⟨A6,n6,c6,rfl,P,D⟩:=V;have l:=qw5 j D;have RW:=qwk (S.out _ l);have P:=P.base_le (b':=w.heap.size) j.size;clear D E S;go_wp2_with fail
    refine RW.out.mono ?_;rintro e w7 ⟨rfl,J⟩;have o7:=P.later J;cases O with
    |false=>
     have r:X=none:=by rw[H.out];rfl
     subst r;go_wp2_with fail
     go_ret2
     exact⟨⟨_,rfl⟩,qw5 l J⟩
    |true=>
     have r:X=some d:=by rw[H.out];rfl
     subst r;go_wp2_with fail
     go_ret2
     exact⟨_,_,_,rfl,o7,qw5 l J⟩
end Go.Proofs.Y
