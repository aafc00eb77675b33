import Derived.Test.YtbahbnbpmfgimaaGreatDoorBun48
set_option maxHeartbeats 1000000
set_option maxRecDepth 100000
namespace Go.Proofs.Y
open Go Go.RowKit Go.Hm
def zox(C:List (List (List (List Nat))))(k j q:Nat):List (List Nat):=(C.take k).flatten.flatten++(((C.getD k []).take j).flatten++((C.getD k []).getD j []).take q)
section
variable{C:List (List (List (List Nat)))}{k j q:Nat}
theorem z69(c:k<C.length)(a:j<(C.getD k []).length):∃R,C.flatten.flatten=zox C k j q++R:=by
 have d:C=C.take k++(C.getD k []::C.drop (k+1)):=by
  conv=>lhs;rw[<-qtq k C]
  congr 1
  rw[qsh,qqt c];exact qrb c
 have e:C.getD k []=(C.getD k []).take j++((C.getD k []).getD j []::(C.getD k []).drop (j+1)):=by
  conv=>lhs;rw[<-qtq j (C.getD k [])]
  congr 1
  rw[qsh (l:=C.getD k []),qqt a];exact qrb a
 unfold zox;generalize C.getD k []=X at*;generalize X.getD j []=Y at*;refine⟨Y.drop q++(X.drop (j+1)).flatten++(C.drop (k+1)).flatten.flatten,?_⟩;conv=>lhs;rw[d,e]
 simp only[qul,qvg,qrc];rw[<-qrc (Y.take q) (Y.drop q),qtq]
theorem z7a(c:k<C.length)(a:j<(C.getD k []).length):(zox C k j q).flatten.length<=C.flatten.flatten.flatten.length:=by obtain⟨R,e⟩:=z69 (q:=q) c a;rw[e,qul,qrp];omega
end
theorem zyn{L:List za2}{r:Int}{D:List zdw}{gr pr:Int}{E:List Int}(h:(zee L r D gr pr E).1=0):ze1 L r D=0/\zdg gr pr E L=0:=by
 unfold zee at h;by_cases a:ze1 L r D=0
 ·rw[if_neg (by rw[a];simp)] at h
  by_cases c:zdg gr pr E L=0
  ·exact⟨a,c⟩
  ·rw[if_pos c] at h;exact absurd h c
 ·rw[if_pos a] at h;exact absurd h a
structure Filed(L:List za2)(r:Int)(b:List Nat)(F:FootS)(C:List (List (List (List Nat))))(own:List Nat):Prop where
 foot:zbs F
 data:zfg F
 cols:F.cols=L
 rows:F.rows=r
 opened:openO b=some (F,own)
 pages:ze9 F.groups (b.drop 4)=C
 whole:b=zfz C.flatten.flatten.flatten own
 own_:own=zek F
 few:own.length<=1073741824
 bytes:∀x∈b,x<256
 short:b.length<=2147483660
 size:szG F.groups+own.length+12=b.length
theorem qn6{L:List za2}{r:Int}{DD:List zdw}{gr pr:Int}{E:List Int}{b:List Nat}(h:WrOk L r (DD.map (·.2.2)) gr pr)(a:zee L r DD gr pr E=(0,b)):
 Filed L r b (zb7 L r E (DD.map (·.2.2)) gr pr) (zhm L E (DD.map (·.2.2)) pr (zbl 0 r gr)) (zek (zb7 L r E (DD.map (·.2.2)) gr pr))/\ ∀s∈zbl 0 r gr,∀c,c<L.length-> ∀q∈zbl s.1 s.2 pr,(zg1 L E (DD.map (·.2.2)) c q).1=0:=by
 obtain⟨f,g⟩:=zyn (L:=L) (r:=r) (D:=DD) (gr:=gr) (pr:=pr) (E:=E) (by rw[a]);obtain⟨l,m,n,o,d,p,i,e,t⟩:=zn5 h a f g;exact⟨⟨l,m,rfl,rfl,d,p,n,rfl,o,e,t,(zga e (by omega) d).2.2.2.2.1⟩,i⟩
structure PageAt(b:List Nat)(F:FootS)(C:List (List (List (List Nat)))):Prop where
 groups:C.length=F.groups.length
 chunks:∀k,k<F.groups.length->(C.getD k []).length=F.cols.length/\(F.groups.getD k zao).2.length=F.cols.length
 pages:∀k j,k<F.groups.length->j<F.cols.length->((C.getD k []).getD j []).length=(zax F.groups k j).length
 page:∀k j q,k<F.groups.length->j<F.cols.length->q<(zax F.groups k j).length->
  zym b F (k:Int) (j:Int) (q:Int)=some (((C.getD k []).getD j []).getD q [])/\((((C.getD k []).getD j []).getD q []).length:Int)=((zax F.groups k j).getD q zby).1
 few:C.flatten.flatten.length<=4194304
 bytes:C.flatten.flatten.flatten.length<=2147483660
theorem Filed.at_{L:List za2}{r:Int}{b:List Nat}{F:FootS}{C:List (List (List (List Nat)))}{g:List Nat}(h:Filed L r b F C g):PageAt b F C:=by
 have m:4+szG F.groups<=b.length:=by have:=h.size;omega
 have d:=h.pages;refine⟨by rw[<-d,zki],fun k a=>⟨?_,(zc5 h.foot a).2.1⟩,fun k j a e=>?_,fun k j q a e f=>?_,?_,?_⟩
 ·rw[<-d,zjr _ _ k a,zmt]
  exact(zc5 h.foot a).2.1
 ·have c:j<(F.groups.getD k zao).2.length:=by rw[(zc5 h.foot a).2.1];exact e
  rw[<-d,zjr _ _ k a,Go.Hm.cutC_at _ _ j c,zkh];rfl
 ·have c:j<(F.groups.getD k zao).2.length:=by rw[(zc5 h.foot a).2.1];exact e
  rw[<-d];refine⟨z3p h.foot (by omega) a e f,?_⟩;obtain⟨n,o,i⟩:=zxz m a c f;have p:=zmw h.foot _ (zah zao a) _ (zah [] c) _ (show(zax F.groups k j).getD q zby∈zax F.groups k j from zah zby f);rw[i,qqx,qqw];omega
 ·have:=z61 h.foot b
  unfold zyh at this;rwa[d] at this
 ·have l:=congrArg List.length h.whole
  rw[zgx] at l;have:=h.short;omega
structure PageBy(b:List Nat)(L:List za2)(r:Int)(Gs:List GrD)(C:List (List (List (List Nat)))):Prop where
 groups:C.length=Gs.length
 chunks:∀k,k<Gs.length->(C.getD k []).length=L.length/\(Gs.getD k grZ).2.2.2.length=L.length
 pages:∀k j,k<Gs.length->j<L.length->((C.getD k []).getD j []).length=((Gs.getD k grZ).2.2.2.getD j chZ).2.2.length
 page:∀k j q,k<Gs.length->j<L.length->q<((Gs.getD k grZ).2.2.2.getD j chZ).2.2.length->
  zym b (zb0 L r Gs) (k:Int) (j:Int) (q:Int)=some (((C.getD k []).getD j []).getD q [])/\((((C.getD k []).getD j []).getD q []).length:Int)=(((Gs.getD k grZ).2.2.2.getD j chZ).2.2.getD q zby).1
 few:C.flatten.flatten.length<=4194304
 bytes:C.flatten.flatten.flatten.length<=2147483660
theorem PageAt.by_{b:List Nat}{L:List za2}{r:Int}{c:List GrD}{C:List (List (List (List Nat)))}(h:PageAt b (zb0 L r c) C):PageBy b L r c C:=by
 obtain⟨l,g,m,n,o,p⟩:=h;unfold zb0 at l g m;dsimp only at l g m;simp only[qtl] at l g m;have i:∀k,k<c.length->(c.getD k grZ).2.2.2.length=L.length:=fun k a=>by have:=(g k a).2;rw[zbm grP c grZ zao a] at this;unfold grP at this;simpa using this
 have f:∀k j,k<c.length->j<L.length->zax (c.map grP) k j=((c.getD k grZ).2.2.2.getD j chZ).2.2:=fun k j a d=>by unfold zax;rw[zbm grP c grZ zao a];unfold grP;dsimp only;rw[zbm (fun x:ChD=>x.2.2) _ chZ [] (by rw[i k a];exact d)]
 refine⟨l,fun k a=>⟨(g k a).1,i k a⟩,fun k j a d=>by rw[m k j a d,f k j a d],fun k j q a d s=>?_,o,p⟩;have:=n k j q (by unfold zb0;simpa using a) d (by unfold zb0;dsimp only;rw[f k j a d];exact s);have e:zax (zb0 L r c).groups k j=((c.getD k grZ).2.2.2.getD j chZ).2.2:=f k j a d;rw[e] at this;exact this
structure PgSt(C:List (List (List (List Nat))))(k j q B:Nat)(S:List Nat)(A:Option Addr)(c:Nat)(X:List zju)(w:World):Prop where
 str:S=headL_film++(zox C k j q).flatten
 row:Go.Hm.Own w B 24 (.slice A X.length c) (recs zjb X)
 pages:∀d∈X,TR w 5 d.1 d.2.2.length (zar .u8 d.2.2)
 map:X.map byP=zox C k j q
theorem PgSt.later{C:List (List (List (List Nat)))}{k j q B:Nat}{S:List Nat}{A:Option Addr}{c:Nat}{X:List zju}{w w':World}(h:PgSt C k j q B S A c X w)(a:New w w'):PgSt C k j q B S A c X w':=
 ⟨h.str,h.row.later a,fun d e=>(h.pages d e).below a,h.map⟩
theorem PgSt.turn{C:List (List (List (List Nat)))}{k j q d a f B:Nat}{S:List Nat}{A:Option Addr}{c:Nat}{X:List zju}{w:World}(h:PgSt C k j q B S A c X w)(e:zox C k j q=zox C d a f):PgSt C d a f B S A c X w:=
 ⟨by rw[<-e];exact h.str,h.row,h.pages,by rw[<-e];exact h.map⟩
theorem PgSt.size{C:List (List (List (List Nat)))}{k j q B:Nat}{S:List Nat}{A:Option Addr}{c:Nat}{X:List zju}{w:World}(h:PgSt C k j q B S A c X w)(d:k<C.length)(a:j<(C.getD k []).length):(zaf S).size<=4+C.flatten.flatten.flatten.length:=by have e:=z7a (q:=q) d a;rw[zbq,h.str,qrp];have:headL_film.length=4:=rfl;omega
theorem PgSt.len{C:List (List (List (List Nat)))}{k j q B:Nat}{S:List Nat}{A:Option Addr}{c:Nat}{X:List zju}{w:World}(h:PgSt C k j q B S A c X w):X.length=(zox C k j q).length:=by rw[<-h.map,qtl]
open Go Go.RowKit Go.Hm
theorem qly{nu:Bool}(c:zab)(h:zad c 0 nu=true):(pgE 0 nu 0 [c]).1=0/\(pgE 0 nu 0 [c]).2.length<=20:=by
 have d:∀y∈zcc [c],zad y 0 false=true:=ztc (nu:=nu) (fun y a=>by simp at a;subst a;exact h);have b:zjk 0 (zcc [c])=true:=plOk_iff.2 ⟨⟨by omega,by omega,by have:=zph [c];simp at this;omega⟩,d⟩;have f:zez 0 0 (zcc [c])=some (plB 0 (zcc [c])):=by unfold zez;rw[if_pos rfl];unfold plO;rw[if_pos b]
 have g:(plB 0 (zcc [c])).length<=8:=by unfold plB;rw[if_neg (by omega)];unfold zcc;cases h0:c.1<;> simp[List.filter,h0,plE,za0]
 have e:encOf 0 0 [c]=0:=by unfold encOf;rw[if_neg (by omega)]
 unfold pgE;rw[if_neg (by simp[fitsV]),if_neg (by simp),if_pos (by simpa using h),e,f];refine⟨rfl,?_⟩;have i:(zcb [c]).length<=1:=by unfold zcb;rw[za0,zff];simp
 cases nu<;> simp[zgj]<;> omega
def s1L:List za2:=[([97],0,false)]
def s1D:List (List zab):=[[zr4 5]]
theorem qlz:zq6 s1L:=(zdv s1L).1 (by decide)
theorem zt0:zbl 0 1 1=[(0,1)]:=by decide
theorem qn7{a:List zdw}(h:a.map (·.2.2)=s1D):ze1 s1L 1 a=0:=by
 match a,h with
 | [(A1,c1,l1)],h=>
   simp only[qrj,qrk,s1D,qqe,and_true] at h;obtain rfl:=h;have b:zcz s1L=0:=by decide
   have c:zdi s1L.length 1 [(A1,c1,[zr4 5])]=0:=rfl;have d:zi1 [(A1,c1,[zr4 5])] s1L=true:=rfl;unfold ze1;rw[b,c,d];rfl
theorem ql0:zdg 1 1 [0] s1L=0:=by decide
theorem qn8:WrOk s1L 1 s1D 1 1:=by refine⟨qlz,by decide,rfl,by decide,by decide,?_,by decide⟩;intro l b c a;simp only[s1D,qsm,qur,or_false] at b;subst b;simp only[qsm,qur,or_false] at a;subst a;unfold zaj;simp[zr4]
theorem s1_page:(zg1 s1L [0] s1D 0 (0,1)).1=0/\(zg1 s1L [0] s1D 0 (0,1)).2.length<=20:=qly (nu:=false) (zr4 5) (by decide)
theorem qn9{s q:Int × Int}{c:Nat}(b:s∈zbl 0 1 1)(d:c<s1L.length)(a:q∈zbl s.1 s.2 1):c=0/\q=(0,1):=by rw[zt0] at b;obtain rfl:=qr6.1 b;dsimp only at a;rw[zt0] at a;obtain rfl:=qr6.1 a;have:s1L.length=1:=rfl;exact⟨by omega,rfl⟩
theorem z3q:zhm s1L [0] s1D 1 (zbl 0 1 1)=[[[pgF s1L [0] s1D 0 (0,1)]]]:=by have a:List.range s1L.length=[0]:=rfl;simp only[zhm,zkr,a,zt0,qrj,qrk]
theorem qcz:(zek (zb7 s1L 1 [0] s1D 1 1)).length<=500000:=by
 have h:=qcx (F:=zb7 s1L 1 [0] s1D 1 1) (K:=140020) (m:=1) (n:=1) (fun t g a l d p i=>?_) ?_ ?_ (by decide) (by decide)
 ·have k:(putC [] (zb7 s1L 1 [0] s1D 1 1).cols).length<=20:=by
   show(putC [] s1L).length<=20;rw[putC,if_pos (by decide)];simp[s1L,zlv,z50,zgj]
  have f:(zb7 s1L 1 [0] s1D 1 1).groups.length=1:=by show((zbl 0 1 1).map _).length=1;rw[zt0];rfl
  rw[f] at h;omega
 ·obtain⟨s,b,rfl⟩:=qqu.1 a
  obtain⟨c,e,rfl⟩:=qqu.1 d;obtain⟨q,j,rfl⟩:=qqu.1 i;obtain⟨rfl,rfl⟩:=qn9 b (qtn.1 e) j;have:=s1_page.2;refine zx6 ?_ ?_
  ·unfold zcw
   dsimp only;omega
  ·unfold zcw
   dsimp only;simp[zak,s1D]
 ·intro g a
  obtain⟨s,b,rfl⟩:=qqu.1 a;unfold zdb;dsimp only;rw[qtl,qtm];exact qq0 _
 ·intro g a l d
  obtain⟨s,b,rfl⟩:=qqu.1 a;obtain⟨c,e,rfl⟩:=qqu.1 d;rw[zt0] at b;obtain rfl:=qr6.1 b;rw[qtl];show(zbl 0 1 1).length<=1;rw[zt0];exact qq0 _
theorem qhy{a:List zdw}(h:a.map (·.2.2)=s1D):∃b F own p,zee s1L 1 a 1 1 [0]=(0,b)/\Filed s1L 1 b F [[[p]]] own/\p.length<=20/\own.length<=500000:=by
 have g:∃b,zee s1L 1 a 1 1 [0]=(0,b):=by
  refine qhu (by rw[h];exact qn8) (qn7 h) ql0 ?_ ?_ ?_ ?_
  ·rw[h];decide
  ·rw[h]
   intro s j c f q i;obtain⟨rfl,rfl⟩:=qn9 j f i;exact⟨s1_page.1,by have:=s1_page.2;omega⟩
  ·rw[h,z3q]
   have:=s1_page.2;unfold pgF;simp;omega
  ·rw[h]
   exact qqs qcz (by decide)
 obtain⟨b,d⟩:=g;have e:=(qn6 (by rw[h];exact qn8) d).1;rw[h,z3q] at e;exact⟨b,_,_,_,d,e,s1_page.2,qcz⟩
open Go Go.RowKit Go.Hm
def emB:List Nat:=[72,89,80,79,0,0,0,3,0,0,0,79,80,89,72]
theorem qpn:zfg fz:=⟨by simp[fz],by simp[fz]⟩
theorem ql4:openO emB=some (fz,[0,0,0]):=by have h:=ztp (F:=fz) (body:=[]) qnz qpn (by simp[fz,szG]) (by rw[zpm];decide) (by rw[zpm];decide);rw[zpm] at h;exact h
theorem qc9(s d:List Nat):lvD s [d]=[zca s (leafP 0 1 d)]:=rfl
theorem z08(s d:List Nat):ovD s [d]=zca s (leafP 0 1 d):=by unfold ovD;rw[qc9,zgo]
theorem z09{s:List Nat}(d:List Nat)(a:1<=s.length/\s.length<=255):ovF s [d]=[zb2 s (leafP 0 1 d)]:=by unfold ovF;rw[qc9,zgo];have e:za9 s (leafP 0 1 d)=some (zb2 s (leafP 0 1 d)):=if_pos ⟨a.1,a.2,by rw[zdd];simp⟩;unfold lvF;show([0].flatMap fun(k:Nat)=>(za9 s (leafP (k:Int) 1 ([d].getD k []))).toList)++[]=_;simp only[qt6,qut,qra];show(za9 s (leafP 0 1 d)).toList=_;rw[e];rfl
def dg1(p:List Nat):List Nat:=zca zcp (leafP 0 1 p)
def dg2(p:List Nat):List Nat:=zca zfk (leafP 0 1 (dg1 p))
def dg3(p:List Nat):List Nat:=zca ze4 (leafP 0 1 (dg2 p))
theorem zlr(p:List Nat):zna (dg1 p):=zcg _ _
theorem zls(p:List Nat):zna (dg2 p):=zcg _ _
theorem z1a(p:List Nat):zna (dg3 p):=zcg _ _
theorem qoc(p:List Nat):zwg [[[p]]]=dg3 p:=by unfold zwg znj;simp only[qrj,qrk];rw[z08,z08,z08];rfl
theorem qda(p:List Nat):(z1u [[[p]]]).length=3:=by unfold z1u zqb;simp only[qrj,qrk,qt6,qut,qra];rw[z09 _ ⟨by decide,by decide⟩,z09 _ ⟨by decide,by decide⟩,z09 _ ⟨by decide,by decide⟩];rfl
theorem ql5{L:List za2}{r:Int}{b:List Nat}{F:FootS}{p a:List Nat}(h:Filed L r b F [[[p]]] a):zrh F.groups b a=z4o a (dg3 p)/\(zo1 F.groups b a).length=4:=by unfold zrh zo1;rw[h.pages,qoc];refine⟨rfl,?_⟩;rw[qrp,qda];rfl
theorem ql6:zrh fz.groups emB [0,0,0]=zca zfp [[0,0,0],zca zbz []]/\(zo1 fz.groups emB [0,0,0]).length<=2:=by have e:ze9 fz.groups (emB.drop 4)=[]:=rfl;unfold zrh zo1;rw[e];unfold zwg z1u ovD ovF;have a:lvD ze4 (([]:List (List (List (List Nat)))).map znj)=[]:=rfl;rw[a,zjf];exact⟨rfl,by simp[zqc,lvF]⟩
theorem ql7:openO []=none:=by unfold openO zq5;rw[if_pos (.inl (by simp))]
theorem qod:zse emB/\zyx emB=0/\zvw emB=zca zfp [[0,0,0],zca zbz []]/\(zpp emB).length<=2:=by obtain⟨a,b,c⟩:=qc6 ql4;obtain⟨d,e⟩:=ql6;exact⟨zln (by decide) (by decide),a,by rw[b,d],by rw[c];exact e⟩
theorem qoe:zse []/\zyx []=2/\zvw []=List.replicate 32 0/\zpp []=[]:=by obtain⟨a,b,c⟩:=z3v ql7;exact⟨zln (by simp) (by simp),b,a,c⟩
theorem qof{L:List za2}{r:Int}{b:List Nat}{F:FootS}{p a:List Nat}(h:Filed L r b F [[[p]]] a)(k:p.length<=20)(j:a.length<=500000):zse b/\zyx b=0/\zvw b=z4o a (dg3 p)/\(zpp b).length=4:=by
 obtain⟨c,d,e⟩:=qc6 h.opened;obtain⟨g,i⟩:=ql5 h;have f:b.length<=1000000:=by rw[h.whole,zgx];simp;omega
 exact⟨zln h.bytes f,c,by rw[d,g],by rw[e];exact i⟩
theorem qh6{b:List Nat}{F:FootS}{p d:List Nat}(h:Filed s1L 1 b F [[[p]]] d):zym b F 0 0 0=some p:=by
 have i:F.groups.length=1:=by have:=zki F.groups (b.drop 4);rw[h.pages] at this;exact this.symm
 have a:=zjt F.groups (b.drop 4);rw[h.pages] at a;have m:(zax F.groups 0 0).length=1:=by
  obtain⟨g,f⟩:=List.length_eq_one_iff.1 i;unfold zax;rw[f] at a⊢;simp only[qrj,qrk,qqe,and_true] at a;have c:g.2.length=1:=by have:=congrArg List.length a;simpa using this.symm
  obtain⟨l,e⟩:=List.length_eq_one_iff.1 c;rw[e] at a;simp only[qrj,qrk,qqe,and_true] at a;show((g.2).getD 0 []).length=1;rw[e];exact a.symm
 have:=z3p (b:=b) h.foot (by have:=h.size;omega) (k:=0) (j:=0) (q:=0) (by omega) (by rw[h.cols];decide) (by omega);rw[h.pages] at this;exact this
def qd1(n:Nat):List zdw:=[(some ⟨n+1,0,none⟩,1,[zr4 5])]
theorem ql8(n:Nat):(qd1 n).map (·.2.2)=s1D:=rfl
theorem qh7(W:World):TabIn W none 0 [] none []:=⟨qwy,by simp,by simp,by simp,qwy,by simp,by intro d a;cases a⟩
theorem ql9(n:Nat):∀d∈qd1 n,∀y∈d.2.2,CellFine y:=by intro d a y b;simp only[qd1,qsm,qur,or_false] at a;subst a;simp only[qsm,qur,or_false] at b;subst b;unfold CellFine;simp[zr4]
theorem qpo(w:World):TabIn ((((w.alloc (.cells #[.string ⟨#[97]⟩,.int .i64 0,.bool false] 71)).alloc (.cells #[.bool false,.int .i64 5,.string ⟨#[]⟩,.int .i64 0,.int .i64 0] 75)).alloc (.cells #[.slice (some ⟨w.heap.size+1,0,none⟩) 1 1] 76)).alloc (.cells #[.slice (some ⟨w.heap.size,0,none⟩) 1 1,.int .i64 1,.slice (some ⟨w.heap.size+1+1,0,none⟩) 1 1] 56)) (some ⟨w.heap.size,0,none⟩) 1 s1L (some ⟨w.heap.size+1+1,0,none⟩) (qd1 w.heap.size)/\New w ((((w.alloc (.cells #[.string ⟨#[97]⟩,.int .i64 0,.bool false] 71)).alloc (.cells #[.bool false,.int .i64 5,.string ⟨#[]⟩,.int .i64 0,.int .i64 0] 75)).alloc (.cells #[.slice (some ⟨w.heap.size+1,0,none⟩) 1 1] 76)).alloc (.cells #[.slice (some ⟨w.heap.size,0,none⟩) 1 1,.int .i64 1,.slice (some ⟨w.heap.size+1+1,0,none⟩) 1 1] 56))/\Blk ((((w.alloc (.cells #[.string ⟨#[97]⟩,.int .i64 0,.bool false] 71)).alloc (.cells #[.bool false,.int .i64 5,.string ⟨#[]⟩,.int .i64 0,.int .i64 0] 75)).alloc (.cells #[.slice (some ⟨w.heap.size+1,0,none⟩) 1 1] 76)).alloc (.cells #[.slice (some ⟨w.heap.size,0,none⟩) 1 1,.int .i64 1,.slice (some ⟨w.heap.size+1+1,0,none⟩) 1 1] 56)) (w.heap.size+1+1+1) 56 #[.slice (some ⟨w.heap.size,0,none⟩) 1 1,.int .i64 1,.slice (some ⟨w.heap.size+1+1,0,none⟩) 1 1]:=by
 obtain⟨a,g⟩:∃W,W=w.alloc (.cells #[.string ⟨#[97]⟩,.int .i64 0,.bool false] 71):=⟨_,rfl⟩;obtain⟨b,h⟩:∃W,W=a.alloc (.cells #[.bool false,.int .i64 5,.string ⟨#[]⟩,.int .i64 0,.int .i64 0] 75):=⟨_,rfl⟩;obtain⟨c,i⟩:∃W,W=b.alloc (.cells #[.slice (some ⟨w.heap.size+1,0,none⟩) 1 1] 76):=⟨_,rfl⟩;obtain⟨k,j⟩:∃W,W=c.alloc (.cells #[.slice (some ⟨w.heap.size,0,none⟩) 1 1,.int .i64 1,.slice (some ⟨w.heap.size+1+1,0,none⟩) 1 1] 56):=⟨_,rfl⟩;have s:((((w.alloc (.cells #[.string ⟨#[97]⟩,.int .i64 0,.bool false] 71)).alloc (.cells #[.bool false,.int .i64 5,.string ⟨#[]⟩,.int .i64 0,.int .i64 0] 75)).alloc (.cells #[.slice (some ⟨w.heap.size+1,0,none⟩) 1 1] 76)).alloc (.cells #[.slice (some ⟨w.heap.size,0,none⟩) 1 1,.int .i64 1,.slice (some ⟨w.heap.size+1+1,0,none⟩) 1 1] 56))=k:=by rw[j,i,h,g]
 rw[s];have n:a.heap.size=w.heap.size+1:=by rw[g,qww]
 have o:b.heap.size=w.heap.size+1+1:=by rw[h,qww,n]
 have y:c.heap.size=w.heap.size+1+1+1:=by rw[i,qww,o]
 have p:New w a:=by rw[g];exact zai _ _
 have q:New a b:=by rw[h];exact zai _ _
 have r:New b c:=by rw[i];exact zai _ _
 have l:New c k:=by rw[j];exact zai _ _
 have f:=qw5 r l;have e:=qw5 q f;have t:Reads a a.heap.size 3 (some ⟨w.heap.size,0,none⟩) 1 (recs zle s1L):=by have:=qxk w 71 #[.string ⟨#[97]⟩,.int .i64 0,.bool false] 1 3 (recs zle s1L) rfl rfl;rw[<-g] at this;exact this
 have u:Reads b b.heap.size 5 (some ⟨w.heap.size+1,0,none⟩) 1 (recs zay [zr4 5]):=by have:=qxk a 75 #[.bool false,.int .i64 5,.string ⟨#[]⟩,.int .i64 0,.int .i64 0] 1 5 (recs zay [zr4 5]) rfl rfl;rw[n,<-h] at this;exact this
 have v:Reads c c.heap.size 1 (some ⟨w.heap.size+1+1,0,none⟩) 1 (recs zjl (qd1 w.heap.size)):=by have:=qxk b 76 #[.slice (some ⟨w.heap.size+1,0,none⟩) 1 1] 1 1 (recs zjl (qd1 w.heap.size)) rfl rfl;rw[o,<-i] at this;exact this
 refine⟨⟨qxj t e,by decide,by decide,by decide,qxj v l,by simp[qd1],?_⟩,qw5 p e,?_⟩
 ·intro d m
  simp only[qd1,qsm,qur,or_false] at m;subst m;exact⟨qxj u f,show∀x∈[zr4 5],x.2.2.1.length<=140737488351232/\ ∀z∈x.2.2.1,z<256 from by decide,by simp,by simp,by simp⟩
 ·have:=qw1 c 56 #[.slice (some ⟨w.heap.size,0,none⟩) 1 1,.int .i64 1,.slice (some ⟨w.heap.size+1+1,0,none⟩) 1 1]
  rw[y,<-j] at this;exact this
end Go.Proofs.Y
