import Derived.Test.YtbahbnbpmfgimaaGreatDoorBun28
set_option maxHeartbeats 4000000
set_option maxRecDepth 100000
namespace Go.Proofs.Y
open Go Go.RowKit Go.Hm
def zxl(G:List za6)(k:Nat):Int:=((G.take k).map zco).sum
def zth(g:za6)(j:Nat):Int:=((g.2.take j).map zc0).sum
def zda(G:List za6)(k j q:Nat):Int:=zxl G k+zth (G.getD k zao) j+zc0 ((zax G k j).take q)
def qgz(ng:Nat)(g c p:Int):Bool:=decide (g=(ng:Int)/\c=0/\p=0)
def pgB(n:Nat)(p:Int):Bool:=decide (0<=p/\p<(n:Int))
noncomputable def zfm(F:FootS)(g c p:Int):Int:=
 if ze6 F&&(qgz F.groups.length g c p||(inB F.cols.length F.groups.length g c&&pgB (zax F.groups g.toNat c.toNat).length p)) then zda F.groups g.toNat c.toNat p.toNat else-1
theorem z0i(G:List za6):zda G 0 0 0=0:=rfl
theorem zlm{F:FootS}(h:zbs F){k j q:Nat}(d:k<F.groups.length)(o:j<F.cols.length)(f:q<(zax F.groups k j).length):
 0<=zda F.groups k j q/\zda F.groups k j (q+1)=zda F.groups k j q+((zax F.groups k j).getD q zby).1/\zda F.groups k j (q+1)<=1073741824/\1<=((zax F.groups k j).getD q zby).1:=by
 obtain⟨m,e⟩:=zkg h d o;have a:=fun p (b:p∈zax F.groups k j)=>(pageB_most.1 (m.1 p b)).1.2.2.1
 have r:=zb6 (fun p:za3=>p.1) (zax F.groups k j) q zby f;have s:=zfr (fun p:za3=>p.1) (zax F.groups k j) (q+1) (fun p b=>by have:=a p b;omega);have t:=zh3 (fun p:za3=>p.1) ((zax F.groups k j).take q) (fun p b=>by have:=a p (qro b);omega);have u:=zxk h (c:=j+1) d;have v:=zb6 zc0 (F.groups.getD k zao).2 j [] (by omega);have w:=zh3 zco (F.groups.take k) (fun g n=>(h.2.1 g (qro n)).nonneg);have x:=zh3 zc0 ((F.groups.getD k zao).2.take j) (fun l e=>(zc5 h d).sizes l (qro e));have i:=a _ (zah zby f);unfold zda zxl zth;unfold zax at*;unfold zc0 at*;refine⟨by omega,by omega,by omega,i⟩
theorem zxm{F:FootS}(h:zbs F){k j:Nat}(c:k<F.groups.length)(b:j<F.cols.length):zda F.groups k j (zax F.groups k j).length=zda F.groups k (j+1) 0:=by obtain⟨d,e⟩:=zkg h c b;have a:=zb6 zc0 (F.groups.getD k zao).2 j [] (by omega);unfold zda zth;rw[quw,a];unfold zax;simp only[qrq];have:zc0 []=0:=rfl;omega
theorem zxn{F:FootS}(h:zbs F){k:Nat}(a:k<F.groups.length):zda F.groups k F.cols.length 0=zda F.groups (k+1) 0 0:=by have c:=(zc5 h a).2.1;have b:=zb6 zco F.groups k zao a;unfold zda zxl zth;rw[b,<-c,quw];simp only[qrq,qrk,List.sum_nil];have:zc0 []=0:=rfl;unfold zco;omega
theorem zxo{w:World}{Ac:Option Addr}{cc:Nat}{L:List za2}{r:Int}{Ag:Option Addr}{cg:Nat}{G:List GrD}(h:FootIn w Ac cc L Ag G)(hp:∀g∈G,∀x∈g.2.2.2,∀p∈x.2.2,zew p.2.2){g c p:Int}:
 Calls Tryz.prog 69 #[zmp Ac cc L r Ag cg G,.int .i64 g,.int .i64 c,.int .i64 p] w (zap (.int .i64 (zfm (zb0 L r G) g c p)) w):=by
 have HR:=fun(W:World) (hW:New w W)=>znv (r:=r) (cc:=cc) (cg:=cg) (h.later hW) hp
 have HH:=qwk (fun(W:World)=>zoo (w:=W) (Ac:=Ac) (Ag:=Ag) (nl:=L.length) (cc:=cc) (ng:=G.length) (cg:=cg) (r:=r) (g:=g) (c:=c));have l:zfm (zb0 L r G) g c p=if ze6 (zb0 L r G)&&(qgz G.length g c p||(inB L.length G.length g c&&pgB (zax (G.map grP) g.toNat c.toNat).length p)) then zda (G.map grP) g.toNat c.toNat p.toNat else-1:=by unfold zfm zb0;simp only[qtl]
 have hF:ze6 (zb0 L r G)=true->zbs (zb0 L r G):=fun e=>by unfold ze6 at e;simpa using e
 have B0:=qw1 w 79 #[.slice Ac L.length cc,.int .i64 r,.slice Ag G.length cg];have Y:New w (w.alloc (.cells #[.slice Ac L.length cc,.int .i64 r,.slice Ag G.length cg] 79)):=(qwd _ _).alloc (qq0 _) _;obtain⟨x0,x1,x2⟩:=zan B0;have HG:=qwk h.groups;have b5:=qwk h.chunks;have c8:=qwk h.pages;have g1:=h.few2;have hB:= @qbb L.length G.length g c;clear h hp;have hI:inB L.length G.length g c=decide (0<=g/\g<(G.length:Int)/\0<=c/\c<(L.length:Int)):=rfl;generalize inB L.length G.length g c=I at*;show Calls Tryz.prog 69 #[.agg #[.slice Ac L.length cc,.int .i64 r,.slice Ag G.length cg],.int .i64 g,.int .i64 c,.int .i64 p] w (zap (.int .i64 (zfm (zb0 L r G) g c p)) w);generalize zfm (zb0 L r G) g c p=X at*;generalize ze6 (zb0 L r G)=M at*;have HR:Hid (∀W,New w W->Calls Tryz.prog 87 #[.agg #[.slice Ac L.length cc,.int .i64 r,.slice Ag G.length cg]] W (zap (.bool M) W)):=qwk HR;cases M with
 |false=>
  obtain rfl:X= -1:=by rw[l];rfl
  clear l hF hB hI;go_enter Tryz.func69,Tryz.ntmps69
  go_wp2_with fail
  go_step3
  go_wp2_with fail
  refine(HR.out _ Y).mono ?_;rintro e w1 ⟨rfl,O⟩;have J:=qw5 Y O;clear Y O;go_wp2
  try rw[qwx]
  go_ret
  exact⟨rfl,J⟩
 |true=>
  have K:=hF rfl;clear hF;rw[qvu] at l;have F:∀(W:World) (g' c':Int),Calls Tryz.prog 101 #[.agg #[.slice Ac L.length cc,.int .i64 r,.slice Ag G.length cg],.int .i64 g',.int .i64 c'] W (zap (.bool (inB L.length G.length g' c')) W):=fun W g' c'=>zoo
  have C:=qwk (fun(k:Nat) (H:k<G.length)=>show(G.getD k grZ).2.2.2.length=L.length by have:=(zc5 K (k:=k) (by unfold zb0;simpa using H)).2.1;unfold zb0 at this;dsimp only at this;rw[zbm grP G grZ zao H] at this;unfold grP at this;simpa using this)
  have U:=fun(k:Nat) (H:k<G.length) (j:Nat) (hj:j<(G.getD k grZ).2.2.2.length)=>show zax (G.map grP) k j=((G.getD k grZ).2.2.2.getD j chZ).2.2 by unfold zax;rw[zbm grP G grZ zao H];exact zbm (fun x:ChD=>x.2.2) (G.getD k grZ).2.2.2 chZ [] hj
  have VZ:=qwk (z0i (G.map grP));have VP:=qwk (fun(k:Nat) (H:k<G.length) (j:Nat) (hj:j<(G.getD k grZ).2.2.2.length) (q:Nat) (hq:q<((G.getD k grZ).2.2.2.getD j chZ).2.2.length)=>
   show 0<=zda (G.map grP) k j q/\zda (G.map grP) k j (q+1)=zda (G.map grP) k j q+(((G.getD k grZ).2.2.2.getD j chZ).2.2.getD q zby).1/\zda (G.map grP) k j (q+1)<=1073741824/\1<=(((G.getD k grZ).2.2.2.getD j chZ).2.2.getD q zby).1 by
   have e:=U k H j hj;have:=zlm K (k:=k) (j:=j) (q:=q) (by unfold zb0;simpa using H) (by unfold zb0;dsimp only;rw[<-C.out k H];exact hj) (by unfold zb0;dsimp only;rw[e];exact hq);unfold zb0 at this;dsimp only at this;rw[e] at this;exact this)
  have VC:=qwk (fun(k:Nat) (H:k<G.length) (j:Nat) (hj:j<(G.getD k grZ).2.2.2.length)=>show zda (G.map grP) k j ((G.getD k grZ).2.2.2.getD j chZ).2.2.length=zda (G.map grP) k (j+1) 0 by have e:=U k H j hj;have:=zxm K (k:=k) (j:=j) (by unfold zb0;simpa using H) (by unfold zb0;dsimp only;rw[<-C.out k H];exact hj);unfold zb0 at this;dsimp only at this;rw[e] at this;exact this)
  have VG:=qwk (fun(k:Nat) (H:k<G.length)=>show zda (G.map grP) k L.length 0=zda (G.map grP) (k+1) 0 0 from
   zxn K (k:=k) (by unfold zb0;simpa using H))
  by_cases hE:g=(G.length:Int)/\c=0/\p=0
  ·obtain⟨rfl,rfl,rfl⟩:=hE
   have T:qgz G.length (G.length:Int) 0 0=true:=by unfold qgz;simp
   rw[T,Bool.true_or,if_pos rfl] at l;simp only[qrn,Int.toNat_zero] at l;generalize zda (G.map grP)=V at*;subst l;clear hB hI T K HH F U;go_enter Tryz.func69,Tryz.ntmps69
   go_wp2_with fail
   go_step3
   go_wp2_with fail
   refine(HR.out _ Y).mono ?_;rintro e w1 ⟨rfl,O⟩;have B1:=B0.below O B0.lt;have bE:=qw5 Y O;clear Y O B0 x0 x1 x2 HR;obtain⟨x0,x1,x2⟩:=zan B1;clear B1;go_wp2_with fail
   go_step3
   go_wp2_with fail
   clear x0 x1 x2;go_loopw [10,63] (fun a i wr=>∃k:Nat,k<=G.length/\i= .int .i64 (k:Int)/\a= .int .i64 (V k 0 0)/\New w wr) (fun _ i _=>G.length-(intOf i).toNat)
   case atStart=>exact⟨0,qq1 _,rfl,by rw[VZ.out],bE⟩
   case round=>
    obtain⟨k,H,rfl,rfl,b⟩:=hrel;clear bE VZ;by_cases f:k<G.length
    ·obtain⟨ad,rfl,hb,R,S⟩:=(qxj HG.out b).gr2 f
     have u:=zah grZ f;have d:=b5.out _ u;have N:=c8.out _ u;have m:=C.out k f;have t:=VP.out k f;have o:=VC.out k f;have a8:=qwk (VG.out k f);clear hb u;generalize G.getD k grZ=gg at*;obtain⟨gr,P,Q,D⟩:=gg;dsimp only at R S d N m t o;have t:=qwk t;have o:=qwk o;have a7:=qwk m;have Z:=qwk d.1;have f2:=d.2;have a0:=qwk N;have ha:New wr (wr.alloc (.cells #[.int .i64 gr,.slice P D.length Q] 114)):=(qwd _ _).alloc (qq0 _) _;have BG:=qw1 wr 114 #[.int .i64 gr,.slice P D.length Q];have v:=qw5 b ha;obtain⟨z0,z1⟩:=zb3 BG;clear b ha BG d N m;go_wp2_with fail
     clear z0 z1 R S;go_loopw [10,71] (fun a i wr=>∃j:Nat,j<=D.length/\i= .int .i64 (j:Int)/\a= .int .i64 (V k j 0)/\New w wr) (fun _ i _=>D.length-(intOf i).toNat)
     case atStart=>exact⟨0,qq1 _,rfl,rfl,v⟩
     case round=>
      obtain⟨j,hj,rfl,rfl,b⟩:=hrel;clear v;by_cases y:j<D.length
      ·obtain⟨ac,rfl,a2,e0⟩:=(qxj Z.out b).ch1 y
       have a6:=zah chZ y;have z:=a0.out _ a6;have s:=t.out j y;have n:=o.out j y;clear a2 a6;generalize D.getD j chZ=x at*;obtain⟨Ax,cx,B⟩:=x;dsimp only at e0 z s n;have s:=qwk s;have n:=qwk n;have b7:=qwk z.1;have g4:=z.2;clear z;go_wp2_with fail
       clear e0;go_loopw [10,78] (fun a i wr=>∃q:Nat,q<=B.length/\i= .int .i64 (q:Int)/\a= .int .i64 (V k j q)/\New w wr) (fun _ i _=>B.length-(intOf i).toNat)
       case atStart=>exact⟨0,qq1 _,rfl,rfl,b⟩
       case round=>
        clear b;obtain⟨q,hq,rfl,rfl,b⟩:=hrel;by_cases a5:q<B.length
        ·obtain⟨ap,rfl,c3,R,S,d2,d3,d4,d5,d6,d7,d8,d9,b9,c0,c1,c2⟩:=(qxj b7.out b).page14 a5
         obtain⟨v1,v2,v3,v4⟩:=s.out q a5;have vs:V k j q+(B.getD q zby).1<=1073741824:=by omega
         have c7:0<=V k j q+(B.getD q zby).1:=by omega
         have H2:=qwk v2;clear v2 v3 v4 c3;generalize B.getD q zby=p at*;obtain⟨sz,rw,nn,bb,⟨p1,p2,p3,p4,p5⟩,⟨q1,q2,q3,q4,q5⟩⟩:=p;dsimp only at R S d2 d3 d4 d5 d6 d7 d8 d9 b9 c0 c1 c2 H2 vs c7;have ha:New wr (wr.alloc (.cells #[.int .i64 sz,.int .i64 rw,.int .i64 nn,.bool bb,.bool p1,.int .i64 p2,.string (zaf p3),.int .i64 p4,.int .i64 p5,.bool q1,.int .i64 q2,.string (zaf q3),.int .i64 q4,.int .i64 q5] 135)):=(qwd _ _).alloc (qq0 _) _;have BP:=qw1 wr 135 #[.int .i64 sz,.int .i64 rw,.int .i64 nn,.bool bb,.bool p1,.int .i64 p2,.string (zaf p3),.int .i64 p4,.int .i64 p5,.bool q1,.int .i64 q2,.string (zaf q3),.int .i64 q4,.int .i64 q5];have v:=qw5 b ha;obtain⟨e0,e1,e2,e3,e4,e5,e6,e7,e8,e9,f4,f5,f6,f7⟩:=zec BP;clear b ha BP;have nk: ¬k=G.length:=by omega
         have h5: ¬(k:Int)=(G.length:Int):=by omega
         go_wp2_with fail
         go_roundw
         case rel=>exact⟨q+1,by omega,by go_num,by rw[H2.out],v⟩
         case measure=>simp[intOf];omega
        ·obtain rfl:q=B.length:=by omega
         have c5:=qwk n.out;go_wp2
         go_roundw
         case rel=>exact⟨j+1,by omega,by go_num,by rw[c5.out],b⟩
         case measure=>simp[intOf];omega
      ·obtain rfl:j=D.length:=by omega
       have A:=a8.out;rw[<-a7.out] at A;have A:=qwk A;go_wp2
       go_roundw
       case rel=>exact⟨k+1,by omega,by go_num,by rw[A.out],b⟩
       case measure=>simp[intOf];omega
    ·obtain rfl:k=G.length:=by omega
     go_wp2
     try rw[qwx]
     go_ret
     exact⟨rfl,b⟩
  ·have T:qgz G.length g c p=false:=by unfold qgz;simpa using hE
   rw[T,Bool.false_or] at l;clear HH;cases I with
   |false=>
    obtain rfl:X= -1:=by rw[l];rfl
    have HE:=qwk hE;have HH:=qwk F;have hi:∀g' c':Int,g'=g->c'=c->inB L.length G.length g' c'=false:=by rintro _ _ rfl rfl;exact hI.symm
    have HI:=qwk hi;clear l hB hI T hE K F U VZ VP VC VG C hi;go_enter Tryz.func69,Tryz.ntmps69
    go_wp2_with fail
    go_step3
    go_wp2_with fail
    refine(HR.out _ Y).mono ?_;rintro e w1 ⟨rfl,O⟩;have B1:=B0.below O B0.lt;have J:=qw5 Y O;clear Y O B0 x0 x1 x2;obtain⟨x0,x1,x2⟩:=zan B1;go_wp2_with fail
    all_goals
     first
      |exact absurd ⟨by assumption,by assumption,by assumption⟩ HE.out
      |(refine(HH.out _ _ _).mono ?_
        rw[HI.out _ _ (by omega) (by omega)];rintro e w2 ⟨rfl,v⟩;have f3:=qw5 J v;clear J v;go_wp2
        all_goals
         first
          |(try rw[qwx]
            go_ret
            exact⟨rfl,f3⟩)
          |(exfalso;simp_all;done))
   |true=>
    obtain⟨gk,E,rfl,rfl,a3,g0⟩:=hB rfl;rw[qvu] at l;simp only[qrn] at l;rw[U gk a3 E (by rw[C.out gk a3];exact g0)] at l;have F:=fun(W:World)=>F W gk E
    rw[show inB L.length G.length (gk:Int) (E:Int)=true from hI.symm] at F;have HH:=qwk F;have nE: ¬gk=G.length:=by omega
    have g5: ¬(gk:Int)=(G.length:Int):=by omega
    clear hB hI T hE K F U;generalize zda (G.map grP)=V at*;have HX:=qwk l;clear l;go_enter Tryz.func69,Tryz.ntmps69
    go_wp2_with fail
    go_step3
    go_wp2_with fail
    refine(HR.out _ Y).mono ?_;rintro e w1 ⟨rfl,O⟩;have B1:=B0.below O B0.lt;have J:=qw5 Y O;clear Y O B0 x0 x1 x2;obtain⟨x0,x1,x2⟩:=zan B1;go_wp2_with fail
    refine(HH.out _).mono ?_;rintro e w2 ⟨rfl,v⟩;have B2:=B1.below v B1.lt;have bI:=qw5 J v;clear J v B1 x0 x1 x2 HR HH;obtain⟨x0,x1,x2⟩:=zan B2;clear B2;obtain⟨g7,rfl,f9,R,S⟩:=(qxj HG.out bI).gr2 a3;have u:=zah grZ a3;have d:=b5.out _ u;have m:=C.out gk a3;obtain⟨gg,c4⟩:∃gg,G.getD gk grZ=gg:=⟨_,rfl⟩;rw[c4] at R S d m;have b6:=qwk c4;clear c4 u f9;obtain⟨gr,P,Q,D⟩:=gg;dsimp only at R S d m;have b4:E<D.length:=by omega
    obtain⟨g6,rfl,a2,e0⟩:=(qxj d.1 bI).ch1 b4;obtain⟨xx,c6⟩:∃xx,D.getD E chZ=xx:=⟨_,rfl⟩;rw[c6] at e0;have b8:=qwk c6;clear c6 a2 d;obtain⟨Ax,cx,B⟩:=xx;dsimp only at e0;have l:=HX.out;rw[b6.out] at l;dsimp only at l;rw[b8.out] at l;dsimp only at l;clear HX;by_cases g2:p<0
    ·obtain rfl:X= -1:=by rw[l,if_neg];unfold pgB;simp;omega
     clear l;go_wp2
     try rw[qwx]
     go_ret
     exact⟨rfl,bI⟩
    by_cases g3:(B.length:Int)<=p
    ·obtain rfl:X= -1:=by rw[l,if_neg];unfold pgB;simp;omega
     clear l;go_wp2
     try rw[qwx]
     go_ret
     exact⟨rfl,bI⟩
    ·obtain⟨pk,rfl⟩:∃pk:Nat,p=(pk:Int):=⟨p.toNat,by omega⟩
     obtain rfl:X=V gk E pk:=by rw[l,if_pos (by unfold pgB;simp;omega)];rfl
     have f0:=qwk (show∀k j:Nat,k=gk->j=E->pk<((G.getD k grZ).2.2.2.getD j chZ).2.2.length by rintro _ _ rfl rfl;rw[b6.out];dsimp only;rw[b8.out];dsimp only;omega)
     clear l b6 b8;go_wp2_with fail
     go_step3
     go_wp2_with fail
     clear R S e0 m b4 g2 g3 nE g5;try generalize((gk:Int)==(G.length:Int))=z1
     try generalize(decide ((pk:Int)<0))=z2
     try generalize(decide (B.length<=pk))=z3
     try generalize(decide ((B.length:Int)<=(pk:Int)))=z4
     clear x0 x1 x2;go_loopw [10,63] (fun a i wr=>∃k:Nat,k<=gk/\i= .int .i64 (k:Int)/\a= .int .i64 (V k 0 0)/\New w wr) (fun _ i _=>G.length-(intOf i).toNat)
     case atStart=>exact⟨0,qq1 _,rfl,by rw[VZ.out],bI⟩
     case round=>
      obtain⟨k,H,rfl,rfl,b⟩:=hrel;clear bI VZ;by_cases f:k<G.length
      ·obtain⟨ad,f8,hb,R,S⟩:=(qxj HG.out b).gr2 f
       obtain rfl:=qqf f8;have u:=zah grZ f;have d:=b5.out _ u;have N:=c8.out _ u;have m:=C.out k f;have t:=VP.out k f;have o:=VC.out k f;have a8:=qwk (VG.out k f);have a1:=f0.out k;clear hb u;generalize G.getD k grZ=gg at*;obtain⟨gr,P,Q,D⟩:=gg;dsimp only at R S d N m t o a1;have a1:=qwk a1;have t:=qwk t;have o:=qwk o;have a7:=qwk m;have Z:=qwk d.1;have f2:=d.2;have a0:=qwk N;have ha:New wr (wr.alloc (.cells #[.int .i64 gr,.slice P D.length Q] 114)):=(qwd _ _).alloc (qq0 _) _;have BG:=qw1 wr 114 #[.int .i64 gr,.slice P D.length Q];have v:=qw5 b ha;obtain⟨z0,z1⟩:=zb3 BG;clear b ha BG d N m;go_wp2_with fail
       clear z0 z1 R S;go_loopw [10,71] (fun a i wr=>∃j:Nat,j<=D.length/\i= .int .i64 (j:Int)/\a= .int .i64 (V k j 0)/\Hid (k<gk\/(k=gk/\j<=E))/\New w wr) (fun _ i _=>D.length-(intOf i).toNat)
       case atStart=>exact⟨0,qq1 _,rfl,rfl,qwk (by omega),v⟩
       case round=>
        obtain⟨j,hj,rfl,rfl,a9,b⟩:=hrel;clear v;by_cases y:j<D.length
        ·obtain⟨ac,rfl,a2,e0⟩:=(qxj Z.out b).ch1 y
         have a6:=zah chZ y;have z:=a0.out _ a6;have s:=t.out j y;have n:=o.out j y;have f1:=a1.out j;clear a2 a6;generalize D.getD j chZ=x at*;obtain⟨Ax,cx,B⟩:=x;dsimp only at e0 z s n f1;have c9:=qwk f1;have s:=qwk s;have n:=qwk n;have b7:=qwk z.1;have g4:=z.2;clear z;go_wp2_with fail
         clear e0;go_loopw [10,78] (fun a i wr=>∃q:Nat,q<=B.length/\i= .int .i64 (q:Int)/\a= .int .i64 (V k j q)/\Hid (k<gk\/(k=gk/\(j<E\/(j=E/\q<=pk))))/\New w wr) (fun _ i _=>B.length-(intOf i).toNat)
         case atStart=>exact⟨0,qq1 _,rfl,rfl,qwk (by have:=a9.out;omega),b⟩
         case round=>
          clear b;obtain⟨q,hq,rfl,rfl,b3,b⟩:=hrel;by_cases a5:q<B.length
          ·obtain⟨ap,rfl,c3,R,S,d2,d3,d4,d5,d6,d7,d8,d9,b9,c0,c1,c2⟩:=(qxj b7.out b).page14 a5
           obtain⟨v1,v2,v3,v4⟩:=s.out q a5;have vs:V k j q+(B.getD q zby).1<=1073741824:=by omega
           have c7:0<=V k j q+(B.getD q zby).1:=by omega
           have H2:=qwk v2;clear v2 v3 v4 c3;generalize B.getD q zby=p at*;obtain⟨sz,rw,nn,bb,⟨p1,p2,p3,p4,p5⟩,⟨q1,q2,q3,q4,q5⟩⟩:=p;dsimp only at R S d2 d3 d4 d5 d6 d7 d8 d9 b9 c0 c1 c2 H2 vs c7;have ha:New wr (wr.alloc (.cells #[.int .i64 sz,.int .i64 rw,.int .i64 nn,.bool bb,.bool p1,.int .i64 p2,.string (zaf p3),.int .i64 p4,.int .i64 p5,.bool q1,.int .i64 q2,.string (zaf q3),.int .i64 q4,.int .i64 q5] 135)):=(qwd _ _).alloc (qq0 _) _;have BP:=qw1 wr 135 #[.int .i64 sz,.int .i64 rw,.int .i64 nn,.bool bb,.bool p1,.int .i64 p2,.string (zaf p3),.int .i64 p4,.int .i64 p5,.bool q1,.int .i64 q2,.string (zaf q3),.int .i64 q4,.int .i64 q5];have v:=qw5 b ha;obtain⟨e0,e1,e2,e3,e4,e5,e6,e7,e8,e9,f4,f5,f6,f7⟩:=zec BP;clear b ha BP;by_cases a4:k=gk/\j=E/\q=pk
           ·obtain⟨rfl,rfl,rfl⟩:=a4
            clear s n t o a8 VP VC VG C H2 a1 c9 f0;generalize V k j q=vv at*;go_wp2_with fail
            try rw[qwx]
            go_ret
            exact⟨rfl,v⟩
           have HN:=qwk (show k<gk\/(k=gk/\(j<E\/(j=E/\q+1<=pk))) by have:=b3.out;omega);by_cases n1:k=gk
           ·have t1:((k:Int)==(gk:Int))=true:=by simp[n1]
            have N1:=qwk n1;by_cases n2:j=E
            ·have t2:((j:Int)==(E:Int))=true:=by simp[n2]
             have N2:=qwk n2;have n3: ¬q=pk:=fun e=>a4 ⟨n1,n2,e⟩
             have h0: ¬(q:Int)=(pk:Int):=by omega
             clear n1 n2 a4;go_wp2_with fail
             go_roundw
             case rel=>exact⟨q+1,by omega,by go_num,by rw[H2.out],HN,v⟩
             case measure=>simp[intOf];omega
            ·have g9: ¬(j:Int)=(E:Int):=by omega
             clear n1 a4;go_wp2_with fail
             go_roundw
             case rel=>exact⟨q+1,by omega,by go_num,by rw[H2.out],HN,v⟩
             case measure=>simp[intOf];omega
           ·have g8: ¬(k:Int)=(gk:Int):=by omega
            clear a4;go_wp2_with fail
            go_roundw
            case rel=>exact⟨q+1,by omega,by go_num,by rw[H2.out],HN,v⟩
            case measure=>simp[intOf];omega
          ·obtain rfl:q=B.length:=by omega
           have c5:=qwk n.out;have HN:=qwk (show k<gk\/(k=gk/\j+1<=E) by
            have h1:=b3.out;have h2:=c9.out;rcases h1 with h1|⟨h1,h3|⟨h3,h4⟩⟩
            ·omega
            ·omega
            ·have:=h2 h1 h3
             omega)
           go_wp2
           go_roundw
           case rel=>exact⟨j+1,by omega,by go_num,by rw[c5.out],HN,b⟩
           case measure=>simp[intOf];omega
        ·obtain rfl:j=D.length:=by omega
         have A:=a8.out;rw[<-a7.out] at A;have A:=qwk A;go_wp2
         go_roundw
         case rel=>exact⟨k+1,by have:=a9.out;have:=a7.out;omega,by go_num,by rw[A.out],b⟩
         case measure=>simp[intOf];omega
      ·exfalso
       omega
end Go.Proofs.Y
