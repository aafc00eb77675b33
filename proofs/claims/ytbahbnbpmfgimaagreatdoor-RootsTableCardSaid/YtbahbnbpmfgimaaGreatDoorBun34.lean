import Derived.Test.YtbahbnbpmfgimaaGreatDoorBun33
set_option maxHeartbeats 2000000
set_option maxRecDepth 100000
namespace Go.Proofs.Y
open Go.RowKit Go.Hm
theorem qqc:ElT Tryz.prog 93 95 (.slice none 0 0) 1 24:=⟨by kernel_rfl,by kernel_rfl,rfl,by omega⟩
theorem qqd:ElT Tryz.prog 95 22 (.slice none 0 0) 1 24:=⟨by kernel_rfl,by kernel_rfl,rfl,by omega⟩
theorem qlu:Tryz.prog.underlying 24=some (.slice (Tryz.prog.elem 24)):=by kernel_rfl
theorem qlv(w:World):(sizeOf (Tryz.prog.elem 24)).run Tryz.prog w= .ok 1 w:=by kernel_rfl
theorem z04{w:World}{A:Option Addr}{cb:Nat}{b:List Nat}{Ac:Option Addr}{cc:Nat}{L:List za2}{r:Int}{Ag:Option Addr}{cg:Nat}{G:List GrD}
 (hb:Reads w w.heap.size 1 A b.length (zar .u8 b))(b7:b.length<=140737488351232)(b6:b.length<=cb)(l5:cb<=9223372036854775807)
 (h:FootIn w Ac cc L Ag G)(f4:zbs (zb0 L r G))(hs:4+szG (G.map grP)<=b.length):
 Calls Tryz.prog 43 #[.slice A b.length cb,zmp Ac cc L r Ag cg G] w (SheCutPostA A (G.map grP) b w):=by
 have I:(zb0 L r G).groups=G.map grP:=rfl;obtain⟨n1,n2,n3⟩:=z25 f4;have a7:=zmw f4;rw[I,qtl] at n1 n3;rw[I] at a7;have hD:∀k,k<G.length->(G.map grP).getD k zao=grP (G.getD k grZ):=fun k m=>zbm grP G grZ zao m
 have z:=qwk (fun(k:Nat) (m:k<G.length)=>show(G.getD k grZ).2.2.2.length=L.length/\((G.map grP).getD k zao).2.length=(G.getD k grZ).2.2.2.length by have:=(n3 k m).1;rw[hD k m] at this⊢;unfold grP at this⊢;dsimp only at this⊢;rw[qtl] at this⊢;exact⟨this,rfl⟩)
 have b4:=fun(k:Nat) (m:k<G.length) (j:Nat) (hj:j<(G.getD k grZ).2.2.2.length)=>show zax (G.map grP) k j=((G.getD k grZ).2.2.2.getD j chZ).2.2 by unfold zax;rw[zbm grP G grZ zao m];exact zbm (fun x:ChD=>x.2.2) (G.getD k grZ).2.2.2 chZ [] hj
 have e5:=zki (G.map grP) (b.drop 4);rw[qtl] at e5;have k9:=fun(k:Nat) (m:k<G.length)=>show((ze9 (G.map grP) (b.drop 4)).getD k []).length=(G.getD k grZ).2.2.2.length by rw[zjr _ _ _ (by rw[qtl];exact m),zmt];exact(z.out k m).2
 have l0:=fun(k:Nat) (m:k<G.length) (j:Nat) (hj:j<(G.getD k grZ).2.2.2.length)=>show(((ze9 (G.map grP) (b.drop 4)).getD k []).getD j []).length=((G.getD k grZ).2.2.2.getD j chZ).2.2.length by rw[zjr _ _ _ (by rw[qtl];exact m),cutC_at _ _ _ (by rw[(z.out k m).2];exact hj),zkh];have:=b4 k m j hj;unfold zax at this;rw[this]
 have VP:=fun(k:Nat) (m:k<G.length) (j:Nat) (hj:j<(G.getD k grZ).2.2.2.length) (q:Nat) (hq:q<((G.getD k grZ).2.2.2.getD j chZ).2.2.length)=>
  show(0<=(((G.getD k grZ).2.2.2.getD j chZ).2.2.getD q zby).1/\(((G.getD k grZ).2.2.2.getD j chZ).2.2.getD q zby).1<=268435456)/\zpl (G.map grP) k j (q+1)=zpl (G.map grP) k j q+(((G.getD k grZ).2.2.2.getD j chZ).2.2.getD q zby).1.toNat/\zpl (G.map grP) k j (q+1)<=b.length
   /\(((ze9 (G.map grP) (b.drop 4)).getD k []).getD j []).getD q []=(b.drop (zpl (G.map grP) k j q)).take (((G.getD k grZ).2.2.2.getD j chZ).2.2.getD q zby).1.toNat by
  have e:=b4 k m j hj;have:=zxz (F:=zb0 L r G) (b:=b) hs (k:=k) (j:=j) (q:=q) (by rw[I,qtl];exact m) (by rw[I,(z.out k m).2];exact hj) (by rw[I,e];exact hq);rw[I,e] at this;refine⟨?_,this⟩;have:=a7 (grP (G.getD k grZ)) (qqu.2 ⟨_,zah grZ m,rfl⟩) ((G.getD k grZ).2.2.2.getD j chZ).2.2 (by unfold grP;exact qqu.2 ⟨_,zah chZ hj,rfl⟩) _ (zah zby hq);omega
 have VC:=fun(k:Nat) (m:k<G.length) (j:Nat) (hj:j<(G.getD k grZ).2.2.2.length)=>show zpl (G.map grP) k j ((G.getD k grZ).2.2.2.getD j chZ).2.2.length=zpl (G.map grP) k (j+1) 0/\((G.getD k grZ).2.2.2.getD j chZ).2.2.length<=65536 by have e:=b4 k m j hj;have:=z6h (G:=G.map grP) (k:=k) (j:=j) (by rw[(z.out k m).2];exact hj);rw[e] at this;refine⟨this,?_⟩;have:=(n3 k m).2 j (by have:=(z.out k m).1;unfold zb0;dsimp only;omega);rw[e] at this;exact this
 have VG:=fun(k:Nat) (m:k<G.length)=>show zpl (G.map grP) k (G.getD k grZ).2.2.2.length 0=zpl (G.map grP) (k+1) 0 0 by have:=z6i (G:=G.map grP) (k:=k) (by rw[qtl];exact m);rw[(z.out k m).2] at this;exact this
 have VZ:=qwk (qbu (G.map grP));unfold SheCutPostA;generalize zpl (G.map grP)=V at*;generalize ze9 (G.map grP) (b.drop 4)=CG at*;have l3:L.length<=64:=n2;have n0:=qwk (fun(k:Nat) (m:k<G.length)=>show(G.getD k grZ).2.2.2.length<=64 by have:=(z.out k m).1;omega);have n8:=qwk VP;have n6:=qwk VC;have n7:=qwk VG;have i0:=qwk e5;have m3:=qwk k9;have m4:=qwk l0;have HR:=qwk hb;have HF:=qwk h;have h9:=qwk (qtc b7 (qtc b6 l5));have o8:G.length<=65536:=n1;clear VP VC VG e5 k9 l0 a7 hD b4 n1 n2 n3 I f4 hs hb h b7 b6 l5 z l3;have b0:New w (w.alloc (.cells #[.slice Ac L.length cc,.int .i64 r,.slice Ag G.length cg] 79)):=(qwd _ _).alloc (qq0 _) _;have B0:=qw1 w 79 #[.slice Ac L.length cc,.int .i64 r,.slice Ag G.length cg];obtain⟨x0,x1,x2⟩:=zan B0;unfold zmp;go_enter Tryz.func43,Tryz.ntmps43
 go_upto_region 3 with(refine znx qqc rfl (.tmp 15) (.tmp 15) rfl G.length rfl rfl rfl rfl rfl (by omega) (by simp only[maxLen];omega) ?_
                       intro w1 BO b1 z1)
 have B1:=B0.below b1 B0.lt;have k1:=qw5 b0 b1;clear x0 x1 x2 B0 b0;obtain⟨x0,x1,x2⟩:=zan B1;simp only[qww] at BO z1⊢;go_wp2_with fail
 generalize l7:w.heap.size+1=P at*;have a2:=qwk l7;clear l7 x0 x1 x2 b1;go_loopw [5,20] (fun a i wr=>∃(k n:Nat) (X:List zny),k<=G.length/\i= .int .i64 (k:Int)/\a= .int .i64 (n:Int)/\Hid (n=V k 0 0)/\Hid (X.map gpP=CG.take k)/\Hid (X.length=k)/\Blk wr P 95 (recs zxy X++List.replicate (G.length-k) (Value.slice none 0 0)).toArray/\Hid (∀g∈X,RowRAt wr P g/\ ∀r∈g.2.2,r.2.1=r.2.2.length/\ ∀d∈r.2.2,PieceOf A w d)/\New w wr) (fun _ i _=>G.length-(intOf i).toNat)
 case atStart=>exact⟨0,4,[],qq1 _,rfl,rfl,qwk VZ.out.symm,qwk rfl,qwk rfl,by simpa[recs] using BO,qwk (by simp),k1⟩
 case round=>
  obtain⟨k,n,X,m,rfl,rfl,HN,HX,N,BO,a8,bw⟩:=hrel;clear k1 B1 z1;by_cases u:k<G.length
  ·obtain⟨ad,rfl,hb,d0,d1⟩:=(qxj HF.out.groups bw).gr2 u
   have S:=zah grZ u;have f1:=HF.out.chunks _ S;have f7:=HF.out.pages _ S;have o5:=n0.out k u;have a5:=n8.out k u;have b3:=n6.out k u;have k0:=qwk (n7.out k u);have J:=m3.out k u;have a1:=m4.out k u;clear hb S;generalize G.getD k grZ=gg at*;obtain⟨gr,c3,e4,D⟩:=gg;dsimp only at d0 d1 f1 f7 o5 a5 b3 k0 J a1;obtain⟨Gk,e7⟩:∃Gk,Gk=CG.getD k []:=⟨_,rfl⟩;rw[<-e7] at a5 J a1;have m9:=qwk e7;have a5:=qwk a5;have b3:=qwk b3;have J:=qwk J;have a1:=qwk a1;have i3:=qwk f1.1;have i6:=qwk f7;have ha:New wr (wr.alloc (.cells #[.int .i64 gr,.slice c3 D.length e4] 114)):=(qwd _ _).alloc (qq0 _) _;have BG:=qw1 wr 114 #[.int .i64 gr,.slice c3 D.length e4];have e1:=BO.below ha BO.lt;have k3:=qw5 bw ha;obtain⟨z0,z1⟩:=zb3 BG;have f9:(wr.alloc (.cells #[.int .i64 gr,.slice c3 D.length e4] 114)).heap.size=wr.heap.size+1:=by simp
   have l8:=BO.lt;clear ha f1 f7 BO e7;go_upto_region 7 with(first
    |(refine znx qqd rfl (.tmp 29) (.tmp 29) rfl D.length rfl rfl rfl rfl rfl (by omega) (by simp only[maxLen];omega) ?_
      intro w2 BM b2 z2;have h0:=e1.below b2 e1.lt;have g1:=BG.below b2 BG.lt;rw[f9] at BM z2;have k4:=qw5 k3 b2;have i5:=qwk (fun(q:Nat) (h2:q<wr.heap.size)=>show w2.heap[q]? =wr.heap[q]? by rw[b2.block q (by rw[f9];omega)];exact Below.heap_alloc _ _ _ h2);clear e1 BG b2 z0 z1 d0 d1 k3)
    |(refine zfh rfl 95 (.tmp 31) (.tmp 30) rfl P k (.slice (some ⟨wr.heap.size+1,0,none⟩) D.length D.length) rfl rfl h0 (by rw[zh6 (fun _=>rfl),N.out];omega) (by kernel_rfl) rfl ?_
      intro w3 H g3 z3))
   have o9:=l8;obtain⟨c,S⟩:∃c,c=wr.heap.size+1:=⟨_,rfl⟩;have c1:=a2.out;have c4:=BM.grown g3 (by intro e;injection e with e;omega);have g2:=g1.grown g3 (by intro e;injection e with e;omega);have a6:=zbg k4 g3 (by omega) (qq0 _);have i7:=qwk (fun(W:World) (hW:Below c w3 W) (g:zny) (hg:g∈X)=>(a8.out g hg).1.mv (hi:=wr.heap.size) (qq0 _) (fun q h1 h2=>by rw[hW.block q (by omega),g3.block q (by omega) (by intro e;injection e with e;omega)];exact i5.out q h2))
   have i8:=qwk (fun g hg=>(a8.out g hg).2);have b9:c<w3.heap.size:=by omega
   have c0:P<c:=by omega
   rw[<-S] at c4 H;have Q:∃CS,CS=(recs zxy X++List.replicate (G.length-k) (Value.slice none 0 0)).toArray.setIfInBounds k (.slice (some ⟨c,0,none⟩) D.length D.length):=⟨_,rfl⟩;obtain⟨CS,Q⟩:=Q;rw[<-Q] at H;have l1:CS[k]? =some (.slice (some ⟨c,0,none⟩) D.length D.length):=by rw[Q,qv7 (by rw[zh6 (fun _=>rfl),N.out];omega)]
   have m5:=qwk Q;have i4:=qwk l1;obtain⟨z0,z1⟩:=zb3 g2;have l:=qwk (qtc b9 c0);clear S Q l1 h0 BM g1 k4 i5 a8 g3 z2 z3 f9 o9 l8 g2 c1 b9 c0;generalize wr=w0 at*;go_wp2_with fail
   clear z0 z1;go_loopw [5,35] (fun a i wr=>∃(j n:Nat) (Y:List zjv),j<=D.length/\i= .int .i64 (j:Int)/\a= .int .i64 (n:Int)/\Hid (n=V k j 0)/\Hid (Y.map rwP=Gk.take j)/\Hid (Y.length=j)/\Blk wr c 22 (recs zri Y++List.replicate (D.length-j) (Value.slice none 0 0)).toArray/\Hid (∀r∈Y,RowBAt wr c r/\r.2.1=r.2.2.length/\ ∀d∈r.2.2,PieceOf A w d)/\Below c w3 wr) (fun _ i _=>D.length-(intOf i).toNat)
   case atStart=>exact⟨0,n,[],qq1 _,rfl,rfl,HN,qwk rfl,qwk rfl,by simpa[recs] using c4,qwk (by simp),qwd _ _⟩
   case round=>
    clear HN;obtain⟨j,n,Y,hj,rfl,rfl,HN,HY,B,BM,O,bm⟩:=hrel;clear c4;have E:New w wr:=qwn a6 (qwo bm (by have:=a6.size;have:=l.out;have:=a2.out;omega));by_cases T:j<D.length
    ·obtain⟨ac,rfl,b6,e0⟩:=(qxj i3.out E).ch1 T
     have m0:=zah chZ T;have f8:=i6.out _ m0;have a4:=a5.out j T;have a3:=b3.out j T;have M:=a1.out j T;clear b6 m0;generalize D.getD j chZ=x at*;obtain⟨Ax,cx,o⟩:=x;dsimp only at e0 f8 a4 a3 M;obtain⟨Gj,e6⟩:∃Gj,Gj=Gk.getD j []:=⟨_,rfl⟩;rw[<-e6] at a4 M;have m8:=qwk e6;have a4:=qwk a4;have q7:=a3.2;have a3:=qwk a3.1;have M:=qwk M;have n5:=qwk f8.1;have c9:wr.cell? ⟨P,k,none⟩=some (.slice (some ⟨c,0,none⟩) D.length D.length):=by rw[(H.below bm l.out.2).cell,i4.out]
     have l6:=BM.lt;have F:=qwk (fun(W:World) (hW:Far c wr.drew W)=>show W.cell? ⟨P,k,none⟩=some (.slice (some ⟨c,0,none⟩) D.length D.length) by rw[World.cell?_of_block (hW.block P (by have:=(H.below bm l.out.2).lt;exact this) (by intro e;injection e with e;have:=l.out.2;omega))];exact c9)
     have p6:(k:Int)<(G.length:Int):=by omega
     have p0:(j:Int)<(D.length:Int):=by omega
     clear f8 e6 c9;go_wp2_with fail
     refine zav (Far c) [(true,0),(true,1),(true,2),(true,3),(true,4),(true,5),(true,6),(false,7),(true,8),(false,9)]
      (qw7 c) qw8 (by kernel_rfl) (by kernel_rfl) (by kernel_rfl) (by kernel_rfl) ?_
     repeat(refine zas rfl rfl (v:=?_) (fun W hQ=>?_) ?_;rotate_left;(have c9:=F.out W hQ;go_simp<;> with_reducible rfl);simp only[Act.put,qta,qs1,qtb])
     refine za7 rfl rfl (fun K hK=>?_);refine qbs qp5 (.tmp 46) (.tmp 46) rfl o.length rfl rfl rfl rfl rfl (by omega) (by simp only[maxLen];omega) ?_;intro w5 BN b5 z5;refine hK _ _ (qw9 b5) ?_;clear hK;simp only[Act.put,qta,qs1,qtb];have f5:Far c wr.drew w5:=qw9 b5;refine zas rfl rfl (v:=?_) (fun W hQ=>?_) ?_;rotate_left;(have c9:=F.out W (f5.trans hQ);go_simp<;> with_reducible rfl);simp only[Act.put,qta,qs1,qtb];refine za7 rfl rfl (fun K hK=>?_);have g4:=BM.drew.below b5 BM.lt;have BN:Blk w5 wr.heap.size 24 (List.replicate o.length (Value.slice none 0 0)).toArray:=BN;have z5:w5.heap.size=wr.heap.size+1:=z5;refine zm2 22 (.tmp 48) (.tmp 47) rfl c j (.slice (some ⟨wr.heap.size,0,none⟩) o.length o.length) rfl rfl g4 (by rw[zh6 (fun _=>rfl),B.out];omega) (by kernel_rfl) rfl ?_;intro w6 a0 g6 z6;refine hK _ _ g6 ?_;clear hK F;refine zdr ?_;obtain⟨s,f2⟩:∃s,s=wr.heap.size:=⟨_,rfl⟩;have c6:=BN.grown g6 (by intro e;injection e with e;omega);have f6:=f5.trans g6;have h6:=(H.below bm l.out.2).drew.grown f6 (by intro e;injection e with e;have:=l.out.2;omega);have k2:Below c w3 w6:=zbg bm.drew f6 (qq0 _) (by have:=l.out.1;omega);have R:∃DS,DS=(recs zri Y++List.replicate (D.length-j) (Value.slice none 0 0)).toArray.setIfInBounds j (.slice (some ⟨s,0,none⟩) o.length o.length):=⟨_,rfl⟩;obtain⟨DS,R⟩:=R;rw[<-f2] at a0 c6;rw[<-R] at a0;have l2:DS[j]? =some (.slice (some ⟨s,0,none⟩) o.length o.length):=by rw[R,qv7 (by rw[zh6 (fun _=>rfl),B.out];omega)]
     have m6:=qwk R;have m7:=qwk l2;have j4:=qwk (fun(W:World) (hW:Below s w6 W) (r:zjv) (y:r∈Y)=>(O.out r y).1.mv (hi:=s) (by omega) (fun q h1 h2=>by rw[hW.block q h2];exact f6.block q (by rw[f2] at h2;exact h2) (by intro e;injection e with e;omega)))
     have j5:=qwk (fun r y=>(O.out r y).2);have t:=qwk (show c<s/\w6.heap.size=s+1 by omega);have o4:New w w6:=qwn a6 (qwo k2 (by have:=a6.size;have:=l.out;have:=a2.out;omega));clear f2 R l2 BN g4 b5 f5 f6 BM O z5 z6 g6 bm E l6;clear e0;generalize wr=w8 at*;go_wp2_with fail
     go_loopw [5,51] (fun a i wr=>∃(q n:Nat) (Z:List zju),q<=o.length/\i= .int .i64 (q:Int)/\a= .int .i64 (n:Int)/\Hid (n=V k j q)/\Hid (Z.map byP=Gj.take q)/\Hid (Z.length=q)/\Blk wr s 24 (recs zjb Z++List.replicate (o.length-q) (Value.slice none 0 0)).toArray/\Hid (∀d∈Z,PieceOf A w d)/\Below s w6 wr) (fun _ i _=>o.length-(intOf i).toNat)
     case atStart=>exact⟨0,n,[],qq1 _,rfl,rfl,HN,qwk rfl,qwk rfl,by simpa[recs] using c6,qwk (by simp),qwd _ _⟩
     case round=>
      clear HN;obtain⟨q,n,Z,hq,rfl,rfl,HN,HZ,C,BN,a9,bc⟩:=hrel;clear c6;by_cases f3:q<o.length
      ·have p8:w.heap.size<s:=by have:=l.out;have:=a2.out;have:=t.out;omega
       have E:New w wr:=qwn o4 (qwo bc (by omega));obtain⟨ap,rfl,o7,d0,d1,d2,d3,d4,d5,d6,d7,d8,d9,k5,k6,k7,k8⟩:=(qxj n5.out E).page14 f3;obtain⟨⟨s0,s1⟩,v2,v3,v4⟩:=a4.out q f3;generalize o.getD q zby=p at*;obtain⟨sz,rw,nn,bb,⟨p1,p2,p3,p4,p5⟩,⟨q1,q2,q3,q4,q5⟩⟩:=p;dsimp only at d0 d1 d2 d3 d4 d5 d6 d7 d8 d9 k5 k6 k7 k8 s0 s1 v2 v4;obtain⟨sn,rfl⟩:=qsu s0;simp only[qrn] at v2 v4;have hn:=HN.out;rw[<-hn] at v2 v4;have p7:n+sn<=b.length:=by omega
       have H2:=qwk v2;have H4:=qwk v4;obtain⟨b7,b8,l4⟩:=h9.out;have S1:∀W,(Instr.sliceAt 24 (.slice A b.length cb) (some (.int .i64 (n:Int))) (some (.int .i64 ((n:Int)+(sn:Int)))) none).run Tryz.prog W= .ok (.slice (if cb=n then A else A.map (·.add (n*1))) sn (cb-n)) W:=fun W=>by have:=zh7 qlu qlv A b.length cb n (n+sn) (by omega) (by omega) W;rwa[show((n+sn:Nat):Int)=(n:Int)+(sn:Int) by omega,show n+sn-n=sn by omega] at this
       have U:((b.drop n).take sn).length=sn:=by rw[qqx,qqw];omega
       have PI:PieceOf A w ((if cb=n then A else A.map (·.add (n*1))),cb-n,(b.drop n).take sn):=by refine⟨⟨?_,by dsimp only;rw[U];omega,by dsimp only;omega⟩,qbt⟩;unfold BytIn;dsimp only;rw[U];have:=(HR.out.cut (k:=n) (cap:=cb) (by omega) b8).take (k:=sn) (by omega);simpa only[qq7,zeq,zfa] using this
       generalize(if cb=n then A else A.map (·.add (n*1)))=A2 at*;generalize cb-n=c2 at*;have PI:=qwk PI;have S1:=qwk S1;have U:=qwk U;have q6:(n:Int)+(sn:Int)<=140737488351232:=by omega
       have p9:=qwk (show IntKind.i64.wrap ((n:Int)+(sn:Int))=(n:Int)+(sn:Int) by rw[qwr];omega);have ha:New wr (wr.alloc (.cells #[.int .i64 (sn:Int),.int .i64 rw,.int .i64 nn,.bool bb,.bool p1,.int .i64 p2,.string (zaf p3),.int .i64 p4,.int .i64 p5,.bool q1,.int .i64 q2,.string (zaf q3),.int .i64 q4,.int .i64 q5] 135)):=(qwd _ _).alloc (qq0 _) _;have BP:=qw1 wr 135 #[.int .i64 (sn:Int),.int .i64 rw,.int .i64 nn,.bool bb,.bool p1,.int .i64 p2,.string (zaf p3),.int .i64 p4,.int .i64 p5,.bool q1,.int .i64 q2,.string (zaf q3),.int .i64 q4,.int .i64 q5];obtain⟨wb,g0⟩:∃wb,wb=wr.alloc (.cells #[.int .i64 (sn:Int),.int .i64 rw,.int .i64 nn,.bool bb,.bool p1,.int .i64 p2,.string (zaf p3),.int .i64 p4,.int .i64 p5,.bool q1,.int .i64 q2,.string (zaf q3),.int .i64 q4,.int .i64 q5] 135):=⟨_,rfl⟩;rw[<-g0] at ha BP;have g8:=BN.below ha BN.lt;have l9:=ha.size;have q0:=BN.lt;have e2:=(h6.below bc (by have:=l.out;have:=t.out;omega)).below ha (by have:=l.out;have:=t.out;omega);have c5:=(a0.below bc (by have:=t.out;omega)).below ha (by have:=t.out;omega);have c9:wb.cell? ⟨P,k,none⟩=some (.slice (some ⟨c,0,none⟩) D.length D.length):=by rw[e2.cell,i4.out]
       have c8:wb.cell? ⟨c,j,none⟩=some (.slice (some ⟨s,0,none⟩) o.length o.length):=by rw[c5.cell,m7.out]
       have c7:=(zec BP).1;have F:=qwk (fun(W:World) (hW:Far s wb.drew W)=>show W.cell? ⟨P,k,none⟩=some (.slice (some ⟨c,0,none⟩) D.length D.length)/\W.cell? ⟨c,j,none⟩=some (.slice (some ⟨s,0,none⟩) o.length o.length)/\W.cell? ⟨wr.heap.size,0,none⟩=some (.int .i64 (sn:Int)) by
        refine⟨?_,?_,?_⟩
        ·rw[World.cell?_of_block (hW.block P e2.lt (by intro e;injection e with e;have:=l.out;have:=t.out;omega))];exact c9
        ·rw[World.cell?_of_block (hW.block c c5.lt (by intro e;injection e with e;have:=t.out;omega))];exact c8
        ·rw[World.cell?_of_block (hW.block wr.heap.size BP.lt (by intro e;injection e with e;omega))];exact c7)
       have p6:(k:Int)<(G.length:Int):=by omega
       have p0:(j:Int)<(D.length:Int):=by omega
       have q8:(q:Int)<(o.length:Int):=by omega
       have n9:=qwk g0;have BC:=qwk (show Below s w6 wb from qwn bc (qwo ha (by omega)));clear v2 v3 v4 o7 hn p7 b7 b8 l4 e2 c5 c9 c8 c7 g0 bc E p8 s0 s1 l9 ha h9;go_wp2_with fail
       rw[<-n9.out];refine zav (Far s) [(true,0),(true,1),(true,2),(true,3),(true,4),(true,5),(true,6),(true,7),(true,8),(true,9),(true,10),(true,11),(true,12),(true,13),(true,14),(true,15),(false,16)]
        (qw7 s) qw8 (by kernel_rfl) (by kernel_rfl) (by kernel_rfl) (by kernel_rfl) ?_
       repeat(refine zas rfl rfl (v:=?_) (fun W hQ=>?_) ?_;rotate_left;(obtain⟨c9,c8,c7⟩:=F.out W hQ;have S2:=S1.out W;have q9:=p9.out;go_simp<;> with_reducible rfl);simp only[Act.put,qta,qs1,qtb])
       refine za7 rfl rfl (fun K hK=>?_);refine zm2 24 (.tmp 71) (.tmp 70) rfl s q (.slice A2 sn c2) rfl rfl g8.drew (by rw[zh6 (fun _=>rfl),C.out];omega) (by kernel_rfl) rfl ?_;intro w9 g7 g9 z9;refine hK _ _ g9 ?_;clear hK F;refine zdr ?_;have g9:wb.grownBy w9 (some s):=qw8 (Far.drew s wb) g9;have h8:=BP.grown g9 (by intro e;injection e with e;omega);obtain⟨c7,-⟩:=zec h8;rw[show o.length-q=(o.length-(q+1))+1 by omega,zrj (f:=zjb) (fun _=>rfl) Z (A2,c2,(b.drop n).take sn) q _ C.out (show zjb (A2,c2,(b.drop n).take sn)=[.slice A2 sn c2] by unfold zjb;dsimp only;rw[U.out])] at g7;have m1:=qwk (zbg BC.out g9 (qq0 _) (by have:=t.out;omega));have o3:=qwk (show(Z++[(A2,c2,(b.drop n).take sn)]).map byP=Gj.take (q+1) by rw[que,HZ.out,zac Gj q [] (by rw[M.out];exact f3),H4.out];rfl)
       have j9:=qwk (show(Z++[(A2,c2,(b.drop n).take sn)]).length=q+1 by rw[qrp,C.out];rfl);have j8:Hid (∀d∈Z++[(A2,c2,(b.drop n).take sn)],PieceOf A w d):=qwk (by
        intro d hd;rcases qr5.1 hd with hd|hd
        ·exact a9.out d hd
        ·obtain rfl:=qr6.1 hd
         exact PI.out)
       generalize Z++[(A2,c2,(b.drop n).take sn)]=Z2 at*;have n4:=qwk (show n+sn=V k j (q+1) from H2.out.symm);clear HZ C a9 PI U H2 H4 BC BP h8 BN g8 S1 HN g9 z9 d0 d1 d2 d3 d4 d5 d6 d7 d8 d9 k5 k6 k7 k8;go_wp2_with fail
       go_roundw
       case rel=>exact⟨q+1,n+sn,Z2,by omega,by go_num,by go_num,n4,o3,j9,g7,j8,m1.out⟩
       case measure=>simp[intOf];omega
      ·obtain rfl:q=o.length:=by omega
       have g5:=a0.below bc (by have:=t.out;omega);rw[m6.out,show D.length-j=(D.length-(j+1))+1 by omega,zrj (f:=zri) (fun _=>rfl) Y (some ⟨s,0,none⟩,o.length,Z) j _ B.out (show zri (some ⟨s,0,none⟩,o.length,Z)=[.slice (some ⟨s,0,none⟩) o.length o.length] by unfold zri;dsimp only;rw[C.out])] at g5;have f0:=HZ.out;rw[qru (by rw[M.out];exact qq0 _)] at f0;have o2:=qwk (show(Y++[((some ⟨s,0,none⟩,o.length,Z):zjv)]).map rwP=Gk.take (j+1) by rw[que,HY.out,zac Gk j [] (by rw[J.out];exact T),<-m8.out,<-f0];rfl)
       have j7:=qwk (show(Y++[((some ⟨s,0,none⟩,o.length,Z):zjv)]).length=j+1 by rw[qrp,B.out];rfl);rw[qsz,qup,qra] at BN;have j6:Hid (∀r∈Y++[((some ⟨s,0,none⟩,o.length,Z):zjv)],RowBAt wr c r/\r.2.1=r.2.2.length/\ ∀d∈r.2.2,PieceOf A w d):=qwk (by
        intro r y;rcases qr5.1 y with y|y
        ·exact⟨j4.out wr bc r y,j5.out r y⟩
        ·obtain rfl:=qr6.1 y
         exact⟨⟨s,t.out.1,rfl,C.out.symm,BN⟩,C.out.symm,a9.out⟩)
       have m2:=qwk (show Below c w3 wr from qwn k2 (qwo bc (by have:=t.out;omega)));have e3:=qwk (show n=V k (j+1) 0 by rw[HN.out,a3.out]);generalize Y++[((some ⟨s,0,none⟩,o.length,Z):zjv)]=Y2 at*;clear HZ C a9 f0 BN a0 h6 bc HN HY B j4 j5;go_wp2_with fail
       go_roundw
       case rel=>exact⟨j+1,n,Y2,by omega,by go_num,rfl,e3,o2,j7,g5,j6,m2.out⟩
       case measure=>simp[intOf];omega
    ·obtain rfl:j=D.length:=by omega
     have h7:=H.below bm l.out.2;rw[m5.out,show G.length-k=(G.length-(k+1))+1 by omega,zrj (f:=zxy) (fun _=>rfl) X (some ⟨c,0,none⟩,D.length,Y) k _ N.out (show zxy (some ⟨c,0,none⟩,D.length,Y)=[.slice (some ⟨c,0,none⟩) D.length D.length] by unfold zxy;dsimp only;rw[B.out])] at h7;have e9:=HY.out;rw[qru (by rw[J.out];exact qq0 _)] at e9;have o1:=qwk (show(X++[((some ⟨c,0,none⟩,D.length,Y):zny)]).map gpP=CG.take (k+1) by rw[que,HX.out,zac CG k [] (by rw[i0.out];exact u),<-m9.out,<-e9];rfl)
     have j0:=qwk (show(X++[((some ⟨c,0,none⟩,D.length,Y):zny)]).length=k+1 by rw[qrp,N.out];rfl);rw[qsz,qup,qra] at BM;have i9:Hid (∀g∈X++[((some ⟨c,0,none⟩,D.length,Y):zny)],RowRAt wr P g/\ ∀r∈g.2.2,r.2.1=r.2.2.length/\ ∀d∈r.2.2,PieceOf A w d):=qwk (by
      intro g hg;rcases qr5.1 hg with hg|hg
      ·exact⟨i7.out wr bm g hg,i8.out g hg⟩
      ·obtain rfl:=qr6.1 hg
       exact⟨⟨c,l.out.2,rfl,B.out.symm,BM,fun r y=>(O.out r y).1⟩,fun r y=>(O.out r y).2⟩)
     have e3:=qwk (show n=V (k+1) 0 0 by rw[HN.out,k0.out]);have E:=qwk E;generalize X++[((some ⟨c,0,none⟩,D.length,Y):zny)]=X2 at*;clear HX N i7 i8 e9 BM H bm HN HY B O a6;go_wp2_with fail
     go_roundw
     case rel=>exact⟨k+1,n,X2,by omega,by go_num,rfl,e3,o1,j0,h7,i9,E.out⟩
     case measure=>simp[intOf];omega
  ·obtain rfl:k=G.length:=by omega
   have e8:=HX.out;rw[qru (by rw[i0.out];exact qq0 _)] at e8;rw[qsz,qup,qra] at BO;have o0:=qwk e8;have BO:=qwk BO;have bw:=qwk bw;clear e8;go_wp2_with fail
   go_ret
   have o6:=N.out;have c1:=a2.out;refine⟨some ⟨P,0,none⟩,X,by rw[o6];rfl,bw.out,⟨?_,fun ad h=>by injection h with h;subst h;show w.heap.size<=P;omega⟩,fun g hg=>?_,o0.out⟩
   ·exact zhl BO.out (by rw[zaw (sz:=1) (fun _=>rfl),qq7])
   ·obtain⟨h1,h2⟩:=a8.out g hg
    obtain⟨h3,h4⟩:=h1.inn;obtain⟨kg,j1,j2,h5,_,j3⟩:=h1;refine⟨h5,⟨h3,fun ad h=>?_⟩,fun r y=>⟨(h2 r y).1,⟨h4 r y,fun ad h=>?_⟩,fun d hd=>((h2 r y).2 d hd).later bw.out⟩⟩
    ·rw[j2] at h;injection h with h;subst h;show w.heap.size<=kg;omega
    ·obtain⟨kr,i1,i2,_⟩:=j3 r y
     rw[i2] at h;injection h with h;subst h;show w.heap.size<=kr;omega
end Go.Proofs.Y
