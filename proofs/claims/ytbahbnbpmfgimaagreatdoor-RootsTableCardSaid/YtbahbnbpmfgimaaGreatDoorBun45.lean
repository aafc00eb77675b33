import Derived.Test.YtbahbnbpmfgimaaGreatDoorBun43
set_option maxHeartbeats 2000000
set_option maxRecDepth 100000
namespace Go.Proofs.Y
open Go.RowKit Go.Hm
theorem qn2:Tryz.prog.underlying 76=some (.slice (Tryz.prog.elem 76)):=by kernel_rfl
theorem qn3(w:World):(sizeOf (Tryz.prog.elem 76)).run Tryz.prog w= .ok 5 w:=by kernel_rfl
theorem qlw:ElT Tryz.prog 22 24 (.slice none 0 0) 1 24:=⟨by kernel_rfl,by kernel_rfl,rfl,by omega⟩
theorem TR.rowK{w w':World}{e d:TypeId}{A:Option Addr}{n n' sz base:Nat}{xs q:List Value}{v:Value}(h:TR w e A n xs)(o:w.ownsRow base d sz v n' q)(m:w.grownBy w' v.ownBlock)(c:e≠d):TR w' e A n xs:=by
 rcases qrg n with a|a
 ·subst a
  exact⟨⟨h.1.1,fun b=>absurd b (by omega)⟩,fun b=>absurd b (by omega)⟩
 ·refine h.grown m (fun g k l p i=>?_)
  obtain⟨r,f⟩:=h.2 a g l;rw[i] at f;exact zat o f (fun j=>c j.symm) p
abbrev qxu:=@TR.rowK
theorem qcr{w0 w:World}{base g:Nat}{T:WrT}{V:Value}{F:List (List Nat)}{z:Int}{c a b:Nat}(I:WrIn w0 T)(hn:New w0 w)(hw:WrOf w base g T V F z)(i3:w0.heap.size<=base)(i4:base<=w.heap.size)(hg:w0.heap.size<=g)
 (hz:0<=z/\z<=1073741824)(hc:c<T.L.length)(i1:a<=b)(k7:(b:Int)<=T.r)(i5:(F.length:Int)<=z):
 Calls Tryz.prog 86 #[.pointer (some ⟨g,0,none⟩),.int .i64 (c:Int),.agg #[.int .i64 (a:Int),.int .i64 (b:Int)]] w (qcq T c ((a:Int),(b:Int)) w0 base g F z w):=by
 obtain⟨O,Q⟩:=hw;have a8:T.D.getD c dZ∈T.D:=zah dZ (by rw[I.len];exact hc);have l7:=I.all _ a8;obtain⟨rd,f5,b9,f4,_⟩:=I.tab.within _ a8;have c0:=I.data _ a8;have R:=I.right c hc;have l:zak T.dat c ((a:Int),(b:Int))=((T.D.getD c dZ).2.2.drop a).take (b-a):=by unfold zak WrT.dat;rw[zbm (fun d:zdw=>d.2.2) T.D dZ [] (by rw[I.len];exact hc)];dsimp only;rw[show((b:Int)-(a:Int)).toNat=b-a by omega,qrn]
 obtain⟨X,hX⟩:∃X,X=pgW T.L T.E T.dat c (some (F,z)) ((a:Int),(b:Int)):=⟨_,rfl⟩;have d8:zg1 T.L T.E T.dat c ((a:Int),(b:Int))=pgE (T.L.getD c zeo).2.1 (T.L.getD c zeo).2.2 (T.E.getD c 0) (((T.D.getD c dZ).2.2.drop a).take (b-a)):=by unfold zg1;rw[l]
 have hI:zcw T.L T.E T.dat c ((a:Int),(b:Int))=(((pgE (T.L.getD c zeo).2.1 (T.L.getD c zeo).2.2 (T.E.getD c 0) (((T.D.getD c dZ).2.2.drop a).take (b-a))).2.length:Int),((((T.D.getD c dZ).2.2.drop a).take (b-a)).length:Int),zm5 (T.L.getD c zeo).2.1 (((T.D.getD c dZ).2.2.drop a).take (b-a))):=by unfold zcw;rw[d8,l]
 unfold qcq;rw[<-hX,hI];unfold pgW at hX;dsimp only at hX;rw[d8] at hX;obtain⟨ac,j4,i2,f0,f1,f2⟩:=(qxj I.tab.cols hn).colT (i:=c) hc;obtain⟨ad,j5,b6,d0⟩:=(qxj I.tab.data hn).colD (i:=c) (by rw[I.len];exact hc);obtain⟨ae,j6,b8,e0⟩:=(qxj I.encs hn).int (i:=c) (by rw[I.elen];exact hc);have h9:=I.few;have i6:=I.len;have e2:=I.elen;have hr:=I.rows;clear I l d8 hI a8;obtain⟨Ac,cc,L,r,Ad,cd,D,gr,pr,Ae,ce,E⟩:=T;unfold wrC at O;dsimp only at*;subst j4 j5 j6;have l5:E.getD c 0=E.getD c 0:=rfl;generalize l6:E.getD c 0=en at*;generalize D.getD c dZ=d at*;generalize L.getD c ([],0,false)=j3 at*;obtain⟨dA,H,dl⟩:=d;obtain⟨nm,t,nu⟩:=j3;dsimp only at*;have k6:b<=dl.length:=by omega
 have h8:((dl.drop a).take (b-a)).length=b-a:=by rw[qqx,qqw];omega
 have S1:=qwk (fun(W:World)=>zh7 qn2 qn3 dA dl.length H a b i1 (by omega) W);have RP:Reads w0 w0.heap.size 5 (if H=a then dA else dA.map (·.add (a*5))) (b-a) (recs zay ((dl.drop a).take (b-a))):=by have h1:=rd.cut (k:=a) (cap:=H) (by omega) b9;rw[zpz (sz:=5) (fun _=>rfl) dl a (by omega)] at h1;have h2:=h1.take (k:=b-a) (by omega);rwa[zjd (sz:=5) (fun _=>rfl) _ (b-a) (by rw[qqw];omega)] at h2
 have a0:∀y∈(dl.drop a).take (b-a),y∈dl:=fun y U=>qte (qro U)
 generalize(if H=a then dA else dA.map (·.add (a*5)))=A2 at*;generalize H-a=c2 at*;generalize j7:(dl.drop a).take (b-a)=Cs at*;have a9:∀y∈Cs,CellFine y:=fun y U=>c0 y (a0 y U)
 have e3:∀y∈Cs,zad y t nu=true:=fun y U=>R y (a0 y U)
 have EN:=qwk (fun(W:World) (M:New w0 W)=>z05 (cn:=nm) (t:=t) (nu:=nu) (e:=en) (c:=c2) (qxj RP M) a9 (by omega));have SO:=qwk (fun(W:World) (M:New w0 W)=>qnt (t:=t) (c:=c2) (qxj RP M) (fun y U=>(by have:=znp (e3 y U);exact this)) (by omega));have SU:=qwk (fun s (hs:IsStat t Cs s)=>IsStat.uniq (fun y U=>zn1 (e3 y U)) (fun y U z hz=>(a9 y U).1.2 z hz) hs (zko t Cs));have h0:=qwk (fun k bb (he:pgE t nu en Cs=(k,bb))=>zvh (fun y U=>zkb (a9 y U)) he);generalize zm5 t Cs=sF at*;generalize pgE t nu en Cs=pg at*;obtain⟨pk,q⟩:=pg;have i7:=h0.out pk q rfl;generalize b-a=m at*;have HX:=qwk hX;have j0:=qwk h8;clear j7 a9 e3 a0 c0 R rd f5 RP hX h8 h0;obtain⟨J,a1⟩:∃J,J=(w.alloc (.cells #[.int .i64 (a:Int),.int .i64 (b:Int)] 111)).alloc (.cells #[.int .i64 0,.int .i64 0,.int .i64 0,.bool false,.bool false,.int .i64 0,.string ⟨#[]⟩,.int .i64 0,.int .i64 0,.bool false,.int .i64 0,.string ⟨#[]⟩,.int .i64 0,.int .i64 0] 135):=⟨_,rfl⟩;have n1:New w J:=by rw[a1];exact((qwd _ _).alloc (qq0 _) _).alloc (by simp) _
 have BS:Blk J w.heap.size 111 #[.int .i64 (a:Int),.int .i64 (b:Int)]:=by rw[a1];exact(qw1 _ _ _).alloc _
 have BZ:Blk J (w.heap.size+1) 135 #[.int .i64 0,.int .i64 0,.int .i64 0,.bool false,.bool false,.int .i64 0,.string ⟨#[]⟩,.int .i64 0,.int .i64 0,.bool false,.int .i64 0,.string ⟨#[]⟩,.int .i64 0,.int .i64 0]:=by rw[a1];have:=qw1 (w.alloc (.cells #[.int .i64 (a:Int),.int .i64 (b:Int)] 111)) 135 #[.int .i64 0,.int .i64 0,.int .i64 0,.bool false,.bool false,.int .i64 0,.string ⟨#[]⟩,.int .i64 0,.int .i64 0,.bool false,.int .i64 0,.string ⟨#[]⟩,.int .i64 0,.int .i64 0];rwa[qww] at this
 have BW:=O.below n1 O.lt;have CK:∀(x:Addr) (u:Value),x.block<w.heap.size->w.cell? x=some u->J.cell? x=some u:=fun x u hx hu=>(qwu n1 hx).trans hu
 have f:∀n,(ac.add n).block<w.heap.size:=fun n=>by rw[zam];exact i2
 have k0:=CK _ _ (f (c*3)) f0;have k1:=CK ⟨(ac.add (c*3)).block,(ac.add (c*3)).off+1,none⟩ _ (f (c*3)) f1;have k2:=CK ⟨(ac.add (c*3)).block,(ac.add (c*3)).off+2,none⟩ _ (f (c*3)) f2;have k3:=CK _ _ (by rw[zam];exact b6) d0;have k4:=CK _ _ (by rw[zam];exact b8) e0;have l3:=n1.size;have F:=qwk (fun(W:World) (M:Below J.heap.size J W)=>qtc (BW.below M BW.lt) (qtc (BS.below M BS.lt) (qtc ((qwu M (by have:=f (c*3);omega)).trans k0) (qtc ((qwu M (p:=⟨(ac.add (c*3)).block,(ac.add (c*3)).off+1,none⟩) (by have:=f (c*3);dsimp only;omega)).trans k1) (qtc ((qwu M (p:=⟨(ac.add (c*3)).block,(ac.add (c*3)).off+2,none⟩) (by have:=f (c*3);dsimp only;omega)).trans k2) (qtc ((qwu M (by rw[zam];omega)).trans k3) ((qwu M (by rw[zam];omega)).trans k4)))))));have j2:=qwk a1;have BZ:=qwk BZ;have BW:=qwk BW;have HP:=qwk Q;have e4:=qwk (qw5 hn n1);have N1:=qwk n1;have l1:(c:Int)<(L.length:Int):=by omega
 have k9:(c:Int)<(D.length:Int):=by omega
 have l0:(c:Int)<(E.length:Int):=by omega
 have S:=qwk (qtc i3 (qtc i4 hg));clear a1 n1 BS CK f k0 k1 k2 k3 k4 f0 f1 f2 d0 e0 i2 b6 b8 Q O hn i3 i4 hg;go_enter Tryz.func86,Tryz.ntmps86
 go_wp2_with fail
 rw[<-j2.out];refine zav (Below J.heap.size) [(true,0),(true,1),(true,2),(true,3),(true,4),(true,5),(true,6),(true,7),(true,8),(true,9),(true,10),(true,11),(true,12),(true,13),(true,14),(true,15),(true,16),(true,17),(true,18),(true,19),(true,20),(false,21),(false,22),(true,23)]
  (qwd _) qwn (by kernel_rfl) (by kernel_rfl) (by kernel_rfl) (by kernel_rfl) ?_
 obtain⟨wq,b0⟩:∃wq,wq=J.drew:=⟨_,rfl⟩;have hU:Below J.heap.size J wq:=by rw[b0];exact(qwd _ _).drew
 have a4:=qwk (show wq.heap.size=J.heap.size by rw[b0];rfl);rw[<-b0];clear b0;iterate 21 (refine zas rfl rfl (v:=?_) (fun W hQ=>?_) ?_;rotate_left;(obtain⟨F1,F2,g0,g1,g2,g3,g4⟩:=F.out W (qwn hU hQ);obtain⟨x0,x1,x2,x3,x4,x5,x6,x7⟩:=ze2 F1;obtain⟨y0,y1⟩:=zb3 F2;have S2:=S1.out W;clear F1 F2;go_simp<;> with_reducible rfl);simp only[Act.put,qta,qs1,qtb])
 refine za7 rfl rfl (fun K hK=>?_);go_simp
 have ha:Below J.heap.size wq (wq.alloc (.cells #[.string ⟨#[]⟩,.int .i64 0,.bool false] 71)):=(qwd _ _).alloc (qvf a4.out.symm) _;refine hK _ _ ha ?_;clear hK;have f8:=qw1 wq 71 #[.string ⟨#[]⟩,.int .i64 0,.bool false];refine za7 rfl rfl (fun K hK=>?_);refine zm8 71 (.tmp 8) (.tmp 19) rfl wq.heap.size #[.string (zaf nm),.int .i64 t,.bool nu] rfl rfl f8 (by kernel_rfl) (by simp) (by simp[Value.oneCell']) ?_;intro w2 BC G2;refine hK _ _ (zbg (qwd _ _) G2 (qvf a4.out.symm) (by have:=a4.out;simp;omega)) ?_;clear hK;simp only[Act.put];refine zas rfl rfl (v:=?_) (fun W hQ=>?_) ?_;rotate_left;(go_simp<;> with_reducible rfl);simp only[Act.put,qta,qs1,qtb];refine zdr ?_;have b2:New J w2:=zbg (qwn hU ha) G2 (qvf a4.out.symm) (qq0 _);have F2:=qwk (fun(W:World) (M:New w2 W)=>qtc (F.out W (qw5 b2 M)) (BC.below M BC.lt));have B2:=qwk b2;clear F f8 G2 hU ha;go_wp2_with fail
 refine zav New [(true,0),(true,1),(true,2),(true,3),(true,4),(true,5),(true,6),(true,7),(true,8),(true,9),(false,10),(true,11),(true,12),(true,13),(true,14),(true,15)]
  qw4 qw5 (by kernel_rfl) (by kernel_rfl) (by kernel_rfl) (by kernel_rfl) ?_
 iterate 10 (refine zas rfl rfl (v:=?_) (fun W hQ=>?_) ?_;rotate_left;(obtain⟨⟨F1,_,_,_,_,_,g4⟩,F3⟩:=F2.out W (qw5 (qw6 _) hQ);obtain⟨x0,x1,x2,x3,x4,x5,x6,x7⟩:=ze2 F1;obtain⟨y0,y1,y2⟩:=zan F3;clear F1 F3;go_simp<;> with_reducible rfl);simp only[Act.put,qta,qs1,qtb])
 refine za7 rfl rfl (fun K hK=>?_);go_simp
 (with_reducible refine(EN.out w2.drew (qw5 e4.out (qw5 b2 (qw6 _)))).mono ?_)
 rintro e w3 ⟨A3,m3,c3,rfl,o3,b3⟩;refine hK _ _ b3 ?_;clear hK;obtain rfl:m3=q.length:=by have:=o3.len;rwa[zaa] at this
 iterate 5 (refine zas rfl rfl (v:=?_) (fun W hQ=>?_) ?_;rotate_left;(go_simp<;> with_reducible rfl);simp only[Act.put,qta,qs1,qtb])
 refine zdr ?_;have d6:New w2 w3:=qw5 (qw6 _) b3;have Z:=qw5 b2 d6;have C:=BW.out.below Z BW.out.lt;have c7:=BZ.out.below Z BZ.out.lt;have c1:=BC.below d6 BC.lt;have i9:=qw5 e4.out Z;have Y:=qw5 N1.out Z;obtain⟨x0,x1,x2,x3,x4,x5,x6,x7⟩:=ze2 C;have d5:=qwk (qw3 o3);have k8:=Y.size;clear F2 BW BZ EN N1 e4 b3 b2 B2 BC Z d6 o3
 go_upto_region 4 with(refine zfh rfl 3 (.tmp 55) (.tmp 53) rfl g 7 (.int .i64 (z+(q.length:Int))) rfl rfl C (by simp) (by kernel_rfl) rfl ?_
                       intro w4 a2 g4 z4;simp only[qta,qs1,qtb] at a2)
 have c8:=c7.grown g4 (by intro e;injection e with e;exact qw2 c7 C (by decide) e);have f6:=c1.grown g4 (by intro e;injection e with e;exact qw2 c1 C (by decide) e);have b1:=zbg i9 g4 S.out.2.2 (qq0 _);have k4:KeepW w w4:=(qxt Y).trans (KeepW.of g4 C (.inl rfl));have a6:=qwk (show∀(A:Option Addr) (n:Nat) (xs:List Value),TR w3 5 A n xs->TR w4 5 A n xs from fun _ _ _ h=>h.keep g4 C (by decide));have d3:=qwk (show∀(v:Value) (n:Nat) (xs:List Value),w.ownsRow base 24 1 v n xs->w4.ownsRow base 24 1 v n xs from fun _ _ _ o=>qqi (zba o Y) g4 (.inr (zat (zba o Y) C (by decide))));have d4:=qwk (show∀(A:Option Addr) (n:Nat) (xs:List Value),TR w 5 A n xs->TR w3 5 A n xs from fun _ _ _ h=>h.below Y);clear x0 x1 x2 x3 x4 x5 x6 x7 c7 c1 i9 Y;have l4:=g4.size;clear g4 z4 C;obtain⟨x0,x1,x2,x3,x4,x5,x6,x7⟩:=ze2 a2;by_cases N:pk=0/\q.length<=268435456/\z+q.length<=1073741824
 ·obtain rfl:X=some (F++[q],z+(q.length:Int)):=by rw[HX.out,if_pos N]
  obtain⟨rfl,h2,h3⟩:=N;have h2:(q.length:Int)<=268435456:=by omega
  obtain⟨Av,cv,P,rfl,oP,d9,i0⟩:=HP.out;have o4:=d3.out _ _ _ oP;have T4:=qwk (fun d hd=>a6.out _ _ _ (d4.out _ _ _ (i0 d hd)));have h5:=qwk (a6.out _ _ _ d5.out);have j9:P.length<=1073741824:=by rw[<-d9,qtl] at i5;omega
  have j:=zxx P;have o4:Go.Hm.Own w4 base 24 (.slice Av P.length cv) (recs zjb P):=by unfold Go.Hm.Own;rw[j];exact o4
  have a7:base<=w4.heap.size:=by have:=S.out;omega
  have j1:=qwk d9;have NO:=qwk b1;have K4:=qwk k4;have g7:=qwk c8;have f9:=qwk f6;have l2:P.length+1<=1073741825:=by omega
  clear HX a6 d3 d4 HP d5 k4 b1 oP d9 i0 i5 l3 l4 k8 i7 l1 k9 l0 h9 i6 e2 hr k6 i1 k7 b9 f4 j9 c8 f6 hz;go_upto_region 6 with fail
  clear h2 h3;go_upto_region 7 with(first
   |(at_builtin;refine zk9 qlw rfl (.tmp 75) (.tmp 77) rfl (W:=w0) (B:=w0.heap.size) o4 rfl rfl NO.out S.out.1 a7 rfl (by rw[j];omega) (by rw[j];simp only[maxLen];omega) ?_
     intro A5 c5 w5 _ _ o5 g5 b5 z5 a5;rw[j] at o5⊢;have G:=a2.push o4 g5 (by decide))
   |(refine zfh rfl 22 (.tmp 80) (.tmp 78) rfl g 6 (.slice A5 (P.length+1) c5) rfl rfl G (by simp) (by kernel_rfl) rfl ?_
     intro w6 c6 g6 _;simp only[qta,qs1,qtb] at c6))
  have b4:w4.ownsRow base 24 1 (.slice Av P.length cv) P.length (recs zjb P):=by have h:=o4;unfold Go.Hm.Own at h;rwa[j] at h
  have T5:=qwk (fun d hd=>qxu (T4.out d hd) b4 g5 (by decide));have h6:=qwk (qxu h5.out b4 g5 (by decide));have d1:=qwk (g7.out.push o4 g5 (by decide));have c4:=qwk (f9.out.push o4 g5 (by decide));have K5:=qwk (K4.out.trans (KeepW.row b4 g5));have l8:=g5.size;replace b5:=qwk b5;replace o5:=qwk o5;clear g5 o4 a2 z5 a5 b4;have d2:=d1.out.grown g6 (by intro e;injection e with e;exact qw2 d1.out G (by decide) e);have f7:=c4.out.grown g6 (by intro e;injection e with e;exact qw2 c4.out G (by decide) e);have e5:=zbg b5.out g6 S.out.2.2 (qq0 _);have WO:WrOf w6 base g ⟨some ac,cc,L,r,some ad,cd,D,gr,pr,some ae,ce,E⟩ (.slice A5 (P.length+1) c5) (F++[q]) (z+(q.length:Int)):=by
   refine⟨c6,A5,c5,P++[(A3,c3,q)],by rw[qrp];rfl,?_,by rw[que,j1.out];rfl,fun d hd=>?_⟩
   ·have:=qqi (show w5.ownsRow base 24 1 (.slice A5 (P.length+1) c5) (P.length+1) (recs zjb P++[.slice A3 q.length c3]) by
     have h:=o5.out;unfold Go.Hm.Own at h;rwa[qrp,j] at h) g6 (.inr (fun e=>by obtain⟨cs,hc⟩:=Own.row o5.out _ e;exact qw2 hc G (by decide) rfl))
    rw[zbe,qrp];exact this
   ·rcases qr5.1 hd with hd|hd
    ·exact(T5.out d hd).keep g6 G (by decide)
    ·obtain rfl:=qr6.1 hd
     exact h6.out.keep g6 G (by decide)
  have K6:=K5.out.trans (KeepW.of g6 G (.inl rfl));have g9:=qwk WO;have g8:=qwk K6;have h4:=qwk (SO.out w6 e5);have N6:=qwk e5;obtain⟨y0,y1,y2⟩:=zan f7;clear WO K6 c6 g6 f7 e5 T5 h6 d1 c4 K5 b5 o5 SO G K4 g7 f9 T4 h5 NO j l2;go_wp2_with fail
  refine h4.out.mono ?_;rintro e w7 ⟨s,rfl,hs,b7⟩;obtain rfl:s=sF:=SU.out s hs;have a3:=d2.below b7 d2.lt;have HS:=qwk (qtc (g9.out.new b7) (qtc (g8.out.trans (qxt b7)) (qw5 N6.out b7)));clear h4 SU g9 g8 N6 hs b7 d2 y0 y1 y2;obtain⟨sn,sb,⟨p1,p2,p3,p4,p5⟩,⟨q1,q2,q3,q4,q5⟩⟩:=s;have h7:zcm (sn,sb,(p1,p2,p3,p4,p5),(q1,q2,q3,q4,q5))= .agg #[.int .i64 sn,.bool sb,.bool p1,.int .i64 p2,.string (zaf p3),.int .i64 p4,.int .i64 p5,.bool q1,.int .i64 q2,.string (zaf q3),.int .i64 q4,.int .i64 q5]:=rfl;rw[h7];clear h7
  go_wp2_with (refine zal rfl 135 (.tmp 6) (.tmp 89) rfl (w.heap.size+1) #[.int .i64 (q.length:Int),.int .i64 (m:Int),.int .i64 sn,.bool sb,.bool p1,.int .i64 p2,.string (zaf p3),.int .i64 p4,.int .i64 p5,.bool q1,.int .i64 q2,.string (zaf q3),.int .i64 q4,.int .i64 q5] rfl rfl a3 (by kernel_rfl) rfl (by simp[Value.oneCell']) ?_
               intro w8 BR G8;obtain⟨r0,r1,r2,r3,r4,r5,r6,r7,r8,r9,e6,e7,e8,f3⟩:=zec BR)
  obtain⟨h1,h2,h3⟩:=HS.out;refine bodyPost_ret (v:= .tuple #[zu5 ((q.length:Int),(m:Int),(sn,sb,(p1,p2,p3,p4,p5),(q1,q2,q3,q4,q5))),.bool true]) (by simp[results,Tryz.results86,go_sem,r0,r1,r2,r3,r4,r5,r6,r7,r8,r9,e6,e7,e8,f3,zu5,zh1,zci,zay]) rfl ⟨by rw[j0.out],⟨.slice A5 (P.length+1) c5,?_⟩,⟨qqs h2.1 G8.size,fun t' x d7 q1 q2 hb=>(h2.2 t' x d7 q1 q2 hb).grown G8 (by intro e;injection e with e;have:=hb.lt;omega)⟩,zbg h3 G8 (by have:=S.out;omega) (qq0 _)⟩;obtain⟨i8,A9,c9,P9,e9,o9,j8,k5⟩:=h1;exact⟨i8.grown G8 (by intro e;injection e with e;exact qw2 i8 a3 (by decide) e),A9,c9,P9,e9,qqi o9 G8 (.inr (zat o9 a3 (by decide))),j8,fun d hd=>(k5 d hd).keep G8 a3 (by decide)⟩
 ·obtain rfl:X=none:=by rw[HX.out,if_neg N]
  have NO:=qwk b1;have e1:(pk != 0)=true\/((pk != 0)=false/\(268435456:Int)<(q.length:Int))\/((pk != 0)=false/\(q.length:Int)<=268435456/\(1073741824:Int)<z+(q.length:Int)):=by
   by_cases h1:pk=0
   ·subst h1
    right;by_cases h2:q.length<=268435456
    ·right
     exact⟨rfl,by omega,by omega⟩
    ·left
     exact⟨rfl,by omega⟩
   ·left
    simpa using h1
  have K4:=qwk k4;clear N HX a6 d3 d4 SO SU HP d5 k4 b1;rcases e1 with q1|⟨q1,q2⟩|⟨q1,q2,q3⟩;all_goals
   go_wp2_with (refine zal rfl 135 (.tmp 6) (.tmp 70) rfl (w.heap.size+1) _ rfl rfl c8 (by kernel_rfl) rfl (by simp[Value.oneCell']) ?_
                intro w5 BR G5;obtain⟨r0,r1,r2,r3,r4,r5,r6,r7,r8,r9,e6,e7,e8,f3⟩:=zec BR)
   exact bodyPost_ret (v:= .tuple #[zu5 (0,0,zb4),.bool false]) (by simp[results,Tryz.results86,go_sem,r0,r1,r2,r3,r4,r5,r6,r7,r8,r9,e6,e7,e8,f3,zu5,zh1,zci,zay,zb4,zbb];rfl) rfl ⟨rfl,⟨qqs K4.out.1 G5.size,fun t' x d7 q1 q2 hb=>(K4.out.2 t' x d7 q1 q2 hb).grown G5 (by intro e;injection e with e;have:=hb.lt;omega)⟩,zbg NO.out G5 (by have:=S.out;omega) (qq0 _)⟩
theorem KeepW.far{w W a:World}{g:Nat}(h:KeepW w W)(k:W.grownBy a (some g))(i:w.heap.size<=g):KeepW w a:=
 ⟨qqs h.1 k.size,fun t x c d f b=>(h.2 t x c d f b).grown k (by intro e;injection e with e;have:=b.lt;omega)⟩
theorem KeepW.row2{w W c:World}{base n sz:Nat}{t:TypeId}{v:Value}{xs:List Value}(h:KeepW w W)(o:W.ownsRow base t sz v n xs)(d:W.grownBy c v.ownBlock)(j:w.heap.size<=base):KeepW w c:=
 ⟨qqs h.1 d.size,fun i x b f g a=>(h.2 i x b f g a).grown d (fun e=>by have:=(qqj o _ e.symm).1;have:=a.lt;omega)⟩
theorem KeepW.own{w W:World}{base n sz:Nat}{t:TypeId}{v:Value}{xs:List Value}(h:KeepW w W)(o:w.ownsRow base t sz v n xs)(e:t≠107)(f:t≠24):W.ownsRow base t sz v n xs:=by
 refine⟨o.1,?_⟩;rcases o.2 with i|⟨g,a,b,rfl,c,d,rest⟩
 ·exact .inl i
 ·exact .inr ⟨g,a,b,rfl,c,h.2 _ _ _ e f d,rest⟩
abbrev zGr:Array Value:= #[.int .i64 0,.slice none 0 0]
structure GrSt(w0:World)(B gt gcs rz:Nat)(rows:Int)(n:Nat)(As:Option Addr)(cs:Nat)(sp:List (Int × Int))(w:World)(D:List ChD):Prop where
 new:New w0 w
 tab:Blk w gt 114 #[.int .i64 rows,.slice (some ⟨gcs,0,none⟩) n n]
 data:Blk w gcs 136 (recs chV D).toArray
 rows:RowsAp 135 14 zh1 w B D
 res:Blk w rz 114 zGr
 spans:w.ownsRow B 111 2 (.slice As sp.length cs) sp.length (zdy sp)
theorem GrSt.later{f w w':World}{B d b e n:Nat}{rows:Int}{c:Option Addr}{cs:Nat}{sp:List (Int × Int)}{D:List ChD}(h:GrSt f B d b e rows n c cs sp w D)(a:New w w'):GrSt f B d b e rows n c cs sp w' D:=
 ⟨qw5 h.new a,h.tab.below a h.tab.lt,h.data.below a h.data.lt,h.rows.later a,h.res.below a h.res.lt,zba h.spans a⟩
theorem GrSt.keep{c w w':World}{B f a g n:Nat}{rows:Int}{e:Option Addr}{cs:Nat}{sp:List (Int × Int)}{D:List ChD}(h:GrSt c B f a g rows n e cs sp w D)(b:KeepW w w')(j:New c w'):GrSt c B f a g rows n e cs sp w' D:=
 ⟨j,b.2 _ _ _ (by decide) (by decide) h.tab,b.2 _ _ _ (by decide) (by decide) h.data,⟨fun d i=>b.own (h.rows.rows d i) (by decide) (by decide),h.rows.apart⟩,b.2 _ _ _ (by decide) (by decide) h.res,b.own h.spans (by decide) (by decide)⟩
theorem GrSt.put{p w w6 w7:World}{B t a x n j:Nat}{rows:Int}{r:Option Addr}{cs:Nat}{sp:List (Int × Int)}{D:List ChD}{d:ChD}(h:GrSt p B t a x rows n r cs sp w D)(u:j<D.length)(y:p.heap.size<=a)
 (z:New p w6)(A:w6.ownsRow B 135 14 (zn4 d) d.2.2.length (recs zh1 d.2.2))(m:w.grownBy w6 (zn4 (D.getD j (none,0,[]))).ownBlock)
 (q:(zn4 d).ownBlock=(zn4 (D.getD j (none,0,[]))).ownBlock\/ ∃g,(zn4 d).ownBlock=some g/\w.heap.size<=g)
 (i:Blk w7 a 136 ((recs chV D).toArray.setIfInBounds j (zn4 d)))(o:w6.grownBy w7 (some a)):GrSt p B t a x rows n r cs sp w7 (D.set j d):=by
 have c:=h.rows.at_ u;have b:=h.data.grown m (fun e=>zat c h.data (by decide) e.symm);have l:=h.tab.grown m (fun e=>zat c h.tab (by decide) e.symm);have k:=h.res.grown m (fun e=>zat c h.res (by decide) e.symm);have s:=qqi h.spans m (zem h.spans c (by decide));refine⟨zbg z o y (qq0 _),l.grown o (fun e=>by injection e with e;exact qw2 l b (by decide) e),?_,(h.rows.put u A m q).keepT b (by decide) o,k.grown o (fun e=>by injection e with e;exact qw2 k b (by decide) e),qqi s o (.inr (zat s b (by decide)))⟩;have e:=zro (f:=chV) (fun _=>rfl) D d j (v:=zn4 d) rfl;rw[e] at i;exact i
theorem WrOf.far{w w':World}{base g k:Nat}{t:TypeId}{cs:Array Value}{T:WrT}{V:Value}{F:List (List Nat)}{z:Int}(h:WrOf w base g T V F z)(i:w.grownBy w' (some k))(b:Blk w k t cs)(p:107≠t)(q:24≠t)(r:5≠t):WrOf w' base g T V F z:=by obtain⟨a,l,n,m,o,j,c,f⟩:=h;exact⟨a.grown i (by intro e;injection e with e;exact qw2 a b p e),l,n,m,o,qqi j i (.inr (zat j b q)),c,fun d s=>(f d s).keep i b r⟩
theorem WrOf.row{w w':World}{base g l n sz:Nat}{t:TypeId}{v:Value}{xs:List Value}{T:WrT}{V:Value}{F:List (List Nat)}{z:Int}(h:WrOf w base g T V F z)(o:w.ownsRow l t sz v n xs)(f:w.grownBy w' v.ownBlock)(q:107≠t)(r:24≠t)(s:5≠t):WrOf w' base g T V F z:=by obtain⟨a,j,m,k,p,i,b,c⟩:=h;exact⟨a.grown f (fun e=>zat o a q.symm e.symm),j,m,k,p,qqi i f (zem i o r),b,fun d u=>qxu (c d u) o f s⟩
def qct(T:WrT)(s:Int × Int)(w0:World)(base g:Nat)(S:List (List Nat) × Int)(w:World)(e:Ending)(w':World):Prop:=
 match grW T.L T.E T.dat T.pr (some S) s with
 |none=>e= .returned (.tuple #[.agg zGr,.bool false])/\New w0 w'
 |some x=>∃A D,e= .returned (.tuple #[.agg #[.int .i64 (s.2-s.1),.slice A D.length D.length],.bool true])/\D.map (·.2.2)=(zdb T.L T.E T.dat T.pr s).2/\ChOwn w' w.heap.size A D.length D/\(∃V',WrOf w' base g T V' x.1 x.2)/\KeepW w w'/\New w0 w'
end Go.Proofs.Y
