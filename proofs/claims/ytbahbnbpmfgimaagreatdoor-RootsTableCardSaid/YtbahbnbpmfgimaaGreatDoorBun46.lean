import Derived.Test.YtbahbnbpmfgimaaGreatDoorBun45
set_option maxHeartbeats 2000000
set_option maxRecDepth 100000
namespace Go.Proofs.Y
open Go.RowKit Go.Hm
theorem qn4:ElT Tryz.prog 112 136 (.slice none 0 0) 1 24:=⟨by kernel_rfl,by kernel_rfl,rfl,by omega⟩
theorem qpj:ElT Tryz.prog 136 135 (.agg #[.int .i64 0,.int .i64 0,.int .i64 0,.bool false,.bool false,.int .i64 0,.string ⟨#[]⟩,.int .i64 0,.int .i64 0,.bool false,.int .i64 0,.string ⟨#[]⟩,.int .i64 0,.int .i64 0]) 14 128:=⟨by kernel_rfl,by kernel_rfl,rfl,by omega⟩
theorem z64{w0 w:World}{base g:Nat}{T:WrT}{V:Value}{F:List (List Nat)}{z:Int}{a b:Nat}(HT:WrIn w0 T)(hn:New w0 w)(hw:WrOf w base g T V F z)(l0:w0.heap.size<=base)(c2:base<=w.heap.size)(hg:w0.heap.size<=g)
 (r4:a<=b)(l3:(b:Int)<=T.r)(hS:OkW (some (F,z))):
 Calls Tryz.prog 51 #[.pointer (some ⟨g,0,none⟩),.agg #[.int .i64 (a:Int),.int .i64 (b:Int)]] w (qct T ((a:Int),(b:Int)) w0 base g (F,z) w):=by
 have q6:=HT.few;have hr:=HT.rows;have p7:=HT.conf.2;obtain⟨X,hX⟩:∃X,X=grW T.L T.E T.dat T.pr (some (F,z)) ((a:Int),(b:Int)):=⟨_,rfl⟩;unfold qct;rw[<-hX];have HX:=qwk hX;have LC:=qwk (fun(W:World)=>z2z (a:Int) (b:Int) T.pr (by omega) (by omega) (by omega) W);have m3:=zml (a:Int) (b:Int) T.pr;obtain⟨p,c5⟩:∃p,p=zbl (a:Int) (b:Int) T.pr:=⟨_,rfl⟩;rw[<-c5] at LC m3;have j0:Hid (∀q,q<p.length-> ∃x y:Nat,p.getD q (0,0)=((x:Int),(y:Int))/\x<=y/\y<=b):=qwk (fun q hq=>by
  rw[c5] at hq⊢;unfold zbl at hq⊢;split at hq
  ·simp at hq
  ·rename_i hc
   rw[if_neg hc];rw[zgh] at hq;rw[zqz hq];have r8:=(zhc (show 0<T.pr.toNat by omega) q).1 hq;refine⟨_,_,rfl,?_,?_⟩
   ·rw[qsv]
    omega
   ·omega)
 have f6:=qwk c5;have BW:=hw.blk;unfold wrC at BW;obtain⟨A,b1⟩:∃A,A=(w.alloc (.cells #[.int .i64 (a:Int),.int .i64 (b:Int)] 111)).alloc (.cells zGr 114):=⟨_,rfl⟩;have n1:New w A:=by rw[b1];exact((qwd _ _).alloc (qq0 _) _).alloc (by simp) _
 have BS:Blk A w.heap.size 111 #[.int .i64 (a:Int),.int .i64 (b:Int)]:=by rw[b1];exact(qw1 _ _ _).alloc _
 have BZ:Blk A (w.heap.size+1) 114 zGr:=by rw[b1];have:=qw1 (w.alloc (.cells #[.int .i64 (a:Int),.int .i64 (b:Int)] 111)) 114 zGr;rwa[qww] at this
 have a5:=BW.below n1 BW.lt;have m8:=qw5 hn n1;have HW:=qwk (hw.new n1);have o0:=qwk HT;have s2:=n1.size;have HB:=qwk (qtc l0 (qtc c2 hg));have j2:=qwk b1;have i9:=qwk hS;have d5:IntKind.i64.wrap ((b:Int)-(a:Int))=(b:Int)-(a:Int):=by rw[qwr];omega
 have j1:=qwk d5;have n5:=qwk l3;have i7:=qwk n1;have n8:=qwk hn.size;clear HT hw hS hX c5 BW b1 l0 c2 hg hn d5 l3 n1 hr p7;obtain⟨wq,c7⟩:∃wq,wq=A.drew:=⟨_,rfl⟩;have hU:New A wq:=by rw[c7];exact qw6 _
 have n9:=qwk (show wq.heap.size=A.heap.size by rw[c7];rfl);have F1:=qwk (fun(W:World) (C:Below A.heap.size wq W)=>qtc (a5.below (qwn hU C) a5.lt) (BS.below (qwn hU C) BS.lt));have j9:=qwk c7;clear c7;go_enter Tryz.func51,Tryz.ntmps51
 go_upto_region 1 with fail
 go_cut [6] (fun v wx=>∃gt j:Nat,v= .pointer (some ⟨gt,0,none⟩)/\Hid (Blk wx gt 114 #[.int .i64 ((b:Int)-(a:Int)),.slice (some ⟨j,0,none⟩) T.L.length T.L.length])/\Hid (Blk wx j 136 (List.replicate T.L.length (Value.slice none 0 0)).toArray)/\Hid (A.heap.size<=gt/\A.heap.size<=j/\New A wx))
 case first=>
  rw[<-j2.out];refine zrq (Below A.heap.size) (.quiet 0 (.quiet 1 (.quiet 2 (.quiet 3 (.quiet 4 (.quiet 5 (.quiet 6 (.quiet 7 (.quiet 8 (.quiet 9 (.quiet 10 (.two 11 (.quiet 12 (.alone 13 (.alone 14 .done))) 13 (.alone 11 (.quiet 12 (.alone 14 .done)))))))))))))))
   (qwd _) qwn (by kernel_rfl) (by kernel_rfl) (by kernel_rfl) (by kernel_rfl) ?_
  rw[<-j9.out];iterate 11 (refine zlq rfl rfl (v:=?_) (fun W C=>?_) ?_;rotate_left;(obtain⟨g1,g2⟩:=F1.out W C;obtain⟨x0,x1,x2,x3,x4,x5,x6,x7⟩:=ze2 g1;obtain⟨y0,y1⟩:=zb3 g2;have r9:=j1.out;clear g1 g2;go_simp<;> with_reducible rfl);simp only[Act.put,qta,qs1,qtb])
  refine qcj ?_ ?_
  ·refine zkq rfl rfl (fun K l=>?_)
   refine qbs qn4 (.tmp 23) (.tmp 23) rfl T.L.length rfl rfl rfl rfl rfl (by omega) (by simp only[maxLen];omega) ?_;intro w2 BD b2 z2;refine l _ _ (qwo b2 hU.size) ?_;clear l;simp only[Act.put,qta,qs1,qtb];obtain⟨j,b0⟩:∃j,j=wq.heap.size:=⟨_,rfl⟩;have o:A.heap.size<=j:=by rw[b0];exact hU.size
   rw[<-b0] at BD⊢;clear b0 z2;have a9:=qw5 hU b2;refine zlq rfl rfl (v:=?_) (fun W C=>?_) ?_;rotate_left;(go_simp<;> with_reducible rfl);simp only[Act.put,qta,qs1,qtb];refine zi2 (zkq rfl rfl (fun K l=>?_));go_simp
   have ba:New w2 (w2.alloc (.cells zGr 114)):=(qwd _ _).alloc (qq0 _) _;have BT:=qw1 w2 114 zGr;have m:A.heap.size<=w2.heap.size:=a9.size;refine l _ _ (qwo ba m) ?_;clear l;refine zi2 (zkq rfl rfl (fun K l=>?_));refine zm8 114 (.tmp 6) (.tmp 25) rfl w2.heap.size _ rfl rfl BT (by kernel_rfl) (by simp) (by simp[Value.oneCell']) ?_;intro w3 b6 G3;refine l _ _ (zbg (qwd _ _) G3 m (by simp;omega)) ?_;clear l;refine zty ?_;go_wp2_with fail
   go_meet
   have g7:=BD.below ba BD.lt;exact⟨w2.heap.size,j,rfl,qwk b6,qwk (g7.grown G3 (by intro e;injection e with e;exact qw2 g7 BT (by decide) e)),qwk ⟨m,o,zbg (qw5 a9 ba) G3 m (qq0 _)⟩⟩
  ·refine zkq rfl rfl (fun K l=>?_)
   go_simp
   have ba:New wq (wq.alloc (.cells zGr 114)):=(qwd _ _).alloc (qq0 _) _;have BT:=qw1 wq 114 zGr;have m:A.heap.size<=wq.heap.size:=hU.size;refine l _ _ (qwo ba m) ?_;clear l;obtain⟨w2,m4⟩:∃w2,w2=wq.alloc (.cells zGr 114):=⟨_,rfl⟩;obtain⟨gt,k3⟩:∃gt,gt=wq.heap.size:=⟨_,rfl⟩;show zdj _ _ _ _ _ _ (wq.alloc (.cells zGr 114));rw[<-k3] at BT m⊢;rw[<-m4] at ba BT⊢;clear k3 m4;have a9:=qw5 hU ba;refine zi2 (zkq rfl rfl (fun K l=>?_));refine qbs qn4 (.tmp 23) (.tmp 23) rfl T.L.length rfl rfl rfl rfl rfl (by omega) (by simp only[maxLen];omega) ?_;intro w3 BD b3 z3;have o:A.heap.size<=w2.heap.size:=a9.size;refine l _ _ (qwo b3 o) ?_;clear l z3;simp only[Act.put,qta,qs1,qtb];refine zlq rfl rfl (v:=?_) (fun W C=>?_) ?_;rotate_left;(go_simp<;> with_reducible rfl);simp only[Act.put,qta,qs1,qtb];have b6:=BT.below b3 BT.lt;refine zi2 (zkq rfl rfl (fun K l=>?_));refine zm8 114 (.tmp 6) (.tmp 25) rfl gt _ rfl rfl b6 (by kernel_rfl) (by simp) (by simp[Value.oneCell']) ?_;intro w4 n2 G4;refine l _ _ (zbg (qwd _ _) G4 m (by have:=b3.size;omega)) ?_;clear l;refine zty ?_;go_wp2_with fail
   go_meet
   exact⟨gt,w2.heap.size,rfl,qwk n2,qwk (BD.grown G4 (by intro e;injection e with e;exact qw2 BD b6 (by decide) e)),qwk ⟨m,o,zbg (qw5 a9 b3) G4 m (qq0 _)⟩⟩
 case rest=>
  obtain⟨gt,j,rfl,f2,f1,HN⟩:=hcut;obtain⟨m,o,b3⟩:=HN.out;have m9:=qw5 m8 b3;have d9:=a5.below b3 a5.lt;have d8:=BS.below b3 BS.lt;have f0:=BZ.below b3 BZ.lt;have j4:=qwk (HW.out.new b3);have i2:=qwk (qxt (qw5 i7.out b3));have f4:=qwk (qtc m o);generalize o4:A.heap.size=B at*;have h0:=qwk (show w.heap.size+1<B by have:=BZ.lt;omega);generalize wc=w3 at*;have F2:=qwk (fun(W:World) (C:New w3 W)=>qtc (d9.below C d9.lt) (d8.below C d8.lt));have k4:B<=w3.heap.size:=by have:=b3.size;omega
  clear F1 hU n9 j9 HN m o b3 a5 BS BZ m8 HW d9 d8 o4 i7 j2;go_wp2_with fail
  refine zav New [(true,0),(true,1),(true,2),(true,3),(true,4),(true,5),(true,6),(true,7),(true,8),(false,9),(true,10)]
   qw4 qw5 (by kernel_rfl) (by kernel_rfl) (by kernel_rfl) (by kernel_rfl) ?_
  iterate 9 (refine zas rfl rfl (v:=?_) (fun W hQ=>?_) ?_;rotate_left;(obtain⟨g1,g2⟩:=F2.out W (qw5 (qw6 _) hQ);obtain⟨x0,x1,x2,x3,x4,x5,x6,x7⟩:=ze2 g1;obtain⟨y0,y1⟩:=zb3 g2;clear g1 g2;go_simp<;> with_reducible rfl);simp only[Act.put,qta,qs1,qtb])
  refine za7 rfl rfl (fun K l=>?_);go_simp
  refine(LC.out w3.drew).mono ?_;rintro e w5 ⟨As,ns,cs,rfl,oS,b5⟩;refine l _ _ b5 ?_;clear l;refine zas rfl rfl (v:=?_) (fun W hQ=>?_) ?_;rotate_left;(go_simp<;> with_reducible rfl);simp only[Act.put,qta,qs1,qtb];refine zdr ?_;obtain rfl:ns=p.length:=by have:=oS.1;rw[zg6] at this;omega
  have J:New w3 w5:=qw5 (qw6 _) b5;have a6:GrSt w0 B gt j (w.heap.size+1) ((b:Int)-(a:Int)) T.L.length As cs p w5 (List.replicate T.L.length (none,0,[])):=by
   refine⟨qw5 m9 J,f2.out.below J f2.out.lt,?_,RowsAp.nil,f0.below J f0.lt,zfd oS k4⟩;have e:recs chV (List.replicate T.L.length ((none,0,[]):ChD))=List.replicate T.L.length (Value.slice none 0 0):=by
    simp only[recs,List.flatMap_replicate];show(List.replicate T.L.length [Value.slice none 0 0]).flatten=_;induction T.L.length with
    |zero=>rfl
    |succ n ih=>rw[qs0,qvg,ih];rfl
   rw[e];exact f1.out.below J f1.out.lt
  have a6:=qwk a6;have j5:=qwk (j4.out.new J);have i3:=qwk (i2.out.trans (qxt J));obtain⟨x0,x1⟩:=zb3 a6.out.tab;clear F2 f2 f1 LC oS b5 J m9 j4 i2 f0 k4;go_wp2_with fail
  clear x0 x1;go_loopw [39] (fun i wr=>∃(c:Nat) (D:List ChD) (V:Value) (x:List (List Nat) × Int),c<=T.L.length/\i= .int .i64 (c:Int)/\Hid (GrSt w0 B gt j (w.heap.size+1) ((b:Int)-(a:Int)) T.L.length As cs p wr D)/\Hid (WrOf wr base g T V x.1 x.2)/\Hid (gpW T.L T.E T.dat T.pr ((a:Int),(b:Int)) (some (F,z)) c=some x)/\Hid (D.length=T.L.length/\ ∀i,i<T.L.length->(D.getD i chZ).2.2=if i<c then p.map (zcw T.L T.E T.dat i) else [])/\Hid (KeepW w wr)) (fun i _=>T.L.length-(intOf i).toNat)
  case atStart=>
   refine⟨0,List.replicate T.L.length (none,0,[]),V,(F,z),qq1 _,rfl,a6,j5,qwk rfl,qwk ⟨by rw[qtd],fun i hi=>?_⟩,i3⟩;rw[qsh,qv4,if_pos hi,if_neg (Nat.not_lt_zero _)];rfl
  case round=>
   clear a6 j5 i3;obtain⟨c,D,V,x,hc,rfl,ST,HW,HG,HD,HK⟩:=hrel;by_cases g4:c<T.L.length
   ·go_wp2_with fail
    generalize o5:D=Db at*;clear o5;have f3:=qwk (qcd (L:=T.L) (E:=T.E) (D:=T.dat) (pr:=T.pr) (s:=((a:Int),(b:Int))) i9.out c);go_loopw [44] (fun i wr=>∃(q:Nat) (D:List ChD) (V:Value) (y:List (List Nat) × Int),q<=p.length/\i= .int .i64 (q:Int)/\Hid (GrSt w0 B gt j (w.heap.size+1) ((b:Int)-(a:Int)) T.L.length As cs p wr D)/\Hid (WrOf wr base g T V y.1 y.2)/\Hid (chW T.L T.E T.dat c (some x) (p.take q)=some y)/\Hid (D.length=T.L.length/\(D.getD c chZ).2.2=(p.take q).map (zcw T.L T.E T.dat c)/\ ∀i,i<T.L.length->i≠c->(D.getD i chZ).2.2=(Db.getD i chZ).2.2)/\Hid (KeepW w wr)) (fun i _=>p.length-(intOf i).toNat)
    case atStart=>
     refine⟨0,Db,V,x,qq1 _,rfl,ST,HW,qwk rfl,qwk ⟨HD.out.1,?_,fun _ _ _=>rfl⟩,HK⟩;rw[HD.out.2 c g4,if_neg (Nat.lt_irrefl _),qrq];rfl
    case round=>
     clear ST HW HK;obtain⟨q,D,V,y,hq,rfl,ST,HW,HC,a1,HK⟩:=hrel;by_cases c4:q<p.length
     ·obtain⟨yF,yz⟩:=y
      obtain⟨xa,xb,a0,l9,m0⟩:=j0.out q c4;obtain⟨q7,rfl,o8,s0,s1⟩:=(qwz ST.out.spans).pair2 c4;rw[a0] at s0 s1;dsimp only at s0 s1;have g0:=f3.out;rw[HG.out] at g0;have g6:=qcc (L:=T.L) (E:=T.E) (D:=T.dat) (c:=c) (p.take q) g0;rw[HC.out] at g6;obtain⟨o1,o2,o3⟩:=g6 _ rfl;have g5:= @qhk T.L T.E T.dat c (some x) p q c4;rw[HC.out,a0] at g5;dsimp only at o1 o2 o3;have b8:=qwk (fun(W:World) (C:New w0 W) (o6:WrOf W base g T V yF yz) (p8:base<=W.heap.size)=>qcr (a:=xa) (b:=xb) o0.out C o6 HB.out.1 p8 HB.out.2.2 ⟨by omega,o2⟩ g4 l9 (by have:=n5.out;omega) o3);unfold qcq at b8;rw[<-g5] at b8;have N:=qwk (show(p.take (q+1)).map (zcw T.L T.E T.dat c)=(p.take q).map (zcw T.L T.E T.dat c)++[zcw T.L T.E T.dat c ((xa:Int),(xb:Int))] by rw[zac _ q (0,0) c4,que,a0];rfl)
      have H:Hid (chW T.L T.E T.dat c (some x) (p.take (q+1))=none->X=none):=qwk (fun h=>by rw[HX.out];unfold grW;refine zx8 (k:=c+1) ?_ _ g4;show chW T.L T.E T.dat c (gpW T.L T.E T.dat T.pr _ _ c) (zbl _ _ T.pr)=none;rw[HG.out,<-f6.out];exact qca (q+1) h)
      generalize zcw T.L T.E T.dat c ((xa:Int),(xb:Int))=n0 at*;generalize k8:chW T.L T.E T.dat c (some x) (p.take (q+1))=S2 at*;have i8:=qwk k8;have ha:New wr (wr.alloc (.cells #[.int .i64 (xa:Int),.int .i64 (xb:Int)] 111)):=(qwd _ _).alloc (qq0 _) _;have BX:=qw1 wr 111 #[.int .i64 (xa:Int),.int .i64 (xb:Int)];have a8:=qwk (ST.out.later ha);have k0:=HW.out.new ha;have f5:=qwk (HK.out.trans (qxt ha));have d6:base<=(wr.alloc (.cells #[.int .i64 (xa:Int),.int .i64 (xb:Int)] 111)).heap.size:=by have h1:=HB.out.2.1;have h2:=HK.out.1;have h3:=ha.size;omega
      have k1:=qwk (b8.out _ a8.out.new k0 d6);have r5:(c:Int)<(T.L.length:Int):=by omega
      obtain⟨y0,y1⟩:=zb3 BX;clear a0 l9 m0 o8 g0 g6 o1 o2 o3 g5 b8 ST HW HK ha BX k0 d6 k8;go_wp2_with fail
      refine k1.out.mono ?_;intro e w6 hq;clear k1 s0 s1 y0 y1;cases S2 with
      |none=>
       obtain⟨rfl,k6,a4⟩:=hq;have p9:=H.out rfl;have g8:=(a8.out.keep k6 a4).res;have N6:=qwk a4;clear H HX a8 f5 a1 HC HD HG f3 N i8 k6 a4;subst p9;have ez:zu5 (0,0,zb4)= .agg #[.int .i64 0,.int .i64 0,.int .i64 0,.bool false,.bool false,.int .i64 0,.string ⟨#[]⟩,.int .i64 0,.int .i64 0,.bool false,.int .i64 0,.string ⟨#[]⟩,.int .i64 0,.int .i64 0]:=rfl;rw[ez];clear ez;go_upto_region 10 with fail
       have b7:New w6 (w6.alloc (.cells #[.int .i64 0,.int .i64 0,.int .i64 0,.bool false,.bool false,.int .i64 0,.string ⟨#[]⟩,.int .i64 0,.int .i64 0,.bool false,.int .i64 0,.string ⟨#[]⟩,.int .i64 0,.int .i64 0] 135)):=(qwd _ _).alloc (qq0 _) _;have n3:=g8.below b7 g8.lt
       go_wp2_with (refine zal rfl 114 (.tmp 4) (.tmp 57) rfl (w.heap.size+1) _ rfl rfl n3 (by kernel_rfl) rfl (by simp[Value.oneCell']) ?_
                    intro w8 BR G8;obtain⟨r0,r1⟩:=zb3 BR)
       try rw[qwx]
       exact bodyPost_ret (v:= .tuple #[.agg zGr,.bool false]) (by simp[results,Tryz.results51,go_sem,r0,r1]) rfl ⟨rfl,zbg (qw5 N6.out b7) G8 (by have:=HB.out;omega) (qq0 _)⟩
      |some y'=>
       obtain⟨rfl,⟨V',m5⟩,k6,a4⟩:=hq;have a3:=a8.out.keep k6 a4;have j6:=qwk m5;have i4:=qwk (f5.out.trans k6);have k7:=qwk (show B<=w6.heap.size/\w0.heap.size<=B/\w.heap.size<=B/\B<=j by have h1:=a3.tab.lt;have h2:=f4.out;have h3:=h0.out;have h4:=HB.out;omega)
       obtain⟨dl,dc,dn⟩:=a1.out;have O:c<D.length:=by omega
       have b4:=a3.rows.at_ O;have l7:=zp6 b4;have l6:(D.getD c chZ).2.2.length=q:=by rw[dc,qtl,qqx];omega
       have h6:=qwk dc;have h8:=qwk dn;have h7:=qwk dl;obtain⟨sz,rw,P,M,⟨Q,R,S,U,Y⟩,⟨Z,q2,q3,q4,q5⟩⟩:=n0;generalize l5:D.getD c chZ=dj at*;obtain⟨Aj,cj,G⟩:=dj;have d4:D.getD c (none,0,[])=(Aj,cj,G):=l5;dsimp only at l6 b4;have r6:G.length<=65536:=by omega
       have a2:=qwk d4;have a3:=qwk a3;have i0:=qwk l7;have ez:zu5 (sz,rw,P,M,(Q,R,S,U,Y),(Z,q2,q3,q4,q5))= .agg #[.int .i64 sz,.int .i64 rw,.int .i64 P,.bool M,.bool Q,.int .i64 R,.string (zaf S),.int .i64 U,.int .i64 Y,.bool Z,.int .i64 q2,.string (zaf q3),.int .i64 q4,.int .i64 q5]:=rfl;rw[ez];clear ez a8 f5 a1 m5 k6 a4 l7 l5 d4 b4 dl dc dn H l6;go_upto_region 12 with fail
       have b7:New w6 (w6.alloc (.cells #[.int .i64 sz,.int .i64 rw,.int .i64 P,.bool M,.bool Q,.int .i64 R,.string (zaf S),.int .i64 U,.int .i64 Y,.bool Z,.int .i64 q2,.string (zaf q3),.int .i64 q4,.int .i64 q5] 135)):=(qwd _ _).alloc (qq0 _) _;have BI:=qw1 w6 135 #[.int .i64 sz,.int .i64 rw,.int .i64 P,.bool M,.bool Q,.int .i64 R,.string (zaf S),.int .i64 U,.int .i64 Y,.bool Z,.int .i64 q2,.string (zaf q3),.int .i64 q4,.int .i64 q5];obtain⟨w7,m6⟩:∃w7,w7=w6.alloc (.cells #[.int .i64 sz,.int .i64 rw,.int .i64 P,.bool M,.bool Q,.int .i64 R,.string (zaf S),.int .i64 U,.int .i64 Y,.bool Z,.int .i64 q2,.string (zaf q3),.int .i64 q4,.int .i64 q5] 135):=⟨_,rfl⟩;rw[<-m6] at b7 BI⊢;clear m6;have r:=a3.out.later b7;have f7:=zfo (r.rows.at_ O) r.tab (by decide);have f8:=zfo (r.rows.at_ O) r.data (by decide);rw[a2.out] at f7 f8;have k9:w6.heap.size∉zbt (zn4 (Aj,cj,G)):=fun hm=>by have:=(i0.out _ hm).2;omega
       have F5:=qwk (fun(W:World) (C:Turns (zbt (zn4 (Aj,cj,G))) w7.drew W)=>qtc (r.tab.drew.touch C f7) (qtc (r.data.drew.touch C f8) (BI.drew.touch C k9)));have h9:=qwk (show(recs chV D).toArray[c]? =some (.slice Aj G.length cj) from qho (f:=chV) (fun _=>rfl) D (none,0,[]) c O (by rw[a2.out];rfl));have r:=qwk r;have j7:=qwk (j6.out.new b7);have i5:=qwk (i4.out.trans (qxt b7));have p0:=qwk b7.size;clear f7 f8 k9 BI b7 a3 j6 i4 i0;refine zc6 (Turns (zbt (zn4 (Aj,cj,G)))) 12 [(1,0),(0,1),(1,2),(1,3),(0,4),(1,5),(1,6),(0,7),(0,8),(2,9),(2,10),(1,11),(2,12)]
        (qxc _) qxd (by kernel_rfl) (by kernel_rfl) (by kernel_rfl) (by kernel_rfl) ?_
       repeat(first
        |(refine zc7 rfl rfl (v:=?_) (fun W C=>?_) ?_;rotate_left;(obtain⟨g1,g2,g3⟩:=F5.out W C;obtain⟨y0,y1⟩:=zb3 g1;have y3:=g2.cell c;rw[h9.out] at y3;obtain⟨e0,e1,e2,e3,e4,e5,e6,e7,e8,e9,q8,q9,r2,r3⟩:=zec g3;clear g1 g2 g3;go_simp<;> with_reducible rfl);simp only[Act.put,qta,qs1,qtb])
        |(refine zb8 rfl rfl (v:=?_) (fun W=>?_) ?_;rotate_left;(go_simp<;> with_reducible rfl);simp only[Act.put,qta,qs1,qtb]))
       refine zbh rfl rfl (fun K l=>?_);obtain⟨wd,c6⟩:∃wd,wd=w7.drew:=⟨_,rfl⟩;have bd:New w7 wd:=by rw[c6];exact qw6 _
       have k2:New w7.drew wd:=by rw[c6];exact qw4 _
       rw[<-c6];clear c6;go_simp
       have ba:New wd (wd.alloc (.cells #[.int .i64 sz,.int .i64 rw,.int .i64 P,.bool M,.bool Q,.int .i64 R,.string (zaf S),.int .i64 U,.int .i64 Y,.bool Z,.int .i64 q2,.string (zaf q3),.int .i64 q4,.int .i64 q5] 135)):=(qwd _ _).alloc (qq0 _) _;have RL:=qxk wd 135 #[.int .i64 sz,.int .i64 rw,.int .i64 P,.bool M,.bool Q,.int .i64 R,.string (zaf S),.int .i64 U,.int .i64 Y,.bool Z,.int .i64 q2,.string (zaf q3),.int .i64 q4,.int .i64 q5] 1 14 (zh1 (sz,rw,P,M,(Q,R,S,U,Y),(Z,q2,q3,q4,q5))) rfl rfl;refine l _ _ (.inr (.inr (qxe (qw5 k2 ba)))) ?_;clear l;obtain⟨w8,m7⟩:∃w8,w8=wd.alloc (.cells #[.int .i64 sz,.int .i64 rw,.int .i64 P,.bool M,.bool Q,.int .i64 R,.string (zaf S),.int .i64 U,.int .i64 Y,.bool Z,.int .i64 q2,.string (zaf q3),.int .i64 q4,.int .i64 q5] 135):=⟨_,rfl⟩;rw[<-m7] at ba RL⊢;clear m7;have c0:=qw5 bd ba;have I:=r.out.later c0;have j8:=j7.out.new c0;have i6:=i5.out.trans (qxt c0);have t:=I.rows.at_ O;rw[a2.out] at t;have k5:B<=w8.heap.size:=by have:=I.tab.lt;have:=f4.out;omega
       obtain⟨c2,l1,l2,o7⟩:=k7.out;refine zbh rfl rfl (fun K l=>?_);refine qhn qpj (.tmp 65) (.tmp 67) rfl (W:=w0) (B:=w0.heap.size) (base:=B) (w:=w8) t RL rfl rfl I.new l1 k5 (fun u hu=>(by simp[zh1,zci,zay] at hu;rcases hu with rfl|rfl|rfl|rfl|rfl|rfl|rfl|rfl|rfl|rfl|rfl|rfl|rfl|rfl<;> rfl)) (show(G.length+1)*128<=140737488355328 by omega) (show G.length+1<=maxLen by simp only[maxLen];omega) ?_;intro A9 c9 w9 _ _ o9 g9 b9 d0;refine l _ _ (.inr (.inr (qxl g9))) ?_;clear l;simp only[Act.put,qta,qs1,qtb];refine zb8 rfl rfl (v:=?_) (fun W=>?_) ?_;rotate_left;(go_simp<;> with_reducible rfl);simp only[Act.put,qta,qs1,qtb];refine zbh rfl rfl (fun K l=>?_);have d7:=I.data.grown g9 (fun e=>zat t I.data (by decide) e.symm);refine zm2 136 (.tmp 69) (.tmp 68) rfl j c (.slice A9 (G.length+1) c9) rfl rfl d7 (by rw[qrt,zaw (sz:=1) (fun _=>rfl)];omega) (by kernel_rfl) rfl ?_;intro q0 c8 c1 _;refine l _ _ (.inr (.inl rfl)) ?_;clear l;refine zgm ?_;have c3:(G++[((sz,rw,P,M,(Q,R,S,U,Y),(Z,q2,q3,q4,q5)):za3)]).length=G.length+1:=by rw[qrp];rfl
       have a7:=I.put (d:=(A9,c9,G++[((sz,rw,P,M,(Q,R,S,U,Y),(Z,q2,q3,q4,q5)):za3)])) (w6:=w9) (w7:=q0) O (by omega) b9 (by unfold zn4;dsimp only;rw[c3,zbe];exact o9) (by rw[a2.out];exact g9) (by rw[a2.out];unfold zn4;dsimp only;rw[c3];exact d0) (by unfold zn4;dsimp only;rw[c3];exact c8) c1;have j3:=qwk (WrOf.far (WrOf.row j8 t g9 (by decide) (by decide) (by decide)) c1 d7 (by decide) (by decide) (by decide));have i1:=qwk ((i6.row2 t g9 l2).far c1 (by omega));have a7:=qwk a7;have h5:Hid ((D.set c (A9,c9,G++[((sz,rw,P,M,(Q,R,S,U,Y),(Z,q2,q3,q4,q5)):za3)])).length=T.L.length/\((D.set c (A9,c9,G++[((sz,rw,P,M,(Q,R,S,U,Y),(Z,q2,q3,q4,q5)):za3)])).getD c chZ).2.2=(p.take (q+1)).map (zcw T.L T.E T.dat c)/\ ∀i,i<T.L.length->i≠c->((D.set c (A9,c9,G++[((sz,rw,P,M,(Q,R,S,U,Y),(Z,q2,q3,q4,q5)):za3)])).getD i chZ).2.2=(Db.getD i chZ).2.2):=qwk ⟨by rw[qq3];exact h7.out,by rw[zpn O,N.out,<-h6.out],fun i hi m2=>by rw[zyj m2];exact h8.out i hi m2⟩
       generalize D.set c (A9,c9,G++[((sz,rw,P,M,(Q,R,S,U,Y),(Z,q2,q3,q4,q5)):za3)])=n4 at*;clear I j8 i6 t RL o9 g9 b9 d0 d7 c8 c1 c3 F5 h9 r j7 i5 c0 bd k2 ba c2 l1 l2 o7 k5 h6 h8 h7 a2 N HC p0;go_wp2_with fail
       go_roundw
       case rel=>exact⟨q+1,n4,V',y',by omega,by go_num,a7,j3,i8,h5,i1⟩
       case measure=>simp[intOf];omega
     ·obtain rfl:q=p.length:=by omega
      have f9:=HC.out;rw[quw] at f9;have n7:=qwk (show gpW T.L T.E T.dat T.pr ((a:Int),(b:Int)) (some (F,z)) (c+1)=some y by show chW T.L T.E T.dat c (gpW T.L T.E T.dat T.pr _ _ c) (zbl _ _ T.pr)=some y;rw[HG.out,<-f6.out];exact f9)
      have n6:Hid (D.length=T.L.length/\ ∀i,i<T.L.length->(D.getD i chZ).2.2=if i<c+1 then p.map (zcw T.L T.E T.dat i) else []):=qwk ⟨a1.out.1,fun i hi=>by
       obtain⟨d1,d2,d3⟩:=a1.out;rw[quw] at d2;by_cases l8:i=c
       ·subst l8
        rw[d2,if_pos (qv9 _)]
       ·rw[d3 i hi l8,HD.out.2 i hi]
        by_cases m1:i<c
        ·rw[if_pos m1,if_pos (by omega)]
        ·rw[if_neg m1,if_neg (by omega)]⟩
      clear f9 HC HG HD a1 f3;go_wp2_with fail
      go_roundw
      case rel=>exact⟨c+1,D,V,y,by omega,by go_num,ST,HW,n7,n6,HK⟩
      case measure=>simp[intOf];omega
   ·obtain rfl:c=T.L.length:=by omega
    have hx:X=some x:=by rw[HX.out];exact HG.out
    subst hx;obtain⟨x0,x1⟩:=zb3 ST.out.tab;have BZ:=ST.out.res;clear HX HG
    go_wp2_with (refine zal rfl 114 (.tmp 4) (.tmp 72) rfl (w.heap.size+1) _ rfl rfl BZ (by kernel_rfl) rfl (by simp[Value.oneCell']) ?_
                 intro w8 BR G8;obtain⟨r0,r1⟩:=zb3 BR)
    obtain⟨l4,p6⟩:=HD.out;have r7:=h0.out;refine bodyPost_ret (v:= .tuple #[.agg #[.int .i64 ((b:Int)-(a:Int)),.slice (some ⟨j,0,none⟩) T.L.length T.L.length],.bool true]) (by simp[results,Tryz.results51,go_sem,r0,r1]) rfl ⟨some ⟨j,0,none⟩,D,by rw[l4],?_,⟨?_,?_⟩,⟨V,WrOf.far HW.out G8 BZ (by decide) (by decide) (by decide)⟩,HK.out.far G8 (by omega),zbg ST.out.new G8 (by have:=n8.out;omega) (qq0 _)⟩
    ·unfold zdb
     dsimp only;refine qre (by rw[qtl,qtl,qtm,l4]) (fun i h1 h2=>?_);have hi:i<T.L.length:=by rw[qtl,qtm] at h2;exact h2
     have:=p6 i hi;rw[if_pos hi,qsh,qqt (by omega)] at this;rw[qsf,qsf,List.getElem_range,<-f6.out];exact this
    ·have od:wr.ownsRow B 136 1 (.slice (some ⟨j,0,none⟩) D.length D.length) D.length (recs chV D):=by
      refine⟨zaw (sz:=1) (fun _=>rfl) D,.inr ⟨j,D.length,(recs chV D).toArray,rfl,f4.out.2,ST.out.data,qq0 _,by simp only[maxLen];omega,?_,?_⟩⟩
      ·rw[qrt,zaw (sz:=1) (fun _=>rfl),qq7]
      ·rw[qru]
       rw[zaw (sz:=1) (fun _=>rfl),qq7];exact qq0 _
     exact zfd (qqi od G8 (.inr (zat od BZ (by decide)))) (by omega)
    ·exact fun d hd=>zfd (qqi (ST.out.rows.rows d hd) G8 (.inr (zat (ST.out.rows.rows d hd) BZ (by decide)))) (by omega)
end Go.Proofs.Y
