import Derived.Test.YtbahbnbpmfgimaaGreatDoorBun43
set_option maxHeartbeats 2000000
set_option maxRecDepth 100000
namespace Go.Proofs.Y
open Go.RowKit Go.Hm
theorem qjv:ElT Tryz.prog 112 136 (.slice none 0 0) 1 24:=⟨by kernel_rfl,by kernel_rfl,rfl,by omega⟩
theorem qkr:ElT Tryz.prog 136 135 (.agg #[.int .i64 0,.int .i64 0,.int .i64 0,.bool false,.bool false,.int .i64 0,.string ⟨#[]⟩,.int .i64 0,.int .i64 0,.bool false,.int .i64 0,.string ⟨#[]⟩,.int .i64 0,.int .i64 0]) 14 128:=⟨by kernel_rfl,by kernel_rfl,rfl,by omega⟩
theorem z4n{w0 w:World}{base g:Nat}{T:WrT}{V:Value}{F:List (List Nat)}{z:Int}{a b:Nat}(HT:WrIn w0 T)(hn:New w0 w)(hw:WrOf w base g T V F z)(hb0:w0.heap.size<=base)(hb1:base<=w.heap.size)(hg:w0.heap.size<=g)
 (hab:a<=b)(hbr:(b:Int)<=T.r)(hS:OkW (some (F,z))):
 Calls Tryz.prog 51 #[.pointer (some ⟨g,0,none⟩),.agg #[.int .i64 (a:Int),.int .i64 (b:Int)]] w (z99 T ((a:Int),(b:Int)) w0 base g (F,z) w):=by
 have hL64:=HT.few;have hr:=HT.rows;have hpr:=HT.conf.2;obtain⟨X,hX⟩:∃X,X=grW T.L T.E T.dat T.pr (some (F,z)) ((a:Int),(b:Int)):=⟨_,rfl⟩;unfold z99;rw[<-hX];have HX:=qrf hX;have LC:=qrf (fun(W:World)=>z07 (a:Int) (b:Int) T.pr (by omega) (by omega) (by omega) W);have hspl:=zts (a:Int) (b:Int) T.pr;obtain⟨sp,hsp⟩:∃sp,sp=zd5 (a:Int) (b:Int) T.pr:=⟨_,rfl⟩;rw[<-hsp] at LC hspl;have HSPD:Hid (∀q,q<sp.length-> ∃x y:Nat,sp.getD q (0,0)=((x:Int),(y:Int))/\x<=y/\y<=b):=qrf (fun q hq=>by
  rw[hsp] at hq⊢;unfold zd5 at hq⊢;split at hq
  ·simp at hq
  ·rename_i hc
   rw[if_neg hc];rw[zgb] at hq;rw[zpq hq];have hq2:=(zgx (show 0<T.pr.toNat by omega) q).1 hq;refine⟨_,_,rfl,?_,?_⟩
   ·rw[qn2]
    omega
   ·omega)
 have HSP:=qrf hsp;have BW:=hw.blk;unfold wrC at BW;obtain⟨w1,hw1⟩:∃w1,w1=(w.alloc (.cells #[.int .i64 (a:Int),.int .i64 (b:Int)] 111)).alloc (.cells zGr 114):=⟨_,rfl⟩;have n1:New w w1:=by rw[hw1];exact((qq8 _ _).alloc (ql6 _) _).alloc (by simp) _
 have BS:Blk w1 w.heap.size 111 #[.int .i64 (a:Int),.int .i64 (b:Int)]:=by rw[hw1];exact(qrv _ _ _).alloc _
 have BZ:Blk w1 (w.heap.size+1) 114 zGr:=by rw[hw1];have:=qrv (w.alloc (.cells #[.int .i64 (a:Int),.int .i64 (b:Int)] 111)) 114 zGr;rwa[qrq] at this
 have BW1:=BW.below n1 BW.lt;have n01:=qr0 hn n1;have HW:=qrf (hw.new n1);have HT0:=qrf HT;have hzn:=n1.size;have HB:=qrf (qok hb0 (qok hb1 hg));have HW1:=qrf hw1;have HSOk:=qrf hS;have hsub:IntKind.i64.wrap ((b:Int)-(a:Int))=(b:Int)-(a:Int):=by rw[qrl];omega
 have HSUB:=qrf hsub;have HBR:=qrf hbr;have HN1:=qrf n1;have HN0:=qrf hn.size;clear HT hw hS hX hsp BW hw1 hb0 hb1 hg hn hsub hbr n1 hr hpr;obtain⟨wq,hwq⟩:∃wq,wq=w1.drew:=⟨_,rfl⟩;have hU:New w1 wq:=by rw[hwq];exact qr1 _
 have HSQ:=qrf (show wq.heap.size=w1.heap.size by rw[hwq];rfl);have F1:=qrf (fun(W:World) (hW:Below w1.heap.size wq W)=>qok (BW1.below (qrh hU hW) BW1.lt) (BS.below (qrh hU hW) BS.lt));have HWQ:=qrf hwq;clear hwq;go_enter Tryz.func51,Tryz.ntmps51
 go_upto_region 1 with fail
 go_cut [6] (fun v wx=>∃gt gcs:Nat,v= .pointer (some ⟨gt,0,none⟩)/\Hid (Blk wx gt 114 #[.int .i64 ((b:Int)-(a:Int)),.slice (some ⟨gcs,0,none⟩) T.L.length T.L.length])/\Hid (Blk wx gcs 136 (List.replicate T.L.length (Value.slice none 0 0)).toArray)/\Hid (w1.heap.size<=gt/\w1.heap.size<=gcs/\New w1 wx))
 case first=>
  rw[<-HW1.out];refine zql (Below w1.heap.size) (.quiet 0 (.quiet 1 (.quiet 2 (.quiet 3 (.quiet 4 (.quiet 5 (.quiet 6 (.quiet 7 (.quiet 8 (.quiet 9 (.quiet 10 (.two 11 (.quiet 12 (.alone 13 (.alone 14 .done))) 13 (.alone 11 (.quiet 12 (.alone 14 .done)))))))))))))))
   (qq8 _) qrh (by kernel_rfl) (by kernel_rfl) (by kernel_rfl) (by kernel_rfl) ?_
  rw[<-HWQ.out];iterate 11 (refine zki rfl rfl (v:=?_) (fun W hW=>?_) ?_;rotate_left;(obtain⟨g1,g2⟩:=F1.out W hW;obtain⟨x0,x1,x2,x3,x4,x5,x6,x7⟩:=zet g1;obtain⟨y0,y1⟩:=zb6 g2;have hsb:=HSUB.out;clear g1 g2;go_simp<;> with_reducible rfl);simp only[Act.put,qoi,qn8,qoj])
  refine z91 ?_ ?_
  ·refine zjw rfl rfl (fun K hK=>?_)
   refine z6o qjv (.tmp 23) (.tmp 23) rfl T.L.length rfl rfl rfl rfl rfl (by omega) (by simp only[maxLen];omega) ?_;intro w2 BD b2 z2;refine hK _ _ (qri b2 hU.size) ?_;clear hK;simp only[Act.put,qoi,qn8,qoj];obtain⟨gcs,egcs⟩:∃gcs,gcs=wq.heap.size:=⟨_,rfl⟩;have hgcs:w1.heap.size<=gcs:=by rw[egcs];exact hU.size
   rw[<-egcs] at BD⊢;clear egcs z2;have b02:=qr0 hU b2;refine zki rfl rfl (v:=?_) (fun W hW=>?_) ?_;rotate_left;(go_simp<;> with_reducible rfl);simp only[Act.put,qoi,qn8,qoj];refine zic (zjw rfl rfl (fun K hK=>?_));go_simp
   have ba:New w2 (w2.alloc (.cells zGr 114)):=(qq8 _ _).alloc (ql6 _) _;have BT:=qrv w2 114 zGr;have hgt:w1.heap.size<=w2.heap.size:=b02.size;refine hK _ _ (qri ba hgt) ?_;clear hK;refine zic (zjw rfl rfl (fun K hK=>?_));refine zlw 114 (.tmp 6) (.tmp 25) rfl w2.heap.size _ rfl rfl BT (by kernel_rfl) (by simp) (by simp[Value.oneCell']) ?_;intro w3 BT3 G3;refine hK _ _ (zbo (qq8 _ _) G3 hgt (by simp;omega)) ?_;clear hK;refine zsi ?_;go_wp2_with fail
   go_meet
   have BD2:=BD.below ba BD.lt;exact⟨w2.heap.size,gcs,rfl,qrf BT3,qrf (BD2.grown G3 (by intro e;injection e with e;exact qrx BD2 BT (by decide) e)),qrf ⟨hgt,hgcs,zbo (qr0 b02 ba) G3 hgt (ql6 _)⟩⟩
  ·refine zjw rfl rfl (fun K hK=>?_)
   go_simp
   have ba:New wq (wq.alloc (.cells zGr 114)):=(qq8 _ _).alloc (ql6 _) _;have BT:=qrv wq 114 zGr;have hgt:w1.heap.size<=wq.heap.size:=hU.size;refine hK _ _ (qri ba hgt) ?_;clear hK;obtain⟨w2,hw2⟩:∃w2,w2=wq.alloc (.cells zGr 114):=⟨_,rfl⟩;obtain⟨gt,egt⟩:∃gt,gt=wq.heap.size:=⟨_,rfl⟩;show zdg _ _ _ _ _ _ (wq.alloc (.cells zGr 114));rw[<-egt] at BT hgt⊢;rw[<-hw2] at ba BT⊢;clear egt hw2;have b02:=qr0 hU ba;refine zic (zjw rfl rfl (fun K hK=>?_));refine z6o qjv (.tmp 23) (.tmp 23) rfl T.L.length rfl rfl rfl rfl rfl (by omega) (by simp only[maxLen];omega) ?_;intro w3 BD b3 z3;have hgcs:w1.heap.size<=w2.heap.size:=b02.size;refine hK _ _ (qri b3 hgcs) ?_;clear hK z3;simp only[Act.put,qoi,qn8,qoj];refine zki rfl rfl (v:=?_) (fun W hW=>?_) ?_;rotate_left;(go_simp<;> with_reducible rfl);simp only[Act.put,qoi,qn8,qoj];have BT3:=BT.below b3 BT.lt;refine zic (zjw rfl rfl (fun K hK=>?_));refine zlw 114 (.tmp 6) (.tmp 25) rfl gt _ rfl rfl BT3 (by kernel_rfl) (by simp) (by simp[Value.oneCell']) ?_;intro w4 BT4 G4;refine hK _ _ (zbo (qq8 _ _) G4 hgt (by have:=b3.size;omega)) ?_;clear hK;refine zsi ?_;go_wp2_with fail
   go_meet
   exact⟨gt,w2.heap.size,rfl,qrf BT4,qrf (BD.grown G4 (by intro e;injection e with e;exact qrx BD BT3 (by decide) e)),qrf ⟨hgt,hgcs,zbo (qr0 b02 b3) G4 hgt (ql6 _)⟩⟩
 case rest=>
  obtain⟨gt,gcs,rfl,HBT,HBD,HN⟩:=hcut;obtain⟨hgt,hgcs,b3⟩:=HN.out;have n03:=qr0 n01 b3;have BW3:=BW1.below b3 BW1.lt;have BS3:=BS.below b3 BS.lt;have BZ3:=BZ.below b3 BZ.lt;have HW3:=qrf (HW.out.new b3);have HK3:=qrf (qst (qr0 HN1.out b3));have HGT:=qrf (qok hgt hgcs);generalize hB1:w1.heap.size=B at*;have HBB:=qrf (show w.heap.size+1<B by have:=BZ.lt;omega);generalize wc=w3 at*;have F2:=qrf (fun(W:World) (hW:New w3 W)=>qok (BW3.below hW BW3.lt) (BS3.below hW BS3.lt));have hB3:B<=w3.heap.size:=by have:=b3.size;omega
  clear F1 hU HSQ HWQ HN hgt hgcs b3 BW1 BS BZ n01 HW BW3 BS3 hB1 HN1 HW1;go_wp2_with fail
  refine zaw New [(true,0),(true,1),(true,2),(true,3),(true,4),(true,5),(true,6),(true,7),(true,8),(false,9),(true,10)]
   qrz qr0 (by kernel_rfl) (by kernel_rfl) (by kernel_rfl) (by kernel_rfl) ?_
  iterate 9 (refine zaj rfl rfl (v:=?_) (fun W hQ=>?_) ?_;rotate_left;(obtain⟨g1,g2⟩:=F2.out W (qr0 (qr1 _) hQ);obtain⟨x0,x1,x2,x3,x4,x5,x6,x7⟩:=zet g1;obtain⟨y0,y1⟩:=zb6 g2;clear g1 g2;go_simp<;> with_reducible rfl);simp only[Act.put,qoi,qn8,qoj])
  refine za6 rfl rfl (fun K hK=>?_);go_simp
  refine(LC.out w3.drew).mono ?_;rintro e w5 ⟨As,ns,cs,rfl,oS,b5⟩;refine hK _ _ b5 ?_;clear hK;refine zaj rfl rfl (v:=?_) (fun W hQ=>?_) ?_;rotate_left;(go_simp<;> with_reducible rfl);simp only[Act.put,qoi,qn8,qoj];refine zda ?_;obtain rfl:ns=sp.length:=by have:=oS.1;rw[zgv] at this;omega
  have b35:New w3 w5:=qr0 (qr1 _) b5;have ST0:GrSt w0 B gt gcs (w.heap.size+1) ((b:Int)-(a:Int)) T.L.length As cs sp w5 (List.replicate T.L.length (none,0,[])):=by
   refine⟨qr0 n03 b35,HBT.out.below b35 HBT.out.lt,?_,RowsAp.nil,BZ3.below b35 BZ3.lt,ze4 oS hB3⟩;have e:recs chV (List.replicate T.L.length ((none,0,[]):ChD))=List.replicate T.L.length (Value.slice none 0 0):=by
    simp only[recs,List.flatMap_replicate];show(List.replicate T.L.length [Value.slice none 0 0]).flatten=_;induction T.L.length with
    |zero=>rfl
    |succ n ih=>rw[qn7,qpw,ih];rfl
   rw[e];exact HBD.out.below b35 HBD.out.lt
  have ST0:=qrf ST0;have HW5:=qrf (HW3.out.new b35);have HK5:=qrf (HK3.out.trans (qst b35));obtain⟨x0,x1⟩:=zb6 ST0.out.tab;clear F2 HBT HBD LC oS b5 b35 n03 HW3 HK3 BZ3 hB3;go_wp2_with fail
  clear x0 x1;go_loopw [39] (fun i wr=>∃(c:Nat) (D:List ChD) (V:Value) (x:List (List Nat) × Int),c<=T.L.length/\i= .int .i64 (c:Int)/\Hid (GrSt w0 B gt gcs (w.heap.size+1) ((b:Int)-(a:Int)) T.L.length As cs sp wr D)/\Hid (WrOf wr base g T V x.1 x.2)/\Hid (gpW T.L T.E T.dat T.pr ((a:Int),(b:Int)) (some (F,z)) c=some x)/\Hid (D.length=T.L.length/\ ∀i,i<T.L.length->(D.getD i chZ).2.2=if i<c then sp.map (zeh T.L T.E T.dat i) else [])/\Hid (KeepW w wr)) (fun i _=>T.L.length-(intOf i).toNat)
  case atStart=>
   refine⟨0,List.replicate T.L.length (none,0,[]),V,(F,z),ql7 _,rfl,ST0,HW5,qrf rfl,qrf ⟨by rw[qom],fun i hi=>?_⟩,HK5⟩;rw[qnp,qq1,if_pos hi,if_neg (Nat.not_lt_zero _)];rfl
  case round=>
   clear ST0 HW5 HK5;obtain⟨c,D,V,x,hc,rfl,ST,HW,HG,HD,HK⟩:=hrel;by_cases hlc:c<T.L.length
   ·go_wp2_with fail
    generalize hDb:D=Db at*;clear hDb;have HGO:=qrf (z9z (L:=T.L) (E:=T.E) (D:=T.dat) (pr:=T.pr) (s:=((a:Int),(b:Int))) HSOk.out c);go_loopw [44] (fun i wr=>∃(q:Nat) (D:List ChD) (V:Value) (y:List (List Nat) × Int),q<=sp.length/\i= .int .i64 (q:Int)/\Hid (GrSt w0 B gt gcs (w.heap.size+1) ((b:Int)-(a:Int)) T.L.length As cs sp wr D)/\Hid (WrOf wr base g T V y.1 y.2)/\Hid (chW T.L T.E T.dat c (some x) (sp.take q)=some y)/\Hid (D.length=T.L.length/\(D.getD c chZ).2.2=(sp.take q).map (zeh T.L T.E T.dat c)/\ ∀i,i<T.L.length->i≠c->(D.getD i chZ).2.2=(Db.getD i chZ).2.2)/\Hid (KeepW w wr)) (fun i _=>sp.length-(intOf i).toNat)
    case atStart=>
     refine⟨0,Db,V,x,ql7 _,rfl,ST,HW,qrf rfl,qrf ⟨HD.out.1,?_,fun _ _ _=>rfl⟩,HK⟩;rw[HD.out.2 c hlc,if_neg (Nat.lt_irrefl _),qmw];rfl
    case round=>
     clear ST HW HK;obtain⟨q,D,V,y,hq,rfl,ST,HW,HC,HD2,HK⟩:=hrel;by_cases hlq:q<sp.length
     ·obtain⟨yF,yz⟩:=y
      obtain⟨xa,xb,hspq,hle,hleb⟩:=HSPD.out q hlq;obtain⟨asp,rfl,hbs,s0,s1⟩:=(qrt ST.out.spans).pair2 hlq;rw[hspq] at s0 s1;dsimp only at s0 s1;have hgo:=HGO.out;rw[HG.out] at hgo;have hyo:=z9y (L:=T.L) (E:=T.E) (D:=T.dat) (c:=c) (sp.take q) hgo;rw[HC.out] at hyo;obtain⟨o1,o2,o3⟩:=hyo _ rfl;have hsn:= @qeh T.L T.E T.dat c (some x) sp q hlq;rw[HC.out,hspq] at hsn;dsimp only at o1 o2 o3;have PGc:=qrf (fun(W:World) (hW:New w0 W) (hWw:WrOf W base g T V yF yz) (hsz:base<=W.heap.size)=>z97 (a:=xa) (b:=xb) HT0.out hW hWw HB.out.1 hsz HB.out.2.2 ⟨by omega,o2⟩ hlc hle (by have:=HBR.out;omega) o3);unfold z96 at PGc;rw[<-hsn] at PGc;have hinfo:=qrf (show(sp.take (q+1)).map (zeh T.L T.E T.dat c)=(sp.take q).map (zeh T.L T.E T.dat c)++[zeh T.L T.E T.dat c ((xa:Int),(xb:Int))] by rw[zae _ q (0,0) hlq,qpj,hspq];rfl)
      have HFail:Hid (chW T.L T.E T.dat c (some x) (sp.take (q+1))=none->X=none):=qrf (fun h=>by rw[HX.out];unfold grW;refine zw1 (k:=c+1) ?_ _ hlc;show chW T.L T.E T.dat c (gpW T.L T.E T.dat T.pr _ _ c) (zd5 _ _ T.pr)=none;rw[HG.out,<-HSP.out];exact z9w (q+1) h)
      generalize zeh T.L T.E T.dat c ((xa:Int),(xb:Int))=pinf at*;generalize hS2:chW T.L T.E T.dat c (some x) (sp.take (q+1))=S2 at*;have HS2:=qrf hS2;have ha:New wr (wr.alloc (.cells #[.int .i64 (xa:Int),.int .i64 (xb:Int)] 111)):=(qq8 _ _).alloc (ql6 _) _;have BX:=qrv wr 111 #[.int .i64 (xa:Int),.int .i64 (xb:Int)];have STa:=qrf (ST.out.later ha);have HWa:=HW.out.new ha;have HKa:=qrf (HK.out.trans (qst ha));have hsza:base<=(wr.alloc (.cells #[.int .i64 (xa:Int),.int .i64 (xb:Int)] 111)).heap.size:=by have h1:=HB.out.2.1;have h2:=HK.out.1;have h3:=ha.size;omega
      have PG1:=qrf (PGc.out _ STa.out.new HWa hsza);have hcl:(c:Int)<(T.L.length:Int):=by omega
      obtain⟨y0,y1⟩:=zb6 BX;clear hspq hle hleb hbs hgo hyo o1 o2 o3 hsn PGc ST HW HK ha BX HWa hsza hS2;go_wp2_with fail
      refine PG1.out.mono ?_;intro e w6 hq;clear PG1 s0 s1 y0 y1;cases S2 with
      |none=>
       obtain⟨rfl,k6,n06⟩:=hq;have hxn:=HFail.out rfl;have BZ6:=(STa.out.keep k6 n06).res;have N6:=qrf n06;clear HFail HX STa HKa HD2 HC HD HG HGO hinfo HS2 k6 n06;subst hxn;have ez:zty (0,0,zb7)= .agg #[.int .i64 0,.int .i64 0,.int .i64 0,.bool false,.bool false,.int .i64 0,.string ⟨#[]⟩,.int .i64 0,.int .i64 0,.bool false,.int .i64 0,.string ⟨#[]⟩,.int .i64 0,.int .i64 0]:=rfl;rw[ez];clear ez;go_upto_region 10 with fail
       have b7:New w6 (w6.alloc (.cells #[.int .i64 0,.int .i64 0,.int .i64 0,.bool false,.bool false,.int .i64 0,.string ⟨#[]⟩,.int .i64 0,.int .i64 0,.bool false,.int .i64 0,.string ⟨#[]⟩,.int .i64 0,.int .i64 0] 135)):=(qq8 _ _).alloc (ql6 _) _;have BZ7:=BZ6.below b7 BZ6.lt
       go_wp2_with (refine zan rfl 114 (.tmp 4) (.tmp 57) rfl (w.heap.size+1) _ rfl rfl BZ7 (by kernel_rfl) rfl (by simp[Value.oneCell']) ?_
                    intro w8 BR G8;obtain⟨r0,r1⟩:=zb6 BR)
       try rw[qrr]
       exact bodyPost_ret (v:= .tuple #[.agg zGr,.bool false]) (by simp[results,Tryz.results51,go_sem,r0,r1]) rfl ⟨rfl,zbo (qr0 N6.out b7) G8 (by have:=HB.out;omega) (ql6 _)⟩
      |some y'=>
       obtain⟨rfl,⟨V',hw6⟩,k6,n06⟩:=hq;have ST6:=STa.out.keep k6 n06;have HW6:=qrf hw6;have HK6:=qrf (HKa.out.trans k6);have hBw6:=qrf (show B<=w6.heap.size/\w0.heap.size<=B/\w.heap.size<=B/\B<=gcs by have h1:=ST6.tab.lt;have h2:=HGT.out;have h3:=HBB.out;have h4:=HB.out;omega)
       obtain⟨dl,dc,dn⟩:=HD2.out;have hjD:c<D.length:=by omega
       have row6:=ST6.rows.at_ hjD;have hge:=zma row6;have hdl:(D.getD c chZ).2.2.length=q:=by rw[dc,qos,ql2];omega
       have HDC:=qrf dc;have HDN:=qrf dn;have HDL:=qrf dl;obtain⟨sz,rw,nn,bb,⟨p1,p2,p3,p4,p5⟩,⟨q1,q2,q3,q4,q5⟩⟩:=pinf;generalize hdj:D.getD c chZ=dj at*;obtain⟨Aj,cj,lj⟩:=dj;have hdj2:D.getD c (none,0,[])=(Aj,cj,lj):=hdj;dsimp only at hdl row6;have hlj:lj.length<=65536:=by omega
       have HDJ:=qrf hdj2;have ST6:=qrf ST6;have HGE:=qrf hge;have ez:zty (sz,rw,nn,bb,(p1,p2,p3,p4,p5),(q1,q2,q3,q4,q5))= .agg #[.int .i64 sz,.int .i64 rw,.int .i64 nn,.bool bb,.bool p1,.int .i64 p2,.string (zai p3),.int .i64 p4,.int .i64 p5,.bool q1,.int .i64 q2,.string (zai q3),.int .i64 q4,.int .i64 q5]:=rfl;rw[ez];clear ez STa HKa HD2 hw6 k6 n06 hge hdj hdj2 row6 dl dc dn HFail hdl;go_upto_region 12 with fail
       have b7:New w6 (w6.alloc (.cells #[.int .i64 sz,.int .i64 rw,.int .i64 nn,.bool bb,.bool p1,.int .i64 p2,.string (zai p3),.int .i64 p4,.int .i64 p5,.bool q1,.int .i64 q2,.string (zai q3),.int .i64 q4,.int .i64 q5] 135)):=(qq8 _ _).alloc (ql6 _) _;have BI:=qrv w6 135 #[.int .i64 sz,.int .i64 rw,.int .i64 nn,.bool bb,.bool p1,.int .i64 p2,.string (zai p3),.int .i64 p4,.int .i64 p5,.bool q1,.int .i64 q2,.string (zai q3),.int .i64 q4,.int .i64 q5];obtain⟨w7,hw7⟩:∃w7,w7=w6.alloc (.cells #[.int .i64 sz,.int .i64 rw,.int .i64 nn,.bool bb,.bool p1,.int .i64 p2,.string (zai p3),.int .i64 p4,.int .i64 p5,.bool q1,.int .i64 q2,.string (zai q3),.int .i64 q4,.int .i64 q5] 135):=⟨_,rfl⟩;rw[<-hw7] at b7 BI⊢;clear hw7;have ST7:=ST6.out.later b7;have hT1:=zer (ST7.rows.at_ hjD) ST7.tab (by decide);have hT2:=zer (ST7.rows.at_ hjD) ST7.data (by decide);rw[HDJ.out] at hT1 hT2;have hT3:w6.heap.size∉zbg (zm0 (Aj,cj,lj)):=fun hm=>by have:=(HGE.out _ hm).2;omega
       have F5:=qrf (fun(W:World) (hW:Turns (zbg (zm0 (Aj,cj,lj))) w7.drew W)=>qok (ST7.tab.drew.touch hW hT1) (qok (ST7.data.drew.touch hW hT2) (BI.drew.touch hW hT3)));have HDj:=qrf (show(recs chV D).toArray[c]? =some (.slice Aj lj.length cj) from qej (f:=chV) (fun _=>rfl) D (none,0,[]) c hjD (by rw[HDJ.out];rfl));have ST7:=qrf ST7;have HW7:=qrf (HW6.out.new b7);have HK7:=qrf (HK6.out.trans (qst b7));have hbz:=qrf b7.size;clear hT1 hT2 hT3 BI b7 ST6 HW6 HK6 HGE;refine zcf (Turns (zbg (zm0 (Aj,cj,lj)))) 12 [(1,0),(0,1),(1,2),(1,3),(0,4),(1,5),(1,6),(0,7),(0,8),(2,9),(2,10),(1,11),(2,12)]
        (qr7 _) qr8 (by kernel_rfl) (by kernel_rfl) (by kernel_rfl) (by kernel_rfl) ?_
       repeat(first
        |(refine zco rfl rfl (v:=?_) (fun W hW=>?_) ?_;rotate_left;(obtain⟨g1,g2,g3⟩:=F5.out W hW;obtain⟨y0,y1⟩:=zb6 g1;have y3:=g2.cell c;rw[HDj.out] at y3;obtain⟨e0,e1,e2,e3,e4,e5,e6,e7,e8,e9,e10,e11,e12,e13⟩:=zd6 g3;clear g1 g2 g3;go_simp<;> with_reducible rfl);simp only[Act.put,qoi,qn8,qoj])
        |(refine zb2 rfl rfl (v:=?_) (fun W=>?_) ?_;rotate_left;(go_simp<;> with_reducible rfl);simp only[Act.put,qoi,qn8,qoj]))
       refine zbl rfl rfl (fun K hK=>?_);obtain⟨wd,hwd⟩:∃wd,wd=w7.drew:=⟨_,rfl⟩;have bd:New w7 wd:=by rw[hwd];exact qr1 _
       have bdd:New w7.drew wd:=by rw[hwd];exact qrz _
       rw[<-hwd];clear hwd;go_simp
       have ba:New wd (wd.alloc (.cells #[.int .i64 sz,.int .i64 rw,.int .i64 nn,.bool bb,.bool p1,.int .i64 p2,.string (zai p3),.int .i64 p4,.int .i64 p5,.bool q1,.int .i64 q2,.string (zai q3),.int .i64 q4,.int .i64 q5] 135)):=(qq8 _ _).alloc (ql6 _) _;have RL:=qsh wd 135 #[.int .i64 sz,.int .i64 rw,.int .i64 nn,.bool bb,.bool p1,.int .i64 p2,.string (zai p3),.int .i64 p4,.int .i64 p5,.bool q1,.int .i64 q2,.string (zai q3),.int .i64 q4,.int .i64 q5] 1 14 (zhn (sz,rw,nn,bb,(p1,p2,p3,p4,p5),(q1,q2,q3,q4,q5))) rfl rfl;refine hK _ _ (.inr (.inr (qr9 (qr0 bdd ba)))) ?_;clear hK;obtain⟨w8,hw8⟩:∃w8,w8=wd.alloc (.cells #[.int .i64 sz,.int .i64 rw,.int .i64 nn,.bool bb,.bool p1,.int .i64 p2,.string (zai p3),.int .i64 p4,.int .i64 p5,.bool q1,.int .i64 q2,.string (zai q3),.int .i64 q4,.int .i64 q5] 135):=⟨_,rfl⟩;rw[<-hw8] at ba RL⊢;clear hw8;have b78:=qr0 bd ba;have ST8:=ST7.out.later b78;have HW8:=HW7.out.new b78;have HK8:=HK7.out.trans (qst b78);have row8:=ST8.rows.at_ hjD;rw[HDJ.out] at row8;have hB8:B<=w8.heap.size:=by have:=ST8.tab.lt;have:=HGT.out;omega
       obtain⟨hb1,hb2,hb3,hb4⟩:=hBw6.out;refine zbl rfl rfl (fun K hK=>?_);refine qei qkr (.tmp 65) (.tmp 67) rfl (W:=w0) (B:=w0.heap.size) (base:=B) (w:=w8) row8 RL rfl rfl ST8.new hb2 hB8 (fun u hu=>(by simp[zhn,zcj,za4] at hu;rcases hu with rfl|rfl|rfl|rfl|rfl|rfl|rfl|rfl|rfl|rfl|rfl|rfl|rfl|rfl<;> rfl)) (show(lj.length+1)*128<=140737488355328 by omega) (show lj.length+1<=maxLen by simp only[maxLen];omega) ?_;intro A9 c9 w9 _ _ o9 g9 b9 hat9;refine hK _ _ (.inr (.inr (qsi g9))) ?_;clear hK;simp only[Act.put,qoi,qn8,qoj];refine zb2 rfl rfl (v:=?_) (fun W=>?_) ?_;rotate_left;(go_simp<;> with_reducible rfl);simp only[Act.put,qoi,qn8,qoj];refine zbl rfl rfl (fun K hK=>?_);have BD9:=ST8.data.grown g9 (fun e=>zav row8 ST8.data (by decide) e.symm);refine zkz 136 (.tmp 69) (.tmp 68) rfl gcs c (.slice A9 (lj.length+1) c9) rfl rfl BD9 (by rw[qmz,zaz (sz:=1) (fun _=>rfl)];omega) (by kernel_rfl) rfl ?_;intro w10 BD10 g10 _;refine hK _ _ (.inr (.inl rfl)) ?_;clear hK;refine zfd ?_;have hll:(lj++[((sz,rw,nn,bb,(p1,p2,p3,p4,p5),(q1,q2,q3,q4,q5)):zbc)]).length=lj.length+1:=by rw[qmv];rfl
       have ST10:=ST8.put (d:=(A9,c9,lj++[((sz,rw,nn,bb,(p1,p2,p3,p4,p5),(q1,q2,q3,q4,q5)):zbc)])) (w6:=w9) (w7:=w10) hjD (by omega) b9 (by unfold zm0;dsimp only;rw[hll,za7];exact o9) (by rw[HDJ.out];exact g9) (by rw[HDJ.out];unfold zm0;dsimp only;rw[hll];exact hat9) (by unfold zm0;dsimp only;rw[hll];exact BD10) g10;have HW10:=qrf (WrOf.far (WrOf.row HW8 row8 g9 (by decide) (by decide) (by decide)) g10 BD9 (by decide) (by decide) (by decide));have HK10:=qrf ((HK8.row2 row8 g9 hb3).far g10 (by omega));have ST10:=qrf ST10;have HD10:Hid ((D.set c (A9,c9,lj++[((sz,rw,nn,bb,(p1,p2,p3,p4,p5),(q1,q2,q3,q4,q5)):zbc)])).length=T.L.length/\((D.set c (A9,c9,lj++[((sz,rw,nn,bb,(p1,p2,p3,p4,p5),(q1,q2,q3,q4,q5)):zbc)])).getD c chZ).2.2=(sp.take (q+1)).map (zeh T.L T.E T.dat c)/\ ∀i,i<T.L.length->i≠c->((D.set c (A9,c9,lj++[((sz,rw,nn,bb,(p1,p2,p3,p4,p5),(q1,q2,q3,q4,q5)):zbc)])).getD i chZ).2.2=(Db.getD i chZ).2.2):=qrf ⟨by rw[ql9];exact HDL.out,by rw[zoh hjD,hinfo.out,<-HDC.out],fun i hi hne=>by rw[zw3 hne];exact HDN.out i hi hne⟩
       generalize D.set c (A9,c9,lj++[((sz,rw,nn,bb,(p1,p2,p3,p4,p5),(q1,q2,q3,q4,q5)):zbc)])=D10 at*;clear ST8 HW8 HK8 row8 RL o9 g9 b9 hat9 BD9 BD10 g10 hll F5 HDj ST7 HW7 HK7 b78 bd bdd ba hb1 hb2 hb3 hb4 hB8 HDC HDN HDL HDJ hinfo HC hbz;go_wp2_with fail
       go_roundw
       case rel=>exact⟨q+1,D10,V',y',by omega,by go_num,ST10,HW10,HS2,HD10,HK10⟩
       case measure=>simp[intOf];omega
     ·obtain rfl:q=sp.length:=by omega
      have hc2:=HC.out;rw[qp1] at hc2;have HG2:=qrf (show gpW T.L T.E T.dat T.pr ((a:Int),(b:Int)) (some (F,z)) (c+1)=some y by show chW T.L T.E T.dat c (gpW T.L T.E T.dat T.pr _ _ c) (zd5 _ _ T.pr)=some y;rw[HG.out,<-HSP.out];exact hc2)
      have HD3:Hid (D.length=T.L.length/\ ∀i,i<T.L.length->(D.getD i chZ).2.2=if i<c+1 then sp.map (zeh T.L T.E T.dat i) else []):=qrf ⟨HD2.out.1,fun i hi=>by
       obtain⟨d1,d2,d3⟩:=HD2.out;rw[qp1] at d2;by_cases hic:i=c
       ·subst hic
        rw[d2,if_pos (qpz _)]
       ·rw[d3 i hi hic,HD.out.2 i hi]
        by_cases hlt:i<c
        ·rw[if_pos hlt,if_pos (by omega)]
        ·rw[if_neg hlt,if_neg (by omega)]⟩
      clear hc2 HC HG HD HD2 HGO;go_wp2_with fail
      go_roundw
      case rel=>exact⟨c+1,D,V,y,by omega,by go_num,ST,HW,HG2,HD3,HK⟩
      case measure=>simp[intOf];omega
   ·obtain rfl:c=T.L.length:=by omega
    have hx:X=some x:=by rw[HX.out];exact HG.out
    subst hx;obtain⟨x0,x1⟩:=zb6 ST.out.tab;have BZ:=ST.out.res;clear HX HG
    go_wp2_with (refine zan rfl 114 (.tmp 4) (.tmp 72) rfl (w.heap.size+1) _ rfl rfl BZ (by kernel_rfl) rfl (by simp[Value.oneCell']) ?_
                 intro w8 BR G8;obtain⟨r0,r1⟩:=zb6 BR)
    obtain⟨hd1,hd2⟩:=HD.out;have hlo:=HBB.out;refine bodyPost_ret (v:= .tuple #[.agg #[.int .i64 ((b:Int)-(a:Int)),.slice (some ⟨gcs,0,none⟩) T.L.length T.L.length],.bool true]) (by simp[results,Tryz.results51,go_sem,r0,r1]) rfl ⟨some ⟨gcs,0,none⟩,D,by rw[hd1],?_,⟨?_,?_⟩,⟨V,WrOf.far HW.out G8 BZ (by decide) (by decide) (by decide)⟩,HK.out.far G8 (by omega),zbo ST.out.new G8 (by have:=HN0.out;omega) (ql6 _)⟩
    ·unfold zd7
     dsimp only;refine qmk (by rw[qos,qos,qow,hd1]) (fun i h1 h2=>?_);have hi:i<T.L.length:=by rw[qos,qow] at h2;exact h2
     have:=hd2 i hi;rw[if_pos hi,qnp,qlx (by omega)] at this;rw[qnn,qnn,List.getElem_range,<-HSP.out];exact this
    ·have od:wr.ownsRow B 136 1 (.slice (some ⟨gcs,0,none⟩) D.length D.length) D.length (recs chV D):=by
      refine⟨zaz (sz:=1) (fun _=>rfl) D,.inr ⟨gcs,D.length,(recs chV D).toArray,rfl,HGT.out.2,ST.out.data,ql6 _,by simp only[maxLen];omega,?_,?_⟩⟩
      ·rw[qmz,zaz (sz:=1) (fun _=>rfl),qmd]
      ·rw[qm0]
       rw[zaz (sz:=1) (fun _=>rfl),qmd];exact ql6 _
     exact ze4 (qlm od G8 (.inr (zav od BZ (by decide)))) (by omega)
    ·exact fun d hd=>ze4 (qlm (ST.out.rows.rows d hd) G8 (.inr (zav (ST.out.rows.rows d hd) BZ (by decide)))) (by omega)
end Go.Proofs.Y
