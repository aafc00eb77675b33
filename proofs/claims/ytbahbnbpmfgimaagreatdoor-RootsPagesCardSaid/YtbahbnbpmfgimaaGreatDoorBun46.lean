/- Merged. -/
import Derived.Test.YtbahbnbpmfgimaaGreatDoorBun43
set_option maxHeartbeats 2000000
namespace Go.Proofs.Y
open Go.RowKit Go.Hm
theorem qko:ElT Tryz.prog 112 136 (.slice none 0 0) 1 24:=⟨by kernel_rfl,by kernel_rfl,rfl,by omega⟩
theorem qlk:ElT Tryz.prog 136 135 (.agg #[.int .i64 0,.int .i64 0,.int .i64 0,.bool false,.bool false,.int .i64 0,.string ⟨#[]⟩,.int .i64 0,.int .i64 0,.bool false,.int .i64 0,.string ⟨#[]⟩,.int .i64 0,.int .i64 0]) 14 128:=⟨by kernel_rfl,by kernel_rfl,rfl,by omega⟩
set_option maxRecDepth 100000 in
theorem z4x{w0 w:World}{base g:Nat}{T:WrT}{V:Value}{F:List (List Nat)}{z:Int}{a b:Nat}(HT:WrIn w0 T)(hn:New w0 w)(hw:WrOf w base g T V F z)(hb0:w0.heap.size<=base)(hb1:base<=w.heap.size)(hg:w0.heap.size<=g)
 (hab:a<=b)(hbr:(b:Int)<=T.r)(hS:OkW (some (F,z))):
 Calls Tryz.prog 51 #[.pointer (some ⟨g,0,none⟩),.agg #[.int .i64 (a:Int),.int .i64 (b:Int)]] w (qae T ((a:Int),(b:Int)) w0 base g (F,z) w):=by
 have hL64:=HT.few;have hr:=HT.rows;have hpr:=HT.conf.2;obtain⟨X,hX⟩:∃X,X=grW T.L T.E T.dat T.pr (some (F,z)) ((a:Int),(b:Int)):=⟨_,rfl⟩;unfold qae;rw[<-hX];have HX:=Hz hX;have LC:=Hz (fun(W:World)=>z1d (a:Int) (b:Int) T.pr (by omega) (by omega) (by omega) W);have hspl:=ztl (a:Int) (b:Int) T.pr;obtain⟨sp,hsp⟩:∃sp,sp=zdp (a:Int) (b:Int) T.pr:=⟨_,rfl⟩;rw[<-hsp] at LC hspl;have HSPD:Hid (∀q,q<sp.length-> ∃x y:Nat,sp.getD q (0,0)=((x:Int),(y:Int))/\x<=y/\y<=b):=Hz (fun q hq=>by
  rw[hsp] at hq⊢;unfold zdp at hq⊢;split at hq
  ·simp at hq
  ·rename_i hc
   rw[if_neg hc];rw[zf1] at hq;rw[zpc hq];have hq2:=(zgr (show 0<T.pr.toNat by omega) q).1 hq;refine⟨_,_,rfl,?_,?_⟩
   ·rw[qoo]
    omega
   ·omega)
 have HSP:=Hz hsp;have BW:=hw.blk;unfold wrC at BW;obtain⟨w1,hw1⟩:∃w1,w1=(w.alloc (.cells #[.int .i64 (a:Int),.int .i64 (b:Int)] 111)).alloc (.cells zGr 114):=⟨_,rfl⟩;have n1:New w w1:=by rw[hw1];exact((Below.refl _ _).alloc (qmt _) _).alloc (by simp) _
 have BS:Blk w1 w.heap.size 111 #[.int .i64 (a:Int),.int .i64 (b:Int)]:=by rw[hw1];exact(Blk.new _ _ _).alloc _
 have BZ:Blk w1 (w.heap.size+1) 114 zGr:=by rw[hw1];have:=Blk.new (w.alloc (.cells #[.int .i64 (a:Int),.int .i64 (b:Int)] 111)) 114 zGr;rwa[World.size_alloc] at this
 have BW1:=BW.below n1 BW.lt;have n01:=New.trans hn n1;have HW:=Hz (hw.new n1);have HT0:=Hz HT;have hzn:=n1.size;have HB:=Hz (qo8 hb0 (qo8 hb1 hg));have HW1:=Hz hw1;have HSOk:=Hz hS;have hsub:IntKind.i64.wrap ((b:Int)-(a:Int))=(b:Int)-(a:Int):=by rw[IntKind.wrap_i64];omega
 have HSUB:=Hz hsub;have HBR:=Hz hbr;have HN1:=Hz n1;have HN0:=Hz hn.size;clear HT hw hS hX hsp BW hw1 hb0 hb1 hg hn hsub hbr n1 hr hpr;obtain⟨wq,hwq⟩:∃wq,wq=w1.drew:=⟨_,rfl⟩;have hU:New w1 wq:=by rw[hwq];exact New.drew _
 have HSQ:=Hz (show wq.heap.size=w1.heap.size by rw[hwq];rfl);have F1:=Hz (fun(W:World) (hW:Below w1.heap.size wq W)=>qo8 (BW1.below (Below.trans hU hW) BW1.lt) (BS.below (Below.trans hU hW) BS.lt));have HWQ:=Hz hwq;clear hwq;go_enter Tryz.func51,Tryz.ntmps51
 go_upto_region 1 with fail
 go_cut [6] (fun v wx=>∃gt gcs:Nat,v= .pointer (some ⟨gt,0,none⟩)/\Hid (Blk wx gt 114 #[.int .i64 ((b:Int)-(a:Int)),.slice (some ⟨gcs,0,none⟩) T.L.length T.L.length])/\Hid (Blk wx gcs 136 (List.replicate T.L.length (Value.slice none 0 0)).toArray)/\Hid (w1.heap.size<=gt/\w1.heap.size<=gcs/\New w1 wx))
 case first=>
  rw[<-HW1.out];refine zp2 (Below w1.heap.size) (.quiet 0 (.quiet 1 (.quiet 2 (.quiet 3 (.quiet 4 (.quiet 5 (.quiet 6 (.quiet 7 (.quiet 8 (.quiet 9 (.quiet 10 (.two 11 (.quiet 12 (.alone 13 (.alone 14 .done))) 13 (.alone 11 (.quiet 12 (.alone 14 .done)))))))))))))))
   (Below.refl _) Below.trans (by kernel_rfl) (by kernel_rfl) (by kernel_rfl) (by kernel_rfl) ?_
  rw[<-HWQ.out];iterate 11 (refine zkf rfl rfl (v:=?_) (fun W hW=>?_) ?_;rotate_left;(obtain⟨g1,g2⟩:=F1.out W hW;obtain⟨x0,x1,x2,x3,x4,x5,x6,x7⟩:=zef g1;obtain⟨y0,y1⟩:=zbz g2;have hsb:=HSUB.out;clear g1 g2;go_simp<;> with_reducible rfl);simp only[Act.put,qo6,qou,qo7])
  refine z93 ?_ ?_
  ·refine zjq rfl rfl (fun K hK=>?_)
   refine z9f qko (.tmp 23) (.tmp 23) rfl T.L.length rfl rfl rfl rfl rfl (by omega) (by simp only[maxLen];omega) ?_;intro w2 BD b2 z2;refine hK _ _ (Below.mono b2 hU.size) ?_;clear hK;simp only[Act.put,qo6,qou,qo7];obtain⟨gcs,egcs⟩:∃gcs,gcs=wq.heap.size:=⟨_,rfl⟩;have hgcs:w1.heap.size<=gcs:=by rw[egcs];exact hU.size
   rw[<-egcs] at BD⊢;clear egcs z2;have b02:=New.trans hU b2;refine zkf rfl rfl (v:=?_) (fun W hW=>?_) ?_;rotate_left;(go_simp<;> with_reducible rfl);simp only[Act.put,qo6,qou,qo7];refine zh2 (zjq rfl rfl (fun K hK=>?_));go_simp
   have ba:New w2 (w2.alloc (.cells zGr 114)):=(Below.refl _ _).alloc (qmt _) _;have BT:=Blk.new w2 114 zGr;have hgt:w1.heap.size<=w2.heap.size:=b02.size;refine hK _ _ (Below.mono ba hgt) ?_;clear hK;refine zh2 (zjq rfl rfl (fun K hK=>?_));refine zlu 114 (.tmp 6) (.tmp 25) rfl w2.heap.size _ rfl rfl BT (by kernel_rfl) (by simp) (by simp[Value.oneCell']) ?_;intro w3 BT3 G3;refine hK _ _ (zbj (Below.refl _ _) G3 hgt (by simp;omega)) ?_;clear hK;refine zsb ?_;go_wp2_with fail
   go_meet
   have BD2:=BD.below ba BD.lt;exact⟨w2.heap.size,gcs,rfl,Hz BT3,Hz (BD2.grown G3 (by intro e;injection e with e;exact Blk.ne_ BD2 BT (by decide) e)),Hz ⟨hgt,hgcs,zbj (New.trans b02 ba) G3 hgt (qmt _)⟩⟩
  ·refine zjq rfl rfl (fun K hK=>?_)
   go_simp
   have ba:New wq (wq.alloc (.cells zGr 114)):=(Below.refl _ _).alloc (qmt _) _;have BT:=Blk.new wq 114 zGr;have hgt:w1.heap.size<=wq.heap.size:=hU.size;refine hK _ _ (Below.mono ba hgt) ?_;clear hK;obtain⟨w2,hw2⟩:∃w2,w2=wq.alloc (.cells zGr 114):=⟨_,rfl⟩;obtain⟨gt,egt⟩:∃gt,gt=wq.heap.size:=⟨_,rfl⟩;show zc7 _ _ _ _ _ _ (wq.alloc (.cells zGr 114));rw[<-egt] at BT hgt⊢;rw[<-hw2] at ba BT⊢;clear egt hw2;have b02:=New.trans hU ba;refine zh2 (zjq rfl rfl (fun K hK=>?_));refine z9f qko (.tmp 23) (.tmp 23) rfl T.L.length rfl rfl rfl rfl rfl (by omega) (by simp only[maxLen];omega) ?_;intro w3 BD b3 z3;have hgcs:w1.heap.size<=w2.heap.size:=b02.size;refine hK _ _ (Below.mono b3 hgcs) ?_;clear hK z3;simp only[Act.put,qo6,qou,qo7];refine zkf rfl rfl (v:=?_) (fun W hW=>?_) ?_;rotate_left;(go_simp<;> with_reducible rfl);simp only[Act.put,qo6,qou,qo7];have BT3:=BT.below b3 BT.lt;refine zh2 (zjq rfl rfl (fun K hK=>?_));refine zlu 114 (.tmp 6) (.tmp 25) rfl gt _ rfl rfl BT3 (by kernel_rfl) (by simp) (by simp[Value.oneCell']) ?_;intro w4 BT4 G4;refine hK _ _ (zbj (Below.refl _ _) G4 hgt (by have:=b3.size;omega)) ?_;clear hK;refine zsb ?_;go_wp2_with fail
   go_meet
   exact⟨gt,w2.heap.size,rfl,Hz BT4,Hz (BD.grown G4 (by intro e;injection e with e;exact Blk.ne_ BD BT3 (by decide) e)),Hz ⟨hgt,hgcs,zbj (New.trans b02 b3) G4 hgt (qmt _)⟩⟩
 case rest=>
  obtain⟨gt,gcs,rfl,HBT,HBD,HN⟩:=hcut;obtain⟨hgt,hgcs,b3⟩:=HN.out;have n03:=New.trans n01 b3;have BW3:=BW1.below b3 BW1.lt;have BS3:=BS.below b3 BS.lt;have BZ3:=BZ.below b3 BZ.lt;have HW3:=Hz (HW.out.new b3);have HK3:=Hz (KeepW.new (New.trans HN1.out b3));have HGT:=Hz (qo8 hgt hgcs);generalize hB1:w1.heap.size=B at*;have HBB:=Hz (show w.heap.size+1<B by have:=BZ.lt;omega);generalize wc=w3 at*;have F2:=Hz (fun(W:World) (hW:New w3 W)=>qo8 (BW3.below hW BW3.lt) (BS3.below hW BS3.lt));have hB3:B<=w3.heap.size:=by have:=b3.size;omega
  clear F1 hU HSQ HWQ HN hgt hgcs b3 BW1 BS BZ n01 HW BW3 BS3 hB1 HN1 HW1;go_wp2_with fail
  refine zax New [(true,0),(true,1),(true,2),(true,3),(true,4),(true,5),(true,6),(true,7),(true,8),(false,9),(true,10)]
   New.refl New.trans (by kernel_rfl) (by kernel_rfl) (by kernel_rfl) (by kernel_rfl) ?_
  iterate 9 (refine zar rfl rfl (v:=?_) (fun W hQ=>?_) ?_;rotate_left;(obtain⟨g1,g2⟩:=F2.out W (New.trans (New.drew _) hQ);obtain⟨x0,x1,x2,x3,x4,x5,x6,x7⟩:=zef g1;obtain⟨y0,y1⟩:=zbz g2;clear g1 g2;go_simp<;> with_reducible rfl);simp only[Act.put,qo6,qou,qo7])
  refine zba rfl rfl (fun K hK=>?_);go_simp
  refine(LC.out w3.drew).mono ?_;rintro e w5 ⟨As,ns,cs,rfl,oS,b5⟩;refine hK _ _ b5 ?_;clear hK;refine zar rfl rfl (v:=?_) (fun W hQ=>?_) ?_;rotate_left;(go_simp<;> with_reducible rfl);simp only[Act.put,qo6,qou,qo7];refine zdh ?_;obtain rfl:ns=sp.length:=by have:=oS.1;rw[zgp] at this;omega
  have b35:New w3 w5:=New.trans (New.drew _) b5;have ST0:GrSt w0 B gt gcs (w.heap.size+1) ((b:Int)-(a:Int)) T.L.length As cs sp w5 (List.replicate T.L.length (none,0,[])):=by
   refine⟨New.trans n03 b35,HBT.out.below b35 HBT.out.lt,?_,RowsAp.nil,BZ3.below b35 BZ3.lt,zeo oS hB3⟩;have e:recs chV (List.replicate T.L.length ((none,0,[]):ChD))=List.replicate T.L.length (Value.slice none 0 0):=by
    simp only[recs,List.flatMap_replicate];show(List.replicate T.L.length [Value.slice none 0 0]).flatten=_;induction T.L.length with
    |zero=>rfl
    |succ n ih=>rw[qot,qq0,ih];rfl
   rw[e];exact HBD.out.below b35 HBD.out.lt
  have ST0:=Hz ST0;have HW5:=Hz (HW3.out.new b35);have HK5:=Hz (HK3.out.trans (KeepW.new b35));obtain⟨x0,x1⟩:=zbz ST0.out.tab;clear F2 HBT HBD LC oS b5 b35 n03 HW3 HK3 BZ3 hB3;go_wp2_with fail
  clear x0 x1;go_loopw [39] (fun i wr=>∃(c:Nat) (D:List ChD) (V:Value) (x:List (List Nat) × Int),c<=T.L.length/\i= .int .i64 (c:Int)/\Hid (GrSt w0 B gt gcs (w.heap.size+1) ((b:Int)-(a:Int)) T.L.length As cs sp wr D)/\Hid (WrOf wr base g T V x.1 x.2)/\Hid (gpW T.L T.E T.dat T.pr ((a:Int),(b:Int)) (some (F,z)) c=some x)/\Hid (D.length=T.L.length/\ ∀i,i<T.L.length->(D.getD i chZ).2.2=if i<c then sp.map (zd0 T.L T.E T.dat i) else [])/\Hid (KeepW w wr)) (fun i _=>T.L.length-(intOf i).toNat)
  case atStart=>
   refine⟨0,List.replicate T.L.length (none,0,[]),V,(F,z),qmu _,rfl,ST0,HW5,Hz rfl,Hz ⟨by rw[qo9],fun i hi=>?_⟩,HK5⟩;rw[qoa,qrl,if_pos hi,if_neg (Nat.not_lt_zero _)];rfl
  case round=>
   clear ST0 HW5 HK5;obtain⟨c,D,V,x,hc,rfl,ST,HW,HG,HD,HK⟩:=hrel;by_cases hlc:c<T.L.length
   ·go_wp2_with fail
    generalize hDb:D=Db at*;clear hDb;have HGO:=Hz (z9z (L:=T.L) (E:=T.E) (D:=T.dat) (pr:=T.pr) (s:=((a:Int),(b:Int))) HSOk.out c);go_loopw [44] (fun i wr=>∃(q:Nat) (D:List ChD) (V:Value) (y:List (List Nat) × Int),q<=sp.length/\i= .int .i64 (q:Int)/\Hid (GrSt w0 B gt gcs (w.heap.size+1) ((b:Int)-(a:Int)) T.L.length As cs sp wr D)/\Hid (WrOf wr base g T V y.1 y.2)/\Hid (chW T.L T.E T.dat c (some x) (sp.take q)=some y)/\Hid (D.length=T.L.length/\(D.getD c chZ).2.2=(sp.take q).map (zd0 T.L T.E T.dat c)/\ ∀i,i<T.L.length->i≠c->(D.getD i chZ).2.2=(Db.getD i chZ).2.2)/\Hid (KeepW w wr)) (fun i _=>sp.length-(intOf i).toNat)
    case atStart=>
     refine⟨0,Db,V,x,qmu _,rfl,ST,HW,Hz rfl,Hz ⟨HD.out.1,?_,fun _ _ _=>rfl⟩,HK⟩;rw[HD.out.2 c hlc,if_neg (Nat.lt_irrefl _),qnj];rfl
    case round=>
     clear ST HW HK;obtain⟨q,D,V,y,hq,rfl,ST,HW,HC,HD2,HK⟩:=hrel;by_cases hlq:q<sp.length
     ·obtain⟨yF,yz⟩:=y
      obtain⟨xa,xb,hspq,hle,hleb⟩:=HSPD.out q hlq;obtain⟨asp,rfl,hbs,s0,s1⟩:=(Reads.of_own ST.out.spans).pair2 hlq;rw[hspq] at s0 s1;dsimp only at s0 s1;have hgo:=HGO.out;rw[HG.out] at hgo;have hyo:=z9y (L:=T.L) (E:=T.E) (D:=T.dat) (c:=c) (sp.take q) hgo;rw[HC.out] at hyo;obtain⟨o1,o2,o3⟩:=hyo _ rfl;have hsn:= @qet T.L T.E T.dat c (some x) sp q hlq;rw[HC.out,hspq] at hsn;dsimp only at o1 o2 o3;have PGc:=Hz (fun(W:World) (hW:New w0 W) (hWw:WrOf W base g T V yF yz) (hsz:base<=W.heap.size)=>qac (a:=xa) (b:=xb) HT0.out hW hWw HB.out.1 hsz HB.out.2.2 ⟨by omega,o2⟩ hlc hle (by have:=HBR.out;omega) o3);unfold qab at PGc;rw[<-hsn] at PGc;have hinfo:=Hz (show(sp.take (q+1)).map (zd0 T.L T.E T.dat c)=(sp.take q).map (zd0 T.L T.E T.dat c)++[zd0 T.L T.E T.dat c ((xa:Int),(xb:Int))] by rw[zad _ q (0,0) hlq,qp6,hspq];rfl)
      have HFail:Hid (chW T.L T.E T.dat c (some x) (sp.take (q+1))=none->X=none):=Hz (fun h=>by rw[HX.out];unfold grW;refine zwq (k:=c+1) ?_ _ hlc;show chW T.L T.E T.dat c (gpW T.L T.E T.dat T.pr _ _ c) (zdp _ _ T.pr)=none;rw[HG.out,<-HSP.out];exact z9w (q+1) h)
      generalize zd0 T.L T.E T.dat c ((xa:Int),(xb:Int))=pinf at*;generalize hS2:chW T.L T.E T.dat c (some x) (sp.take (q+1))=S2 at*;have HS2:=Hz hS2;have ha:New wr (wr.alloc (.cells #[.int .i64 (xa:Int),.int .i64 (xb:Int)] 111)):=(Below.refl _ _).alloc (qmt _) _;have BX:=Blk.new wr 111 #[.int .i64 (xa:Int),.int .i64 (xb:Int)];have STa:=Hz (ST.out.later ha);have HWa:=HW.out.new ha;have HKa:=Hz (HK.out.trans (KeepW.new ha));have hsza:base<=(wr.alloc (.cells #[.int .i64 (xa:Int),.int .i64 (xb:Int)] 111)).heap.size:=by have h1:=HB.out.2.1;have h2:=HK.out.1;have h3:=ha.size;omega
      have PG1:=Hz (PGc.out _ STa.out.new HWa hsza);have hcl:(c:Int)<(T.L.length:Int):=by omega
      obtain⟨y0,y1⟩:=zbz BX;clear hspq hle hleb hbs hgo hyo o1 o2 o3 hsn PGc ST HW HK ha BX HWa hsza hS2;go_wp2_with fail
      refine PG1.out.mono ?_;intro e w6 hq;clear PG1 s0 s1 y0 y1;cases S2 with
      |none=>
       obtain⟨rfl,k6,n06⟩:=hq;have hxn:=HFail.out rfl;have BZ6:=(STa.out.keep k6 n06).res;have N6:=Hz n06;clear HFail HX STa HKa HD2 HC HD HG HGO hinfo HS2 k6 n06;subst hxn;have ez:ztr (0,0,zb0)= .agg #[.int .i64 0,.int .i64 0,.int .i64 0,.bool false,.bool false,.int .i64 0,.string ⟨#[]⟩,.int .i64 0,.int .i64 0,.bool false,.int .i64 0,.string ⟨#[]⟩,.int .i64 0,.int .i64 0]:=rfl;rw[ez];clear ez;go_upto_region 10 with fail
       have b7:New w6 (w6.alloc (.cells #[.int .i64 0,.int .i64 0,.int .i64 0,.bool false,.bool false,.int .i64 0,.string ⟨#[]⟩,.int .i64 0,.int .i64 0,.bool false,.int .i64 0,.string ⟨#[]⟩,.int .i64 0,.int .i64 0] 135)):=(Below.refl _ _).alloc (qmt _) _;have BZ7:=BZ6.below b7 BZ6.lt
       go_wp2_with (refine zah rfl 114 (.tmp 4) (.tmp 57) rfl (w.heap.size+1) _ rfl rfl BZ7 (by kernel_rfl) rfl (by simp[Value.oneCell']) ?_
                    intro w8 BR G8;obtain⟨r0,r1⟩:=zbz BR)
       try rw[Exit.noGoto_ret]
       exact bodyPost_ret (v:= .tuple #[.agg zGr,.bool false]) (by simp[results,Tryz.results51,go_sem,r0,r1]) rfl ⟨rfl,zbj (New.trans N6.out b7) G8 (by have:=HB.out;omega) (qmt _)⟩
      |some y'=>
       obtain⟨rfl,⟨V',hw6⟩,k6,n06⟩:=hq;have ST6:=STa.out.keep k6 n06;have HW6:=Hz hw6;have HK6:=Hz (HKa.out.trans k6);have hBw6:=Hz (show B<=w6.heap.size/\w0.heap.size<=B/\w.heap.size<=B/\B<=gcs by have h1:=ST6.tab.lt;have h2:=HGT.out;have h3:=HBB.out;have h4:=HB.out;omega)
       obtain⟨dl,dc,dn⟩:=HD2.out;have hjD:c<D.length:=by omega
       have row6:=ST6.rows.at_ hjD;have hge:=zj4 row6;have hdl:(D.getD c chZ).2.2.length=q:=by rw[dc,qpg,qmq];omega
       have HDC:=Hz dc;have HDN:=Hz dn;have HDL:=Hz dl;obtain⟨sz,rw,nn,bb,⟨p1,p2,p3,p4,p5⟩,⟨q1,q2,q3,q4,q5⟩⟩:=pinf;generalize hdj:D.getD c chZ=dj at*;obtain⟨Aj,cj,lj⟩:=dj;have hdj2:D.getD c (none,0,[])=(Aj,cj,lj):=hdj;dsimp only at hdl row6;have hlj:lj.length<=65536:=by omega
       have HDJ:=Hz hdj2;have ST6:=Hz ST6;have HGE:=Hz hge;have ez:ztr (sz,rw,nn,bb,(p1,p2,p3,p4,p5),(q1,q2,q3,q4,q5))= .agg #[.int .i64 sz,.int .i64 rw,.int .i64 nn,.bool bb,.bool p1,.int .i64 p2,.string (zae p3),.int .i64 p4,.int .i64 p5,.bool q1,.int .i64 q2,.string (zae q3),.int .i64 q4,.int .i64 q5]:=rfl;rw[ez];clear ez STa HKa HD2 hw6 k6 n06 hge hdj hdj2 row6 dl dc dn HFail hdl;go_upto_region 12 with fail
       have b7:New w6 (w6.alloc (.cells #[.int .i64 sz,.int .i64 rw,.int .i64 nn,.bool bb,.bool p1,.int .i64 p2,.string (zae p3),.int .i64 p4,.int .i64 p5,.bool q1,.int .i64 q2,.string (zae q3),.int .i64 q4,.int .i64 q5] 135)):=(Below.refl _ _).alloc (qmt _) _;have BI:=Blk.new w6 135 #[.int .i64 sz,.int .i64 rw,.int .i64 nn,.bool bb,.bool p1,.int .i64 p2,.string (zae p3),.int .i64 p4,.int .i64 p5,.bool q1,.int .i64 q2,.string (zae q3),.int .i64 q4,.int .i64 q5];obtain⟨w7,hw7⟩:∃w7,w7=w6.alloc (.cells #[.int .i64 sz,.int .i64 rw,.int .i64 nn,.bool bb,.bool p1,.int .i64 p2,.string (zae p3),.int .i64 p4,.int .i64 p5,.bool q1,.int .i64 q2,.string (zae q3),.int .i64 q4,.int .i64 q5] 135):=⟨_,rfl⟩;rw[<-hw7] at b7 BI⊢;clear hw7;have ST7:=ST6.out.later b7;have hT1:=zda (ST7.rows.at_ hjD) ST7.tab (by decide);have hT2:=zda (ST7.rows.at_ hjD) ST7.data (by decide);rw[HDJ.out] at hT1 hT2;have hT3:w6.heap.size∉zbi (zmm (Aj,cj,lj)):=fun hm=>by have:=(HGE.out _ hm).2;omega
       have F5:=Hz (fun(W:World) (hW:Turns (zbi (zmm (Aj,cj,lj))) w7.drew W)=>qo8 (ST7.tab.drew.touch hW hT1) (qo8 (ST7.data.drew.touch hW hT2) (BI.drew.touch hW hT3)));have HDj:=Hz (show(recs chV D).toArray[c]? =some (.slice Aj lj.length cj) from qev (f:=chV) (fun _=>rfl) D (none,0,[]) c hjD (by rw[HDJ.out];rfl));have ST7:=Hz ST7;have HW7:=Hz (HW6.out.new b7);have HK7:=Hz (HK6.out.trans (KeepW.new b7));have hbz:=Hz b7.size;clear hT1 hT2 hT3 BI b7 ST6 HW6 HK6 HGE;refine zb2 (Turns (zbi (zmm (Aj,cj,lj)))) 12 [(1,0),(0,1),(1,2),(1,3),(0,4),(1,5),(1,6),(0,7),(0,8),(2,9),(2,10),(1,11),(2,12)]
        (Turns.refl _) Turns.trans (by kernel_rfl) (by kernel_rfl) (by kernel_rfl) (by kernel_rfl) ?_
       repeat(first
        |(refine zbm rfl rfl (v:=?_) (fun W hW=>?_) ?_;rotate_left;(obtain⟨g1,g2,g3⟩:=F5.out W hW;obtain⟨y0,y1⟩:=zbz g1;have y3:=g2.cell c;rw[HDj.out] at y3;obtain⟨e0,e1,e2,e3,e4,e5,e6,e7,e8,e9,e10,e11,e12,e13⟩:=zdq g3;clear g1 g2 g3;go_simp<;> with_reducible rfl);simp only[Act.put,qo6,qou,qo7])
        |(refine zbh rfl rfl (v:=?_) (fun W=>?_) ?_;rotate_left;(go_simp<;> with_reducible rfl);simp only[Act.put,qo6,qou,qo7]))
       refine zav rfl rfl (fun K hK=>?_);obtain⟨wd,hwd⟩:∃wd,wd=w7.drew:=⟨_,rfl⟩;have bd:New w7 wd:=by rw[hwd];exact New.drew _
       have bdd:New w7.drew wd:=by rw[hwd];exact New.refl _
       rw[<-hwd];clear hwd;go_simp
       have ba:New wd (wd.alloc (.cells #[.int .i64 sz,.int .i64 rw,.int .i64 nn,.bool bb,.bool p1,.int .i64 p2,.string (zae p3),.int .i64 p4,.int .i64 p5,.bool q1,.int .i64 q2,.string (zae q3),.int .i64 q4,.int .i64 q5] 135)):=(Below.refl _ _).alloc (qmt _) _;have RL:=Reads.litR wd 135 #[.int .i64 sz,.int .i64 rw,.int .i64 nn,.bool bb,.bool p1,.int .i64 p2,.string (zae p3),.int .i64 p4,.int .i64 p5,.bool q1,.int .i64 q2,.string (zae q3),.int .i64 q4,.int .i64 q5] 1 14 (zhb (sz,rw,nn,bb,(p1,p2,p3,p4,p5),(q1,q2,q3,q4,q5))) rfl rfl;refine hK _ _ (.inr (.inr (Turns.of_new (New.trans bdd ba)))) ?_;clear hK;obtain⟨w8,hw8⟩:∃w8,w8=wd.alloc (.cells #[.int .i64 sz,.int .i64 rw,.int .i64 nn,.bool bb,.bool p1,.int .i64 p2,.string (zae p3),.int .i64 p4,.int .i64 p5,.bool q1,.int .i64 q2,.string (zae q3),.int .i64 q4,.int .i64 q5] 135):=⟨_,rfl⟩;rw[<-hw8] at ba RL⊢;clear hw8;have b78:=New.trans bd ba;have ST8:=ST7.out.later b78;have HW8:=HW7.out.new b78;have HK8:=HK7.out.trans (KeepW.new b78);have row8:=ST8.rows.at_ hjD;rw[HDJ.out] at row8;have hB8:B<=w8.heap.size:=by have:=ST8.tab.lt;have:=HGT.out;omega
       obtain⟨hb1,hb2,hb3,hb4⟩:=hBw6.out;refine zav rfl rfl (fun K hK=>?_);refine qeu qlk (.tmp 65) (.tmp 67) rfl (W:=w0) (B:=w0.heap.size) (base:=B) (w:=w8) row8 RL rfl rfl ST8.new hb2 hB8 (fun u hu=>(by simp[zhb,zcb,za0] at hu;rcases hu with rfl|rfl|rfl|rfl|rfl|rfl|rfl|rfl|rfl|rfl|rfl|rfl|rfl|rfl<;> rfl)) (show(lj.length+1)*128<=140737488355328 by omega) (show lj.length+1<=maxLen by simp only[maxLen];omega) ?_;intro A9 c9 w9 _ _ o9 g9 b9 hat9;refine hK _ _ (.inr (.inr (Turns.row g9))) ?_;clear hK;simp only[Act.put,qo6,qou,qo7];refine zbh rfl rfl (v:=?_) (fun W=>?_) ?_;rotate_left;(go_simp<;> with_reducible rfl);simp only[Act.put,qo6,qou,qo7];refine zav rfl rfl (fun K hK=>?_);have BD9:=ST8.data.grown g9 (fun e=>zaj row8 ST8.data (by decide) e.symm);refine zls 136 (.tmp 69) (.tmp 68) rfl gcs c (.slice A9 (lj.length+1) c9) rfl rfl BD9 (by rw[qnm,zau (sz:=1) (fun _=>rfl)];omega) (by kernel_rfl) rfl ?_;intro w10 BD10 g10 _;refine hK _ _ (.inr (.inl rfl)) ?_;clear hK;refine zed ?_;have hll:(lj++[((sz,rw,nn,bb,(p1,p2,p3,p4,p5),(q1,q2,q3,q4,q5)):za6)]).length=lj.length+1:=by rw[qni];rfl
       have ST10:=ST8.put (d:=(A9,c9,lj++[((sz,rw,nn,bb,(p1,p2,p3,p4,p5),(q1,q2,q3,q4,q5)):za6)])) (w6:=w9) (w7:=w10) hjD (by omega) b9 (by unfold zmm;dsimp only;rw[hll,za2];exact o9) (by rw[HDJ.out];exact g9) (by rw[HDJ.out];unfold zmm;dsimp only;rw[hll];exact hat9) (by unfold zmm;dsimp only;rw[hll];exact BD10) g10;have HW10:=Hz (WrOf.far (WrOf.row HW8 row8 g9 (by decide) (by decide) (by decide)) g10 BD9 (by decide) (by decide) (by decide));have HK10:=Hz ((HK8.row2 row8 g9 hb3).far g10 (by omega));have ST10:=Hz ST10;have HD10:Hid ((D.set c (A9,c9,lj++[((sz,rw,nn,bb,(p1,p2,p3,p4,p5),(q1,q2,q3,q4,q5)):za6)])).length=T.L.length/\((D.set c (A9,c9,lj++[((sz,rw,nn,bb,(p1,p2,p3,p4,p5),(q1,q2,q3,q4,q5)):za6)])).getD c chZ).2.2=(sp.take (q+1)).map (zd0 T.L T.E T.dat c)/\ ∀i,i<T.L.length->i≠c->((D.set c (A9,c9,lj++[((sz,rw,nn,bb,(p1,p2,p3,p4,p5),(q1,q2,q3,q4,q5)):za6)])).getD i chZ).2.2=(Db.getD i chZ).2.2):=Hz ⟨by rw[qmw];exact HDL.out,by rw[zn2 hjD,hinfo.out,<-HDC.out],fun i hi hne=>by rw[zw0 hne];exact HDN.out i hi hne⟩
       generalize D.set c (A9,c9,lj++[((sz,rw,nn,bb,(p1,p2,p3,p4,p5),(q1,q2,q3,q4,q5)):za6)])=D10 at*;clear ST8 HW8 HK8 row8 RL o9 g9 b9 hat9 BD9 BD10 g10 hll F5 HDj ST7 HW7 HK7 b78 bd bdd ba hb1 hb2 hb3 hb4 hB8 HDC HDN HDL HDJ hinfo HC hbz;go_wp2_with fail
       go_roundw
       case rel=>exact⟨q+1,D10,V',y',by omega,by go_num,ST10,HW10,HS2,HD10,HK10⟩
       case measure=>simp[intOf];omega
     ·obtain rfl:q=sp.length:=by omega
      have hc2:=HC.out;rw[qql] at hc2;have HG2:=Hz (show gpW T.L T.E T.dat T.pr ((a:Int),(b:Int)) (some (F,z)) (c+1)=some y by show chW T.L T.E T.dat c (gpW T.L T.E T.dat T.pr _ _ c) (zdp _ _ T.pr)=some y;rw[HG.out,<-HSP.out];exact hc2)
      have HD3:Hid (D.length=T.L.length/\ ∀i,i<T.L.length->(D.getD i chZ).2.2=if i<c+1 then sp.map (zd0 T.L T.E T.dat i) else []):=Hz ⟨HD2.out.1,fun i hi=>by
       obtain⟨d1,d2,d3⟩:=HD2.out;rw[qql] at d2;by_cases hic:i=c
       ·subst hic
        rw[d2,if_pos (qrq _)]
       ·rw[d3 i hi hic,HD.out.2 i hi]
        by_cases hlt:i<c
        ·rw[if_pos hlt,if_pos (by omega)]
        ·rw[if_neg hlt,if_neg (by omega)]⟩
      clear hc2 HC HG HD HD2 HGO;go_wp2_with fail
      go_roundw
      case rel=>exact⟨c+1,D,V,y,by omega,by go_num,ST,HW,HG2,HD3,HK⟩
      case measure=>simp[intOf];omega
   ·obtain rfl:c=T.L.length:=by omega
    have hx:X=some x:=by rw[HX.out];exact HG.out
    subst hx;obtain⟨x0,x1⟩:=zbz ST.out.tab;have BZ:=ST.out.res;clear HX HG
    go_wp2_with (refine zah rfl 114 (.tmp 4) (.tmp 72) rfl (w.heap.size+1) _ rfl rfl BZ (by kernel_rfl) rfl (by simp[Value.oneCell']) ?_
                 intro w8 BR G8;obtain⟨r0,r1⟩:=zbz BR)
    obtain⟨hd1,hd2⟩:=HD.out;have hlo:=HBB.out;refine bodyPost_ret (v:= .tuple #[.agg #[.int .i64 ((b:Int)-(a:Int)),.slice (some ⟨gcs,0,none⟩) T.L.length T.L.length],.bool true]) (by simp[results,Tryz.results51,go_sem,r0,r1]) rfl ⟨some ⟨gcs,0,none⟩,D,by rw[hd1],?_,⟨?_,?_⟩,⟨V,WrOf.far HW.out G8 BZ (by decide) (by decide) (by decide)⟩,HK.out.far G8 (by omega),zbj ST.out.new G8 (by have:=HN0.out;omega) (qmt _)⟩
    ·unfold zdr
     dsimp only;refine qm7 (by rw[qpg,qpg,qph,hd1]) (fun i h1 h2=>?_);have hi:i<T.L.length:=by rw[qpg,qph] at h2;exact h2
     have:=hd2 i hi;rw[if_pos hi,qoa,qmm (by omega)] at this;rw[qn8,qn8,List.getElem_range,<-HSP.out];exact this
    ·have od:wr.ownsRow B 136 1 (.slice (some ⟨gcs,0,none⟩) D.length D.length) D.length (recs chV D):=by
      refine⟨zau (sz:=1) (fun _=>rfl) D,.inr ⟨gcs,D.length,(recs chV D).toArray,rfl,HGT.out.2,ST.out.data,qmt _,by simp only[maxLen];omega,?_,?_⟩⟩
      ·rw[qnm,zau (sz:=1) (fun _=>rfl),qm0]
      ·rw[qnn]
       rw[zau (sz:=1) (fun _=>rfl),qm0];exact qmt _
     exact zeo (World.ownsRow.kept od G8 (.inr (zaj od BZ (by decide)))) (by omega)
    ·exact fun d hd=>zeo (World.ownsRow.kept (ST.out.rows.rows d hd) G8 (.inr (zaj (ST.out.rows.rows d hd) BZ (by decide)))) (by omega)
end Go.Proofs.Y
