import Derived.Test.YtbahbnbpmfgimaaGreatDoorBun32
set_option maxHeartbeats 2000000
set_option maxRecDepth 100000
namespace Go.Proofs.Y
open Go.RowKit Go.Hm
theorem qla:ElT Tryz.prog 93 95 (.slice none 0 0) 1 24:=⟨by kernel_rfl,by kernel_rfl,rfl,by omega⟩
theorem qlb:ElT Tryz.prog 95 22 (.slice none 0 0) 1 24:=⟨by kernel_rfl,by kernel_rfl,rfl,by omega⟩
theorem qhl:Tryz.prog.underlying 24=some (.slice (Tryz.prog.elem 24)):=by kernel_rfl
theorem qhm(w:World):(sizeOf (Tryz.prog.elem 24)).run Tryz.prog w= .ok 1 w:=by kernel_rfl
theorem zy1{w:World}{A:Option Addr}{cb:Nat}{b:List Nat}{Ac:Option Addr}{cc:Nat}{L:List zbi}{r:Int}{Ag:Option Addr}{cg:Nat}{G:List GrD}
 (hb:Reads w w.heap.size 1 A b.length (zah .u8 b))(hbl:b.length<=140737488351232)(hbc:b.length<=cb)(hcb:cb<=9223372036854775807)
 (h:FootIn w Ac cc L Ag G)(hok:zb0 (zb5 L r G))(hs:4+szG (G.map grP)<=b.length):
 Calls Tryz.prog 43 #[.slice A b.length cb,zln Ac cc L r Ag cg G] w (SheCutPostA A (G.map grP) b w):=by
 have hFG:(zb5 L r G).groups=G.map grP:=rfl;obtain⟨n1,n2,n3⟩:=z1c hok;have hpos:=zlt hok;rw[hFG,qos] at n1 n3;rw[hFG] at hpos;have hD:∀k,k<G.length->(G.map grP).getD k zaq=grP (G.getD k grZ):=fun k hk=>zbw grP G grZ zaq hk
 have HDL:=qrf (fun(k:Nat) (hk:k<G.length)=>show(G.getD k grZ).2.2.2.length=L.length/\((G.map grP).getD k zaq).2.length=(G.getD k grZ).2.2.2.length by have:=(n3 k hk).1;rw[hD k hk] at this⊢;unfold grP at this⊢;dsimp only at this⊢;rw[qos] at this⊢;exact⟨this,rfl⟩)
 have hPA:=fun(k:Nat) (hk:k<G.length) (j:Nat) (hj:j<(G.getD k grZ).2.2.2.length)=>show za0 (G.map grP) k j=((G.getD k grZ).2.2.2.getD j chZ).2.2 by unfold za0;rw[zbw grP G grZ zaq hk];exact zbw (fun x:ChD=>x.2.2) (G.getD k grZ).2.2.2 chZ [] hj
 have hC0:=zjq (G.map grP) (b.drop 4);rw[qos] at hC0;have hC1:=fun(k:Nat) (hk:k<G.length)=>show((zfx (G.map grP) (b.drop 4)).getD k []).length=(G.getD k grZ).2.2.2.length by rw[zi1 _ _ _ (by rw[qos];exact hk),zlr];exact(HDL.out k hk).2
 have hC2:=fun(k:Nat) (hk:k<G.length) (j:Nat) (hj:j<(G.getD k grZ).2.2.2.length)=>show(((zfx (G.map grP) (b.drop 4)).getD k []).getD j []).length=((G.getD k grZ).2.2.2.getD j chZ).2.2.length by rw[zi1 _ _ _ (by rw[qos];exact hk),cutC_at _ _ _ (by rw[(HDL.out k hk).2];exact hj),zjp];have:=hPA k hk j hj;unfold za0 at this;rw[this]
 have VP:=fun(k:Nat) (hk:k<G.length) (j:Nat) (hj:j<(G.getD k grZ).2.2.2.length) (q:Nat) (hq:q<((G.getD k grZ).2.2.2.getD j chZ).2.2.length)=>
  show(0<=(((G.getD k grZ).2.2.2.getD j chZ).2.2.getD q zb1).1/\(((G.getD k grZ).2.2.2.getD j chZ).2.2.getD q zb1).1<=268435456)/\zod (G.map grP) k j (q+1)=zod (G.map grP) k j q+(((G.getD k grZ).2.2.2.getD j chZ).2.2.getD q zb1).1.toNat/\zod (G.map grP) k j (q+1)<=b.length
   /\(((zfx (G.map grP) (b.drop 4)).getD k []).getD j []).getD q []=(b.drop (zod (G.map grP) k j q)).take (((G.getD k grZ).2.2.2.getD j chZ).2.2.getD q zb1).1.toNat by
  have e:=hPA k hk j hj;have:=zwk (F:=zb5 L r G) (b:=b) hs (k:=k) (j:=j) (q:=q) (by rw[hFG,qos];exact hk) (by rw[hFG,(HDL.out k hk).2];exact hj) (by rw[hFG,e];exact hq);rw[hFG,e] at this;refine⟨?_,this⟩;have:=hpos (grP (G.getD k grZ)) (qly.2 ⟨_,zax grZ hk,rfl⟩) ((G.getD k grZ).2.2.2.getD j chZ).2.2 (by unfold grP;exact qly.2 ⟨_,zax chZ hj,rfl⟩) _ (zax zb1 hq);omega
 have VC:=fun(k:Nat) (hk:k<G.length) (j:Nat) (hj:j<(G.getD k grZ).2.2.2.length)=>show zod (G.map grP) k j ((G.getD k grZ).2.2.2.getD j chZ).2.2.length=zod (G.map grP) k (j+1) 0/\((G.getD k grZ).2.2.2.getD j chZ).2.2.length<=65536 by have e:=hPA k hk j hj;have:=z3y (G:=G.map grP) (k:=k) (j:=j) (by rw[(HDL.out k hk).2];exact hj);rw[e] at this;refine⟨this,?_⟩;have:=(n3 k hk).2 j (by have:=(HDL.out k hk).1;unfold zb5;dsimp only;omega);rw[e] at this;exact this
 have VG:=fun(k:Nat) (hk:k<G.length)=>show zod (G.map grP) k (G.getD k grZ).2.2.2.length 0=zod (G.map grP) (k+1) 0 0 by have:=z3z (G:=G.map grP) (k:=k) (by rw[qos];exact hk);rw[(HDL.out k hk).2] at this;exact this
 have VZ:=qrf (z88 (G.map grP));unfold SheCutPostA;generalize zod (G.map grP)=V at*;generalize zfx (G.map grP) (b.drop 4)=CG at*;have hL64:L.length<=64:=n2;have HN3:=qrf (fun(k:Nat) (hk:k<G.length)=>show(G.getD k grZ).2.2.2.length<=64 by have:=(HDL.out k hk).1;omega);have HVP:=qrf VP;have HVC:=qrf VC;have HVG:=qrf VG;have HC0:=qrf hC0;have HC1:=qrf hC1;have HC2:=qrf hC2;have HR:=qrf hb;have HF:=qrf h;have HBC:=qrf (qok hbl (qok hbc hcb));have hfew2:G.length<=65536:=n1;clear VP VC VG hC0 hC1 hC2 hpos hD hPA n1 n2 n3 hFG hok hs hb h hbl hbc hcb HDL hL64;have b0:New w (w.alloc (.cells #[.slice Ac L.length cc,.int .i64 r,.slice Ag G.length cg] 79)):=(qq8 _ _).alloc (ql6 _) _;have B0:=qrv w 79 #[.slice Ac L.length cc,.int .i64 r,.slice Ag G.length cg];obtain⟨x0,x1,x2⟩:=zar B0;unfold zln;go_enter Tryz.func43,Tryz.ntmps43
 go_upto_region 3 with(refine zmg qla rfl (.tmp 15) (.tmp 15) rfl G.length rfl rfl rfl rfl rfl (by omega) (by simp only[maxLen];omega) ?_
                       intro w1 BO b1 z1)
 have B1:=B0.below b1 B0.lt;have b01:=qr0 b0 b1;clear x0 x1 x2 B0 b0;obtain⟨x0,x1,x2⟩:=zar B1;simp only[qrq] at BO z1⊢;go_wp2_with fail
 generalize hgo:w.heap.size+1=go at*;have HGO:=qrf hgo;clear hgo x0 x1 x2 b1;go_loopw [5,20] (fun a i wr=>∃(k n:Nat) (X:List zmu),k<=G.length/\i= .int .i64 (k:Int)/\a= .int .i64 (n:Int)/\Hid (n=V k 0 0)/\Hid (X.map gpP=CG.take k)/\Hid (X.length=k)/\Blk wr go 95 (recs zwj X++List.replicate (G.length-k) (Value.slice none 0 0)).toArray/\Hid (∀g∈X,RowRAt wr go g/\ ∀r∈g.2.2,r.2.1=r.2.2.length/\ ∀d∈r.2.2,PieceOf A w d)/\New w wr) (fun _ i _=>G.length-(intOf i).toNat)
 case atStart=>exact⟨0,4,[],ql7 _,rfl,rfl,qrf VZ.out.symm,qrf rfl,qrf rfl,by simpa[recs] using BO,qrf (by simp),b01⟩
 case round=>
  obtain⟨k,n,X,hk,rfl,rfl,HN,HX,HXl,BO,HX2,bw⟩:=hrel;clear b01 B1 z1;by_cases hlt:k<G.length
  ·obtain⟨ad,rfl,hb,d0,d1⟩:=(qsg HF.out.groups bw).gr2 hlt
   have hgm:=zax grZ hlt;have hch:=HF.out.chunks _ hgm;have hpg:=HF.out.pages _ hgm;have hN3:=HN3.out k hlt;have VPk:=HVP.out k hlt;have VCk:=HVC.out k hlt;have VGk:=qrf (HVG.out k hlt);have C1k:=HC1.out k hlt;have C2k:=HC2.out k hlt;clear hb hgm;generalize G.getD k grZ=gg at*;obtain⟨gr,Ach,cch,D⟩:=gg;dsimp only at d0 d1 hch hpg hN3 VPk VCk VGk C1k C2k;obtain⟨Gk,hGk⟩:∃Gk,Gk=CG.getD k []:=⟨_,rfl⟩;rw[<-hGk] at VPk C1k C2k;have HGk:=qrf hGk;have VPk:=qrf VPk;have VCk:=qrf VCk;have C1k:=qrf C1k;have C2k:=qrf C2k;have HCHk:=qrf hch.1;have HPGk:=qrf hpg;have ha:New wr (wr.alloc (.cells #[.int .i64 gr,.slice Ach D.length cch] 114)):=(qq8 _ _).alloc (ql6 _) _;have BG:=qrv wr 114 #[.int .i64 gr,.slice Ach D.length cch];have BO1:=BO.below ha BO.lt;have bw1:=qr0 bw ha;obtain⟨z0,z1⟩:=zb6 BG;have hsz:(wr.alloc (.cells #[.int .i64 gr,.slice Ach D.length cch] 114)).heap.size=wr.heap.size+1:=by simp
   have hgw:=BO.lt;clear ha hch hpg BO hGk;go_upto_region 7 with(first
    |(refine zmg qlb rfl (.tmp 29) (.tmp 29) rfl D.length rfl rfl rfl rfl rfl (by omega) (by simp only[maxLen];omega) ?_
      intro w2 BM b2 z2;have BO2:=BO1.below b2 BO1.lt;have BG2:=BG.below b2 BG.lt;rw[hsz] at BM z2;have bw2:=qr0 bw1 b2;have HK2:=qrf (fun(q:Nat) (h2:q<wr.heap.size)=>show w2.heap[q]? =wr.heap[q]? by rw[b2.block q (by rw[hsz];omega)];exact Below.heap_alloc _ _ _ h2);clear BO1 BG b2 z0 z1 d0 d1 bw1)
    |(refine ze5 rfl 95 (.tmp 31) (.tmp 30) rfl go k (.slice (some ⟨wr.heap.size+1,0,none⟩) D.length D.length) rfl rfl BO2 (by rw[zht (fun _=>rfl),HXl.out];omega) (by kernel_rfl) rfl ?_
      intro w3 BO3 g3 z3))
   have hgg:=hgw;obtain⟨gm,hgm⟩:∃gm,gm=wr.heap.size+1:=⟨_,rfl⟩;have hgo1:=HGO.out;have BM3:=BM.grown g3 (by intro e;injection e with e;omega);have BG3:=BG2.grown g3 (by intro e;injection e with e;omega);have bw3:=zbo bw2 g3 (by omega) (ql6 _);have HX5:=qrf (fun(W:World) (hW:Below gm w3 W) (g:zmu) (hg:g∈X)=>(HX2.out g hg).1.mv (hi:=wr.heap.size) (ql6 _) (fun q h1 h2=>by rw[hW.block q (by omega),g3.block q (by omega) (by intro e;injection e with e;omega)];exact HK2.out q h2))
   have HX6:=qrf (fun g hg=>(HX2.out g hg).2);have hgm3:gm<w3.heap.size:=by omega
   have hgmo:go<gm:=by omega
   rw[<-hgm] at BM3 BO3;have hCS:∃CS,CS=(recs zwj X++List.replicate (G.length-k) (Value.slice none 0 0)).toArray.setIfInBounds k (.slice (some ⟨gm,0,none⟩) D.length D.length):=⟨_,rfl⟩;obtain⟨CS,hCS⟩:=hCS;rw[<-hCS] at BO3;have hCk:CS[k]? =some (.slice (some ⟨gm,0,none⟩) D.length D.length):=by rw[hCS,qqx (by rw[zht (fun _=>rfl),HXl.out];omega)]
   have HCS:=qrf hCS;have HCk:=qrf hCk;obtain⟨z0,z1⟩:=zb6 BG3;have HGM:=qrf (qok hgm3 hgmo);clear hgm hCS hCk BO2 BM BG2 bw2 HK2 HX2 g3 z2 z3 hsz hgg hgw BG3 hgo1 hgm3 hgmo;generalize wr=w0 at*;go_wp2_with fail
   clear z0 z1;go_loopw [5,35] (fun a i wr=>∃(j n:Nat) (Y:List zi3),j<=D.length/\i= .int .i64 (j:Int)/\a= .int .i64 (n:Int)/\Hid (n=V k j 0)/\Hid (Y.map rwP=Gk.take j)/\Hid (Y.length=j)/\Blk wr gm 22 (recs zp7 Y++List.replicate (D.length-j) (Value.slice none 0 0)).toArray/\Hid (∀r∈Y,RowBAt wr gm r/\r.2.1=r.2.2.length/\ ∀d∈r.2.2,PieceOf A w d)/\Below gm w3 wr) (fun _ i _=>D.length-(intOf i).toNat)
   case atStart=>exact⟨0,n,[],ql7 _,rfl,rfl,HN,qrf rfl,qrf rfl,by simpa[recs] using BM3,qrf (by simp),qq8 _ _⟩
   case round=>
    clear HN;obtain⟨j,n,Y,hj,rfl,rfl,HN,HY,HYl,BM,HY2,bm⟩:=hrel;clear BM3;have bwr:New w wr:=qrh bw3 (qri bm (by have:=bw3.size;have:=HGM.out;have:=HGO.out;omega));by_cases hlj:j<D.length
    ·obtain⟨ac,rfl,hbc,e0⟩:=(qsg HCHk.out bwr).ch1 hlj
     have hxm:=zax chZ hlj;have hpx:=HPGk.out _ hxm;have VPj:=VPk.out j hlj;have VCj:=VCk.out j hlj;have C2j:=C2k.out j hlj;clear hbc hxm;generalize D.getD j chZ=x at*;obtain⟨Ax,cx,pl⟩:=x;dsimp only at e0 hpx VPj VCj C2j;obtain⟨Gj,hGj⟩:∃Gj,Gj=Gk.getD j []:=⟨_,rfl⟩;rw[<-hGj] at VPj C2j;have HGj:=qrf hGj;have VPj:=qrf VPj;have hpl:=VCj.2;have VCj:=qrf VCj.1;have C2j:=qrf C2j;have HPL:=qrf hpx.1;have c9:wr.cell? ⟨go,k,none⟩=some (.slice (some ⟨gm,0,none⟩) D.length D.length):=by rw[(BO3.below bm HGM.out.2).cell,HCk.out]
     have hgmw:=BM.lt;have F:=qrf (fun(W:World) (hW:Far gm wr.drew W)=>show W.cell? ⟨go,k,none⟩=some (.slice (some ⟨gm,0,none⟩) D.length D.length) by rw[World.cell?_of_block (hW.block go (by have:=(BO3.below bm HGM.out.2).lt;exact this) (by intro e;injection e with e;have:=HGM.out.2;omega))];exact c9)
     have hki:(k:Int)<(G.length:Int):=by omega
     have hji:(j:Int)<(D.length:Int):=by omega
     clear hpx hGj c9;go_wp2_with fail
     refine zaw (Far gm) [(true,0),(true,1),(true,2),(true,3),(true,4),(true,5),(true,6),(false,7),(true,8),(false,9)]
      (qr2 gm) qr3 (by kernel_rfl) (by kernel_rfl) (by kernel_rfl) (by kernel_rfl) ?_
     repeat(refine zaj rfl rfl (v:=?_) (fun W hQ=>?_) ?_;rotate_left;(have c9:=F.out W hQ;go_simp<;> with_reducible rfl);simp only[Act.put,qoi,qn8,qoj])
     refine za6 rfl rfl (fun K hK=>?_);refine z6o qk2 (.tmp 46) (.tmp 46) rfl pl.length rfl rfl rfl rfl rfl (by omega) (by simp only[maxLen];omega) ?_;intro w5 BN b5 z5;refine hK _ _ (qr4 b5) ?_;clear hK;simp only[Act.put,qoi,qn8,qoj];have f5:Far gm wr.drew w5:=qr4 b5;refine zaj rfl rfl (v:=?_) (fun W hQ=>?_) ?_;rotate_left;(have c9:=F.out W (f5.trans hQ);go_simp<;> with_reducible rfl);simp only[Act.put,qoi,qn8,qoj];refine za6 rfl rfl (fun K hK=>?_);have BM5:=BM.drew.below b5 BM.lt;have BN:Blk w5 wr.heap.size 24 (List.replicate pl.length (Value.slice none 0 0)).toArray:=BN;have z5:w5.heap.size=wr.heap.size+1:=z5;refine zkz 22 (.tmp 48) (.tmp 47) rfl gm j (.slice (some ⟨wr.heap.size,0,none⟩) pl.length pl.length) rfl rfl BM5 (by rw[zht (fun _=>rfl),HYl.out];omega) (by kernel_rfl) rfl ?_;intro w6 BM6 g6 z6;refine hK _ _ g6 ?_;clear hK F;refine zda ?_;obtain⟨gc,hgc⟩:∃gc,gc=wr.heap.size:=⟨_,rfl⟩;have BN6:=BN.grown g6 (by intro e;injection e with e;omega);have f6:=f5.trans g6;have BO6:=(BO3.below bm HGM.out.2).drew.grown f6 (by intro e;injection e with e;have:=HGM.out.2;omega);have bm6:Below gm w3 w6:=zbo bm.drew f6 (ql6 _) (by have:=HGM.out.1;omega);have hDS:∃DS,DS=(recs zp7 Y++List.replicate (D.length-j) (Value.slice none 0 0)).toArray.setIfInBounds j (.slice (some ⟨gc,0,none⟩) pl.length pl.length):=⟨_,rfl⟩;obtain⟨DS,hDS⟩:=hDS;rw[<-hgc] at BM6 BN6;rw[<-hDS] at BM6;have hDj:DS[j]? =some (.slice (some ⟨gc,0,none⟩) pl.length pl.length):=by rw[hDS,qqx (by rw[zht (fun _=>rfl),HYl.out];omega)]
     have HDS:=qrf hDS;have HDj:=qrf hDj;have HY5:=qrf (fun(W:World) (hW:Below gc w6 W) (r:zi3) (hr:r∈Y)=>(HY2.out r hr).1.mv (hi:=gc) (by omega) (fun q h1 h2=>by rw[hW.block q h2];exact f6.block q (by rw[hgc] at h2;exact h2) (by intro e;injection e with e;omega)))
     have HY6:=qrf (fun r hr=>(HY2.out r hr).2);have HGC:=qrf (show gm<gc/\w6.heap.size=gc+1 by omega);have bw6:New w w6:=qrh bw3 (qri bm6 (by have:=bw3.size;have:=HGM.out;have:=HGO.out;omega));clear hgc hDS hDj BN BM5 b5 f5 f6 BM HY2 z5 z6 g6 bm bwr hgmw;clear e0;generalize wr=w8 at*;go_wp2_with fail
     go_loopw [5,51] (fun a i wr=>∃(q n:Nat) (Z:List zgp),q<=pl.length/\i= .int .i64 (q:Int)/\a= .int .i64 (n:Int)/\Hid (n=V k j q)/\Hid (Z.map byP=Gj.take q)/\Hid (Z.length=q)/\Blk wr gc 24 (recs zgq Z++List.replicate (pl.length-q) (Value.slice none 0 0)).toArray/\Hid (∀d∈Z,PieceOf A w d)/\Below gc w6 wr) (fun _ i _=>pl.length-(intOf i).toNat)
     case atStart=>exact⟨0,n,[],ql7 _,rfl,rfl,HN,qrf rfl,qrf rfl,by simpa[recs] using BN6,qrf (by simp),qq8 _ _⟩
     case round=>
      clear HN;obtain⟨q,n,Z,hq,rfl,rfl,HN,HZ,HZl,BN,HZ2,bc⟩:=hrel;clear BN6;by_cases hlq:q<pl.length
      ·have hlo:w.heap.size<gc:=by have:=HGM.out;have:=HGO.out;have:=HGC.out;omega
       have bwr:New w wr:=qrh bw6 (qri bc (by omega));obtain⟨ap,rfl,hbp,d0,d1,d2,d3,d4,d5,d6,d7,d8,d9,d10,d11,d12,d13⟩:=(qsg HPL.out bwr).page14 hlq;obtain⟨⟨s0,s1⟩,v2,v3,v4⟩:=VPj.out q hlq;generalize pl.getD q zb1=p at*;obtain⟨sz,rw,nn,bb,⟨p1,p2,p3,p4,p5⟩,⟨q1,q2,q3,q4,q5⟩⟩:=p;dsimp only at d0 d1 d2 d3 d4 d5 d6 d7 d8 d9 d10 d11 d12 d13 s0 s1 v2 v4;obtain⟨sn,rfl⟩:=qn1 s0;simp only[qmt] at v2 v4;have hn:=HN.out;rw[<-hn] at v2 v4;have hle:n+sn<=b.length:=by omega
       have H2:=qrf v2;have H4:=qrf v4;obtain⟨hbl,hbc1,hbc2⟩:=HBC.out;have S1:∀W,(Instr.sliceAt 24 (.slice A b.length cb) (some (.int .i64 (n:Int))) (some (.int .i64 ((n:Int)+(sn:Int)))) none).run Tryz.prog W= .ok (.slice (if cb=n then A else A.map (·.add (n*1))) sn (cb-n)) W:=fun W=>by have:=zhu qhl qhm A b.length cb n (n+sn) (by omega) (by omega) W;rwa[show((n+sn:Nat):Int)=(n:Int)+(sn:Int) by omega,show n+sn-n=sn by omega] at this
       have hsl:((b.drop n).take sn).length=sn:=by rw[ql2,ql0];omega
       have PI:PieceOf A w ((if cb=n then A else A.map (·.add (n*1))),cb-n,(b.drop n).take sn):=by refine⟨⟨?_,by dsimp only;rw[hsl];omega,by dsimp only;omega⟩,z87⟩;unfold BytIn;dsimp only;rw[hsl];have:=(HR.out.cut (k:=n) (cap:=cb) (by omega) hbc1).take (k:=sn) (by omega);simpa only[qmd,zei,ze2] using this
       generalize(if cb=n then A else A.map (·.add (n*1)))=A2 at*;generalize cb-n=c2 at*;have PI:=qrf PI;have S1:=qrf S1;have hsl:=qrf hsl;have hni:(n:Int)+(sn:Int)<=140737488351232:=by omega
       have hwi:=qrf (show IntKind.i64.wrap ((n:Int)+(sn:Int))=(n:Int)+(sn:Int) by rw[qrl];omega);have ha:New wr (wr.alloc (.cells #[.int .i64 (sn:Int),.int .i64 rw,.int .i64 nn,.bool bb,.bool p1,.int .i64 p2,.string (zai p3),.int .i64 p4,.int .i64 p5,.bool q1,.int .i64 q2,.string (zai q3),.int .i64 q4,.int .i64 q5] 135)):=(qq8 _ _).alloc (ql6 _) _;have BP:=qrv wr 135 #[.int .i64 (sn:Int),.int .i64 rw,.int .i64 nn,.bool bb,.bool p1,.int .i64 p2,.string (zai p3),.int .i64 p4,.int .i64 p5,.bool q1,.int .i64 q2,.string (zai q3),.int .i64 q4,.int .i64 q5];obtain⟨wb,hwb⟩:∃wb,wb=wr.alloc (.cells #[.int .i64 (sn:Int),.int .i64 rw,.int .i64 nn,.bool bb,.bool p1,.int .i64 p2,.string (zai p3),.int .i64 p4,.int .i64 p5,.bool q1,.int .i64 q2,.string (zai q3),.int .i64 q4,.int .i64 q5] 135):=⟨_,rfl⟩;rw[<-hwb] at ha BP;have BNb:=BN.below ha BN.lt;have hwrz:=ha.size;have hgcz:=BN.lt;have BOb:=(BO6.below bc (by have:=HGM.out;have:=HGC.out;omega)).below ha (by have:=HGM.out;have:=HGC.out;omega);have BMb:=(BM6.below bc (by have:=HGC.out;omega)).below ha (by have:=HGC.out;omega);have c9:wb.cell? ⟨go,k,none⟩=some (.slice (some ⟨gm,0,none⟩) D.length D.length):=by rw[BOb.cell,HCk.out]
       have c8:wb.cell? ⟨gm,j,none⟩=some (.slice (some ⟨gc,0,none⟩) pl.length pl.length):=by rw[BMb.cell,HDj.out]
       have c7:=(zd6 BP).1;have F:=qrf (fun(W:World) (hW:Far gc wb.drew W)=>show W.cell? ⟨go,k,none⟩=some (.slice (some ⟨gm,0,none⟩) D.length D.length)/\W.cell? ⟨gm,j,none⟩=some (.slice (some ⟨gc,0,none⟩) pl.length pl.length)/\W.cell? ⟨wr.heap.size,0,none⟩=some (.int .i64 (sn:Int)) by
        refine⟨?_,?_,?_⟩
        ·rw[World.cell?_of_block (hW.block go BOb.lt (by intro e;injection e with e;have:=HGM.out;have:=HGC.out;omega))];exact c9
        ·rw[World.cell?_of_block (hW.block gm BMb.lt (by intro e;injection e with e;have:=HGC.out;omega))];exact c8
        ·rw[World.cell?_of_block (hW.block wr.heap.size BP.lt (by intro e;injection e with e;omega))];exact c7)
       have hki:(k:Int)<(G.length:Int):=by omega
       have hji:(j:Int)<(D.length:Int):=by omega
       have hqi:(q:Int)<(pl.length:Int):=by omega
       have HWB:=qrf hwb;have BC:=qrf (show Below gc w6 wb from qrh bc (qri ha (by omega)));clear v2 v3 v4 hbp hn hle hbl hbc1 hbc2 BOb BMb c9 c8 c7 hwb bc bwr hlo s0 s1 hwrz ha HBC;go_wp2_with fail
       rw[<-HWB.out];refine zaw (Far gc) [(true,0),(true,1),(true,2),(true,3),(true,4),(true,5),(true,6),(true,7),(true,8),(true,9),(true,10),(true,11),(true,12),(true,13),(true,14),(true,15),(false,16)]
        (qr2 gc) qr3 (by kernel_rfl) (by kernel_rfl) (by kernel_rfl) (by kernel_rfl) ?_
       repeat(refine zaj rfl rfl (v:=?_) (fun W hQ=>?_) ?_;rotate_left;(obtain⟨c9,c8,c7⟩:=F.out W hQ;have S2:=S1.out W;have hw2:=hwi.out;go_simp<;> with_reducible rfl);simp only[Act.put,qoi,qn8,qoj])
       refine za6 rfl rfl (fun K hK=>?_);refine zkz 24 (.tmp 71) (.tmp 70) rfl gc q (.slice A2 sn c2) rfl rfl BNb.drew (by rw[zht (fun _=>rfl),HZl.out];omega) (by kernel_rfl) rfl ?_;intro w9 BN9 g9 z9;refine hK _ _ g9 ?_;clear hK F;refine zda ?_;have g9:wb.grownBy w9 (some gc):=qr3 (Far.drew gc wb) g9;have BP9:=BP.grown g9 (by intro e;injection e with e;omega);obtain⟨c7,-⟩:=zd6 BP9;rw[show pl.length-q=(pl.length-(q+1))+1 by omega,zp9 (f:=zgq) (fun _=>rfl) Z (A2,c2,(b.drop n).take sn) q _ HZl.out (show zgq (A2,c2,(b.drop n).take sn)=[.slice A2 sn c2] by unfold zgq;dsimp only;rw[hsl.out])] at BN9;have BC9:=qrf (zbo BC.out g9 (ql6 _) (by have:=HGC.out;omega));have HZ9:=qrf (show(Z++[(A2,c2,(b.drop n).take sn)]).map byP=Gj.take (q+1) by rw[qpj,HZ.out,zae Gj q [] (by rw[C2j.out];exact hlq),H4.out];rfl)
       have HZl9:=qrf (show(Z++[(A2,c2,(b.drop n).take sn)]).length=q+1 by rw[qmv,HZl.out];rfl);have HZ29:Hid (∀d∈Z++[(A2,c2,(b.drop n).take sn)],PieceOf A w d):=qrf (by
        intro d hd;rcases qnd.1 hd with hd|hd
        ·exact HZ2.out d hd
        ·obtain rfl:=qne.1 hd
         exact PI.out)
       generalize Z++[(A2,c2,(b.drop n).take sn)]=Z2 at*;have HN9:=qrf (show n+sn=V k j (q+1) from H2.out.symm);clear HZ HZl HZ2 PI hsl H2 H4 BC BP BP9 BN BNb S1 HN g9 z9 d0 d1 d2 d3 d4 d5 d6 d7 d8 d9 d10 d11 d12 d13;go_wp2_with fail
       go_roundw
       case rel=>exact⟨q+1,n+sn,Z2,by omega,by go_num,by go_num,HN9,HZ9,HZl9,BN9,HZ29,BC9.out⟩
       case measure=>simp[intOf];omega
      ·obtain rfl:q=pl.length:=by omega
       have BMe:=BM6.below bc (by have:=HGC.out;omega);rw[HDS.out,show D.length-j=(D.length-(j+1))+1 by omega,zp9 (f:=zp7) (fun _=>rfl) Y (some ⟨gc,0,none⟩,pl.length,Z) j _ HYl.out (show zp7 (some ⟨gc,0,none⟩,pl.length,Z)=[.slice (some ⟨gc,0,none⟩) pl.length pl.length] by unfold zp7;dsimp only;rw[HZl.out])] at BMe;have hZZ:=HZ.out;rw[qm0 (by rw[C2j.out];exact ql6 _)] at hZZ;have HYe:=qrf (show(Y++[((some ⟨gc,0,none⟩,pl.length,Z):zi3)]).map rwP=Gk.take (j+1) by rw[qpj,HY.out,zae Gk j [] (by rw[C1k.out];exact hlj),<-HGj.out,<-hZZ];rfl)
       have HYle:=qrf (show(Y++[((some ⟨gc,0,none⟩,pl.length,Z):zi3)]).length=j+1 by rw[qmv,HYl.out];rfl);rw[qn6,qpq,qmg] at BN;have HYe2:Hid (∀r∈Y++[((some ⟨gc,0,none⟩,pl.length,Z):zi3)],RowBAt wr gm r/\r.2.1=r.2.2.length/\ ∀d∈r.2.2,PieceOf A w d):=qrf (by
        intro r hr;rcases qnd.1 hr with hr|hr
        ·exact⟨HY5.out wr bc r hr,HY6.out r hr⟩
        ·obtain rfl:=qne.1 hr
         exact⟨⟨gc,HGC.out.1,rfl,HZl.out.symm,BN⟩,HZl.out.symm,HZ2.out⟩)
       have BCe:=qrf (show Below gm w3 wr from qrh bm6 (qri bc (by have:=HGC.out;omega)));have HNe:=qrf (show n=V k (j+1) 0 by rw[HN.out,VCj.out]);generalize Y++[((some ⟨gc,0,none⟩,pl.length,Z):zi3)]=Y2 at*;clear HZ HZl HZ2 hZZ BN BM6 BO6 bc HN HY HYl HY5 HY6;go_wp2_with fail
       go_roundw
       case rel=>exact⟨j+1,n,Y2,by omega,by go_num,rfl,HNe,HYe,HYle,BMe,HYe2,BCe.out⟩
       case measure=>simp[intOf];omega
    ·obtain rfl:j=D.length:=by omega
     have BOe:=BO3.below bm HGM.out.2;rw[HCS.out,show G.length-k=(G.length-(k+1))+1 by omega,zp9 (f:=zwj) (fun _=>rfl) X (some ⟨gm,0,none⟩,D.length,Y) k _ HXl.out (show zwj (some ⟨gm,0,none⟩,D.length,Y)=[.slice (some ⟨gm,0,none⟩) D.length D.length] by unfold zwj;dsimp only;rw[HYl.out])] at BOe;have hYY:=HY.out;rw[qm0 (by rw[C1k.out];exact ql6 _)] at hYY;have HXe:=qrf (show(X++[((some ⟨gm,0,none⟩,D.length,Y):zmu)]).map gpP=CG.take (k+1) by rw[qpj,HX.out,zae CG k [] (by rw[HC0.out];exact hlt),<-HGk.out,<-hYY];rfl)
     have HXle:=qrf (show(X++[((some ⟨gm,0,none⟩,D.length,Y):zmu)]).length=k+1 by rw[qmv,HXl.out];rfl);rw[qn6,qpq,qmg] at BM;have HXe2:Hid (∀g∈X++[((some ⟨gm,0,none⟩,D.length,Y):zmu)],RowRAt wr go g/\ ∀r∈g.2.2,r.2.1=r.2.2.length/\ ∀d∈r.2.2,PieceOf A w d):=qrf (by
      intro g hg;rcases qnd.1 hg with hg|hg
      ·exact⟨HX5.out wr bm g hg,HX6.out g hg⟩
      ·obtain rfl:=qne.1 hg
       exact⟨⟨gm,HGM.out.2,rfl,HYl.out.symm,BM,fun r hr=>(HY2.out r hr).1⟩,fun r hr=>(HY2.out r hr).2⟩)
     have HNe:=qrf (show n=V (k+1) 0 0 by rw[HN.out,VGk.out]);have bwr:=qrf bwr;generalize X++[((some ⟨gm,0,none⟩,D.length,Y):zmu)]=X2 at*;clear HX HXl HX5 HX6 hYY BM BO3 bm HN HY HYl HY2 bw3;go_wp2_with fail
     go_roundw
     case rel=>exact⟨k+1,n,X2,by omega,by go_num,rfl,HNe,HXe,HXle,BOe,HXe2,bwr.out⟩
     case measure=>simp[intOf];omega
  ·obtain rfl:k=G.length:=by omega
   have hXX:=HX.out;rw[qm0 (by rw[HC0.out];exact ql6 _)] at hXX;rw[qn6,qpq,qmg] at BO;have HXX:=qrf hXX;have BO:=qrf BO;have bw:=qrf bw;clear hXX;go_wp2_with fail
   go_ret
   have hXl:=HXl.out;have hgo1:=HGO.out;refine⟨some ⟨go,0,none⟩,X,by rw[hXl];rfl,bw.out,⟨?_,fun ad h=>by injection h with h;subst h;show w.heap.size<=go;omega⟩,fun g hg=>?_,HXX.out⟩
   ·exact zg7 BO.out (by rw[zaz (sz:=1) (fun _=>rfl),qmd])
   ·obtain⟨h1,h2⟩:=HX2.out g hg
    obtain⟨h3,h4⟩:=h1.inn;obtain⟨kg,j1,j2,h5,_,j3⟩:=h1;refine⟨h5,⟨h3,fun ad h=>?_⟩,fun r hr=>⟨(h2 r hr).1,⟨h4 r hr,fun ad h=>?_⟩,fun d hd=>((h2 r hr).2 d hd).later bw.out⟩⟩
    ·rw[j2] at h;injection h with h;subst h;show w.heap.size<=kg;omega
    ·obtain⟨kr,i1,i2,_⟩:=j3 r hr
     rw[i2] at h;injection h with h;subst h;show w.heap.size<=kr;omega
end Go.Proofs.Y
