/- Merged. -/
import Derived.Test.YtbahbnbpmfgimaaGreatDoorBun28
set_option maxHeartbeats 2000000
namespace Go.Proofs.Y
open Go.RowKit Go.Hm
theorem qme:ElT Tryz.prog 93 95 (.slice none 0 0) 1 24:=⟨by kernel_rfl,by kernel_rfl,rfl,by omega⟩
theorem qmf:ElT Tryz.prog 95 22 (.slice none 0 0) 1 24:=⟨by kernel_rfl,by kernel_rfl,rfl,by omega⟩
theorem qif:Tryz.prog.underlying 24=some (.slice (Tryz.prog.elem 24)):=by kernel_rfl
theorem qig(w:World):(sizeOf (Tryz.prog.elem 24)).run Tryz.prog w= .ok 1 w:=by kernel_rfl
set_option maxRecDepth 100000 in
theorem zzo{w:World}{A:Option Addr}{cb:Nat}{b:List Nat}{Ac:Option Addr}{cc:Nat}{L:List zbb}{r:Int}{Ag:Option Addr}{cg:Nat}{G:List GrD}
 (hb:Reads w w.heap.size 1 A b.length (zan .u8 b))(hbl:b.length<=140737488351232)(hbc:b.length<=cb)(hcb:cb<=9223372036854775807)
 (h:FootIn w Ac cc L Ag G)(hok:zbu (zbx L r G))(hs:4+szG (G.map grP)<=b.length):
 Calls Tryz.prog 43 #[.slice A b.length cb,zli Ac cc L r Ag cg G] w (SheCutPostA A (G.map grP) b w):=by
 have hFG:(zbx L r G).groups=G.map grP:=rfl;obtain⟨n1,n2,n3⟩:=z1j hok;have hpos:=zlo hok;rw[hFG,qpg] at n1 n3;rw[hFG] at hpos;have hD:∀k,k<G.length->(G.map grP).getD k zak=grP (G.getD k grZ):=fun k hk=>zbq grP G grZ zak hk
 have HDL:=Hz (fun(k:Nat) (hk:k<G.length)=>show(G.getD k grZ).2.2.2.length=L.length/\((G.map grP).getD k zak).2.length=(G.getD k grZ).2.2.2.length by have:=(n3 k hk).1;rw[hD k hk] at this⊢;unfold grP at this⊢;dsimp only at this⊢;rw[qpg] at this⊢;exact⟨this,rfl⟩)
 have hPA:=fun(k:Nat) (hk:k<G.length) (j:Nat) (hj:j<(G.getD k grZ).2.2.2.length)=>show zaw (G.map grP) k j=((G.getD k grZ).2.2.2.getD j chZ).2.2 by unfold zaw;rw[zbq grP G grZ zak hk];exact zbq (fun x:ChD=>x.2.2) (G.getD k grZ).2.2.2 chZ [] hj
 have hC0:=zjk (G.map grP) (b.drop 4);rw[qpg] at hC0;have hC1:=fun(k:Nat) (hk:k<G.length)=>show((zfi (G.map grP) (b.drop 4)).getD k []).length=(G.getD k grZ).2.2.2.length by rw[ziw _ _ _ (by rw[qpg];exact hk),zlm];exact(HDL.out k hk).2
 have hC2:=fun(k:Nat) (hk:k<G.length) (j:Nat) (hj:j<(G.getD k grZ).2.2.2.length)=>show(((zfi (G.map grP) (b.drop 4)).getD k []).getD j []).length=((G.getD k grZ).2.2.2.getD j chZ).2.2.length by rw[ziw _ _ _ (by rw[qpg];exact hk),cutC_at _ _ _ (by rw[(HDL.out k hk).2];exact hj),zjj];have:=hPA k hk j hj;unfold zaw at this;rw[this]
 have VP:=fun(k:Nat) (hk:k<G.length) (j:Nat) (hj:j<(G.getD k grZ).2.2.2.length) (q:Nat) (hq:q<((G.getD k grZ).2.2.2.getD j chZ).2.2.length)=>
  show(0<=(((G.getD k grZ).2.2.2.getD j chZ).2.2.getD q zbv).1/\(((G.getD k grZ).2.2.2.getD j chZ).2.2.getD q zbv).1<=268435456)/\znz (G.map grP) k j (q+1)=znz (G.map grP) k j q+(((G.getD k grZ).2.2.2.getD j chZ).2.2.getD q zbv).1.toNat/\znz (G.map grP) k j (q+1)<=b.length
   /\(((zfi (G.map grP) (b.drop 4)).getD k []).getD j []).getD q []=(b.drop (znz (G.map grP) k j q)).take (((G.getD k grZ).2.2.2.getD j chZ).2.2.getD q zbv).1.toNat by
  have e:=hPA k hk j hj;have:=zwh (F:=zbx L r G) (b:=b) hs (k:=k) (j:=j) (q:=q) (by rw[hFG,qpg];exact hk) (by rw[hFG,(HDL.out k hk).2];exact hj) (by rw[hFG,e];exact hq);rw[hFG,e] at this;refine⟨?_,this⟩;have:=hpos (grP (G.getD k grZ)) (qmn.2 ⟨_,zas grZ hk,rfl⟩) ((G.getD k grZ).2.2.2.getD j chZ).2.2 (by unfold grP;exact qmn.2 ⟨_,zas chZ hj,rfl⟩) _ (zas zbv hq);omega
 have VC:=fun(k:Nat) (hk:k<G.length) (j:Nat) (hj:j<(G.getD k grZ).2.2.2.length)=>show znz (G.map grP) k j ((G.getD k grZ).2.2.2.getD j chZ).2.2.length=znz (G.map grP) k (j+1) 0/\((G.getD k grZ).2.2.2.getD j chZ).2.2.length<=65536 by have e:=hPA k hk j hj;have:=z4a (G:=G.map grP) (k:=k) (j:=j) (by rw[(HDL.out k hk).2];exact hj);rw[e] at this;refine⟨this,?_⟩;have:=(n3 k hk).2 j (by have:=(HDL.out k hk).1;unfold zbx;dsimp only;omega);rw[e] at this;exact this
 have VG:=fun(k:Nat) (hk:k<G.length)=>show znz (G.map grP) k (G.getD k grZ).2.2.2.length 0=znz (G.map grP) (k+1) 0 0 by have:=z4b (G:=G.map grP) (k:=k) (by rw[qpg];exact hk);rw[(HDL.out k hk).2] at this;exact this
 have VZ:=Hz (z9h (G.map grP));unfold SheCutPostA;generalize znz (G.map grP)=V at*;generalize zfi (G.map grP) (b.drop 4)=CG at*;have hL64:L.length<=64:=n2;have HN3:=Hz (fun(k:Nat) (hk:k<G.length)=>show(G.getD k grZ).2.2.2.length<=64 by have:=(HDL.out k hk).1;omega);have HVP:=Hz VP;have HVC:=Hz VC;have HVG:=Hz VG;have HC0:=Hz hC0;have HC1:=Hz hC1;have HC2:=Hz hC2;have HR:=Hz hb;have HF:=Hz h;have HBC:=Hz (qo8 hbl (qo8 hbc hcb));have hfew2:G.length<=65536:=n1;clear VP VC VG hC0 hC1 hC2 hpos hD hPA n1 n2 n3 hFG hok hs hb h hbl hbc hcb HDL hL64;have b0:New w (w.alloc (.cells #[.slice Ac L.length cc,.int .i64 r,.slice Ag G.length cg] 79)):=(Below.refl _ _).alloc (qmt _) _;have B0:=Blk.new w 79 #[.slice Ac L.length cc,.int .i64 r,.slice Ag G.length cg];obtain⟨x0,x1,x2⟩:=zao B0;unfold zli;go_enter Tryz.func43,Tryz.ntmps43
 go_upto_region 3 with(refine zmf qme rfl (.tmp 15) (.tmp 15) rfl G.length rfl rfl rfl rfl rfl (by omega) (by simp only[maxLen];omega) ?_
                       intro w1 BO b1 z1)
 have B1:=B0.below b1 B0.lt;have b01:=New.trans b0 b1;clear x0 x1 x2 B0 b0;obtain⟨x0,x1,x2⟩:=zao B1;simp only[World.size_alloc] at BO z1⊢;go_wp2_with fail
 generalize hgo:w.heap.size+1=go at*;have HGO:=Hz hgo;clear hgo x0 x1 x2 b1;go_loopw [5,20] (fun a i wr=>∃(k n:Nat) (X:List zmg),k<=G.length/\i= .int .i64 (k:Int)/\a= .int .i64 (n:Int)/\Hid (n=V k 0 0)/\Hid (X.map gpP=CG.take k)/\Hid (X.length=k)/\Blk wr go 95 (recs zwg X++List.replicate (G.length-k) (Value.slice none 0 0)).toArray/\Hid (∀g∈X,RowRAt wr go g/\ ∀r∈g.2.2,r.2.1=r.2.2.length/\ ∀d∈r.2.2,PieceOf A w d)/\New w wr) (fun _ i _=>G.length-(intOf i).toNat)
 case atStart=>exact⟨0,4,[],qmu _,rfl,rfl,Hz VZ.out.symm,Hz rfl,Hz rfl,by simpa[recs] using BO,Hz (by simp),b01⟩
 case round=>
  obtain⟨k,n,X,hk,rfl,rfl,HN,HX,HXl,BO,HX2,bw⟩:=hrel;clear b01 B1 z1;by_cases hlt:k<G.length
  ·obtain⟨ad,rfl,hb,d0,d1⟩:=(Reads.later HF.out.groups bw).gr2 hlt
   have hgm:=zas grZ hlt;have hch:=HF.out.chunks _ hgm;have hpg:=HF.out.pages _ hgm;have hN3:=HN3.out k hlt;have VPk:=HVP.out k hlt;have VCk:=HVC.out k hlt;have VGk:=Hz (HVG.out k hlt);have C1k:=HC1.out k hlt;have C2k:=HC2.out k hlt;clear hb hgm;generalize G.getD k grZ=gg at*;obtain⟨gr,Ach,cch,D⟩:=gg;dsimp only at d0 d1 hch hpg hN3 VPk VCk VGk C1k C2k;obtain⟨Gk,hGk⟩:∃Gk,Gk=CG.getD k []:=⟨_,rfl⟩;rw[<-hGk] at VPk C1k C2k;have HGk:=Hz hGk;have VPk:=Hz VPk;have VCk:=Hz VCk;have C1k:=Hz C1k;have C2k:=Hz C2k;have HCHk:=Hz hch.1;have HPGk:=Hz hpg;have ha:New wr (wr.alloc (.cells #[.int .i64 gr,.slice Ach D.length cch] 114)):=(Below.refl _ _).alloc (qmt _) _;have BG:=Blk.new wr 114 #[.int .i64 gr,.slice Ach D.length cch];have BO1:=BO.below ha BO.lt;have bw1:=New.trans bw ha;obtain⟨z0,z1⟩:=zbz BG;have hsz:(wr.alloc (.cells #[.int .i64 gr,.slice Ach D.length cch] 114)).heap.size=wr.heap.size+1:=by simp
   have hgw:=BO.lt;clear ha hch hpg BO hGk;go_upto_region 7 with(first
    |(refine zmf qmf rfl (.tmp 29) (.tmp 29) rfl D.length rfl rfl rfl rfl rfl (by omega) (by simp only[maxLen];omega) ?_
      intro w2 BM b2 z2;have BO2:=BO1.below b2 BO1.lt;have BG2:=BG.below b2 BG.lt;rw[hsz] at BM z2;have bw2:=New.trans bw1 b2;have HK2:=Hz (fun(q:Nat) (h2:q<wr.heap.size)=>show w2.heap[q]? =wr.heap[q]? by rw[b2.block q (by rw[hsz];omega)];exact Below.heap_alloc _ _ _ h2);clear BO1 BG b2 z0 z1 d0 d1 bw1)
    |(refine zes rfl 95 (.tmp 31) (.tmp 30) rfl go k (.slice (some ⟨wr.heap.size+1,0,none⟩) D.length D.length) rfl rfl BO2 (by rw[zhh (fun _=>rfl),HXl.out];omega) (by kernel_rfl) rfl ?_
      intro w3 BO3 g3 z3))
   have hgg:=hgw;obtain⟨gm,hgm⟩:∃gm,gm=wr.heap.size+1:=⟨_,rfl⟩;have hgo1:=HGO.out;have BM3:=BM.grown g3 (by intro e;injection e with e;omega);have BG3:=BG2.grown g3 (by intro e;injection e with e;omega);have bw3:=zbj bw2 g3 (by omega) (qmt _);have HX5:=Hz (fun(W:World) (hW:Below gm w3 W) (g:zmg) (hg:g∈X)=>(HX2.out g hg).1.mv (hi:=wr.heap.size) (qmt _) (fun q h1 h2=>by rw[hW.block q (by omega),g3.block q (by omega) (by intro e;injection e with e;omega)];exact HK2.out q h2))
   have HX6:=Hz (fun g hg=>(HX2.out g hg).2);have hgm3:gm<w3.heap.size:=by omega
   have hgmo:go<gm:=by omega
   rw[<-hgm] at BM3 BO3;have hCS:∃CS,CS=(recs zwg X++List.replicate (G.length-k) (Value.slice none 0 0)).toArray.setIfInBounds k (.slice (some ⟨gm,0,none⟩) D.length D.length):=⟨_,rfl⟩;obtain⟨CS,hCS⟩:=hCS;rw[<-hCS] at BO3;have hCk:CS[k]? =some (.slice (some ⟨gm,0,none⟩) D.length D.length):=by rw[hCS,qro (by rw[zhh (fun _=>rfl),HXl.out];omega)]
   have HCS:=Hz hCS;have HCk:=Hz hCk;obtain⟨z0,z1⟩:=zbz BG3;have HGM:=Hz (qo8 hgm3 hgmo);clear hgm hCS hCk BO2 BM BG2 bw2 HK2 HX2 g3 z2 z3 hsz hgg hgw BG3 hgo1 hgm3 hgmo;generalize wr=w0 at*;go_wp2_with fail
   clear z0 z1;go_loopw [5,35] (fun a i wr=>∃(j n:Nat) (Y:List ziz),j<=D.length/\i= .int .i64 (j:Int)/\a= .int .i64 (n:Int)/\Hid (n=V k j 0)/\Hid (Y.map rwP=Gk.take j)/\Hid (Y.length=j)/\Blk wr gm 22 (recs zpt Y++List.replicate (D.length-j) (Value.slice none 0 0)).toArray/\Hid (∀r∈Y,RowBAt wr gm r/\r.2.1=r.2.2.length/\ ∀d∈r.2.2,PieceOf A w d)/\Below gm w3 wr) (fun _ i _=>D.length-(intOf i).toNat)
   case atStart=>exact⟨0,n,[],qmu _,rfl,rfl,HN,Hz rfl,Hz rfl,by simpa[recs] using BM3,Hz (by simp),Below.refl _ _⟩
   case round=>
    clear HN;obtain⟨j,n,Y,hj,rfl,rfl,HN,HY,HYl,BM,HY2,bm⟩:=hrel;clear BM3;have bwr:New w wr:=Below.trans bw3 (Below.mono bm (by have:=bw3.size;have:=HGM.out;have:=HGO.out;omega));by_cases hlj:j<D.length
    ·obtain⟨ac,rfl,hbc,e0⟩:=(Reads.later HCHk.out bwr).ch1 hlj
     have hxm:=zas chZ hlj;have hpx:=HPGk.out _ hxm;have VPj:=VPk.out j hlj;have VCj:=VCk.out j hlj;have C2j:=C2k.out j hlj;clear hbc hxm;generalize D.getD j chZ=x at*;obtain⟨Ax,cx,pl⟩:=x;dsimp only at e0 hpx VPj VCj C2j;obtain⟨Gj,hGj⟩:∃Gj,Gj=Gk.getD j []:=⟨_,rfl⟩;rw[<-hGj] at VPj C2j;have HGj:=Hz hGj;have VPj:=Hz VPj;have hpl:=VCj.2;have VCj:=Hz VCj.1;have C2j:=Hz C2j;have HPL:=Hz hpx.1;have c9:wr.cell? ⟨go,k,none⟩=some (.slice (some ⟨gm,0,none⟩) D.length D.length):=by rw[(BO3.below bm HGM.out.2).cell,HCk.out]
     have hgmw:=BM.lt;have F:=Hz (fun(W:World) (hW:Far gm wr.drew W)=>show W.cell? ⟨go,k,none⟩=some (.slice (some ⟨gm,0,none⟩) D.length D.length) by rw[World.cell?_of_block (hW.block go (by have:=(BO3.below bm HGM.out.2).lt;exact this) (by intro e;injection e with e;have:=HGM.out.2;omega))];exact c9)
     have hki:(k:Int)<(G.length:Int):=by omega
     have hji:(j:Int)<(D.length:Int):=by omega
     clear hpx hGj c9;go_wp2_with fail
     refine zax (Far gm) [(true,0),(true,1),(true,2),(true,3),(true,4),(true,5),(true,6),(false,7),(true,8),(false,9)]
      (Far.refl gm) Far.trans (by kernel_rfl) (by kernel_rfl) (by kernel_rfl) (by kernel_rfl) ?_
     repeat(refine zar rfl rfl (v:=?_) (fun W hQ=>?_) ?_;rotate_left;(have c9:=F.out W hQ;go_simp<;> with_reducible rfl);simp only[Act.put,qo6,qou,qo7])
     refine zba rfl rfl (fun K hK=>?_);refine z9f ql7 (.tmp 46) (.tmp 46) rfl pl.length rfl rfl rfl rfl rfl (by omega) (by simp only[maxLen];omega) ?_;intro w5 BN b5 z5;refine hK _ _ (Far.of_new b5) ?_;clear hK;simp only[Act.put,qo6,qou,qo7];have f5:Far gm wr.drew w5:=Far.of_new b5;refine zar rfl rfl (v:=?_) (fun W hQ=>?_) ?_;rotate_left;(have c9:=F.out W (f5.trans hQ);go_simp<;> with_reducible rfl);simp only[Act.put,qo6,qou,qo7];refine zba rfl rfl (fun K hK=>?_);have BM5:=BM.drew.below b5 BM.lt;have BN:Blk w5 wr.heap.size 24 (List.replicate pl.length (Value.slice none 0 0)).toArray:=BN;have z5:w5.heap.size=wr.heap.size+1:=z5;refine zls 22 (.tmp 48) (.tmp 47) rfl gm j (.slice (some ⟨wr.heap.size,0,none⟩) pl.length pl.length) rfl rfl BM5 (by rw[zhh (fun _=>rfl),HYl.out];omega) (by kernel_rfl) rfl ?_;intro w6 BM6 g6 z6;refine hK _ _ g6 ?_;clear hK F;refine zdh ?_;obtain⟨gc,hgc⟩:∃gc,gc=wr.heap.size:=⟨_,rfl⟩;have BN6:=BN.grown g6 (by intro e;injection e with e;omega);have f6:=f5.trans g6;have BO6:=(BO3.below bm HGM.out.2).drew.grown f6 (by intro e;injection e with e;have:=HGM.out.2;omega);have bm6:Below gm w3 w6:=zbj bm.drew f6 (qmt _) (by have:=HGM.out.1;omega);have hDS:∃DS,DS=(recs zpt Y++List.replicate (D.length-j) (Value.slice none 0 0)).toArray.setIfInBounds j (.slice (some ⟨gc,0,none⟩) pl.length pl.length):=⟨_,rfl⟩;obtain⟨DS,hDS⟩:=hDS;rw[<-hgc] at BM6 BN6;rw[<-hDS] at BM6;have hDj:DS[j]? =some (.slice (some ⟨gc,0,none⟩) pl.length pl.length):=by rw[hDS,qro (by rw[zhh (fun _=>rfl),HYl.out];omega)]
     have HDS:=Hz hDS;have HDj:=Hz hDj;have HY5:=Hz (fun(W:World) (hW:Below gc w6 W) (r:ziz) (hr:r∈Y)=>(HY2.out r hr).1.mv (hi:=gc) (by omega) (fun q h1 h2=>by rw[hW.block q h2];exact f6.block q (by rw[hgc] at h2;exact h2) (by intro e;injection e with e;omega)))
     have HY6:=Hz (fun r hr=>(HY2.out r hr).2);have HGC:=Hz (show gm<gc/\w6.heap.size=gc+1 by omega);have bw6:New w w6:=Below.trans bw3 (Below.mono bm6 (by have:=bw3.size;have:=HGM.out;have:=HGO.out;omega));clear hgc hDS hDj BN BM5 b5 f5 f6 BM HY2 z5 z6 g6 bm bwr hgmw;clear e0;generalize wr=w8 at*;go_wp2_with fail
     go_loopw [5,51] (fun a i wr=>∃(q n:Nat) (Z:List ziy),q<=pl.length/\i= .int .i64 (q:Int)/\a= .int .i64 (n:Int)/\Hid (n=V k j q)/\Hid (Z.map byP=Gj.take q)/\Hid (Z.length=q)/\Blk wr gc 24 (recs zie Z++List.replicate (pl.length-q) (Value.slice none 0 0)).toArray/\Hid (∀d∈Z,PieceOf A w d)/\Below gc w6 wr) (fun _ i _=>pl.length-(intOf i).toNat)
     case atStart=>exact⟨0,n,[],qmu _,rfl,rfl,HN,Hz rfl,Hz rfl,by simpa[recs] using BN6,Hz (by simp),Below.refl _ _⟩
     case round=>
      clear HN;obtain⟨q,n,Z,hq,rfl,rfl,HN,HZ,HZl,BN,HZ2,bc⟩:=hrel;clear BN6;by_cases hlq:q<pl.length
      ·have hlo:w.heap.size<gc:=by have:=HGM.out;have:=HGO.out;have:=HGC.out;omega
       have bwr:New w wr:=Below.trans bw6 (Below.mono bc (by omega));obtain⟨ap,rfl,hbp,d0,d1,d2,d3,d4,d5,d6,d7,d8,d9,d10,d11,d12,d13⟩:=(Reads.later HPL.out bwr).page14 hlq;obtain⟨⟨s0,s1⟩,v2,v3,v4⟩:=VPj.out q hlq;generalize pl.getD q zbv=p at*;obtain⟨sz,rw,nn,bb,⟨p1,p2,p3,p4,p5⟩,⟨q1,q2,q3,q4,q5⟩⟩:=p;dsimp only at d0 d1 d2 d3 d4 d5 d6 d7 d8 d9 d10 d11 d12 d13 s0 s1 v2 v4;obtain⟨sn,rfl⟩:=qon s0;simp only[qng] at v2 v4;have hn:=HN.out;rw[<-hn] at v2 v4;have hle:n+sn<=b.length:=by omega
       have H2:=Hz v2;have H4:=Hz v4;obtain⟨hbl,hbc1,hbc2⟩:=HBC.out;have S1:∀W,(Instr.sliceAt 24 (.slice A b.length cb) (some (.int .i64 (n:Int))) (some (.int .i64 ((n:Int)+(sn:Int)))) none).run Tryz.prog W= .ok (.slice (if cb=n then A else A.map (·.add (n*1))) sn (cb-n)) W:=fun W=>by have:=zhi qif qig A b.length cb n (n+sn) (by omega) (by omega) W;rwa[show((n+sn:Nat):Int)=(n:Int)+(sn:Int) by omega,show n+sn-n=sn by omega] at this
       have hsl:((b.drop n).take sn).length=sn:=by rw[qmq,qmp];omega
       have PI:PieceOf A w ((if cb=n then A else A.map (·.add (n*1))),cb-n,(b.drop n).take sn):=by refine⟨⟨?_,by dsimp only;rw[hsl];omega,by dsimp only;omega⟩,z9g⟩;unfold BytIn;dsimp only;rw[hsl];have:=(HR.out.cut (k:=n) (cap:=cb) (by omega) hbc1).take (k:=sn) (by omega);simpa only[qm0,zd4,zem] using this
       generalize(if cb=n then A else A.map (·.add (n*1)))=A2 at*;generalize cb-n=c2 at*;have PI:=Hz PI;have S1:=Hz S1;have hsl:=Hz hsl;have hni:(n:Int)+(sn:Int)<=140737488351232:=by omega
       have hwi:=Hz (show IntKind.i64.wrap ((n:Int)+(sn:Int))=(n:Int)+(sn:Int) by rw[IntKind.wrap_i64];omega);have ha:New wr (wr.alloc (.cells #[.int .i64 (sn:Int),.int .i64 rw,.int .i64 nn,.bool bb,.bool p1,.int .i64 p2,.string (zae p3),.int .i64 p4,.int .i64 p5,.bool q1,.int .i64 q2,.string (zae q3),.int .i64 q4,.int .i64 q5] 135)):=(Below.refl _ _).alloc (qmt _) _;have BP:=Blk.new wr 135 #[.int .i64 (sn:Int),.int .i64 rw,.int .i64 nn,.bool bb,.bool p1,.int .i64 p2,.string (zae p3),.int .i64 p4,.int .i64 p5,.bool q1,.int .i64 q2,.string (zae q3),.int .i64 q4,.int .i64 q5];obtain⟨wb,hwb⟩:∃wb,wb=wr.alloc (.cells #[.int .i64 (sn:Int),.int .i64 rw,.int .i64 nn,.bool bb,.bool p1,.int .i64 p2,.string (zae p3),.int .i64 p4,.int .i64 p5,.bool q1,.int .i64 q2,.string (zae q3),.int .i64 q4,.int .i64 q5] 135):=⟨_,rfl⟩;rw[<-hwb] at ha BP;have BNb:=BN.below ha BN.lt;have hwrz:=ha.size;have hgcz:=BN.lt;have BOb:=(BO6.below bc (by have:=HGM.out;have:=HGC.out;omega)).below ha (by have:=HGM.out;have:=HGC.out;omega);have BMb:=(BM6.below bc (by have:=HGC.out;omega)).below ha (by have:=HGC.out;omega);have c9:wb.cell? ⟨go,k,none⟩=some (.slice (some ⟨gm,0,none⟩) D.length D.length):=by rw[BOb.cell,HCk.out]
       have c8:wb.cell? ⟨gm,j,none⟩=some (.slice (some ⟨gc,0,none⟩) pl.length pl.length):=by rw[BMb.cell,HDj.out]
       have c7:=(zdq BP).1;have F:=Hz (fun(W:World) (hW:Far gc wb.drew W)=>show W.cell? ⟨go,k,none⟩=some (.slice (some ⟨gm,0,none⟩) D.length D.length)/\W.cell? ⟨gm,j,none⟩=some (.slice (some ⟨gc,0,none⟩) pl.length pl.length)/\W.cell? ⟨wr.heap.size,0,none⟩=some (.int .i64 (sn:Int)) by
        refine⟨?_,?_,?_⟩
        ·rw[World.cell?_of_block (hW.block go BOb.lt (by intro e;injection e with e;have:=HGM.out;have:=HGC.out;omega))];exact c9
        ·rw[World.cell?_of_block (hW.block gm BMb.lt (by intro e;injection e with e;have:=HGC.out;omega))];exact c8
        ·rw[World.cell?_of_block (hW.block wr.heap.size BP.lt (by intro e;injection e with e;omega))];exact c7)
       have hki:(k:Int)<(G.length:Int):=by omega
       have hji:(j:Int)<(D.length:Int):=by omega
       have hqi:(q:Int)<(pl.length:Int):=by omega
       have HWB:=Hz hwb;have BC:=Hz (show Below gc w6 wb from Below.trans bc (Below.mono ha (by omega)));clear v2 v3 v4 hbp hn hle hbl hbc1 hbc2 BOb BMb c9 c8 c7 hwb bc bwr hlo s0 s1 hwrz ha HBC;go_wp2_with fail
       rw[<-HWB.out];refine zax (Far gc) [(true,0),(true,1),(true,2),(true,3),(true,4),(true,5),(true,6),(true,7),(true,8),(true,9),(true,10),(true,11),(true,12),(true,13),(true,14),(true,15),(false,16)]
        (Far.refl gc) Far.trans (by kernel_rfl) (by kernel_rfl) (by kernel_rfl) (by kernel_rfl) ?_
       repeat(refine zar rfl rfl (v:=?_) (fun W hQ=>?_) ?_;rotate_left;(obtain⟨c9,c8,c7⟩:=F.out W hQ;have S2:=S1.out W;have hw2:=hwi.out;go_simp<;> with_reducible rfl);simp only[Act.put,qo6,qou,qo7])
       refine zba rfl rfl (fun K hK=>?_);refine zls 24 (.tmp 71) (.tmp 70) rfl gc q (.slice A2 sn c2) rfl rfl BNb.drew (by rw[zhh (fun _=>rfl),HZl.out];omega) (by kernel_rfl) rfl ?_;intro w9 BN9 g9 z9;refine hK _ _ g9 ?_;clear hK F;refine zdh ?_;have g9:wb.grownBy w9 (some gc):=Far.trans (Far.drew gc wb) g9;have BP9:=BP.grown g9 (by intro e;injection e with e;omega);obtain⟨c7,-⟩:=zdq BP9;rw[show pl.length-q=(pl.length-(q+1))+1 by omega,zpu (f:=zie) (fun _=>rfl) Z (A2,c2,(b.drop n).take sn) q _ HZl.out (show zie (A2,c2,(b.drop n).take sn)=[.slice A2 sn c2] by unfold zie;dsimp only;rw[hsl.out])] at BN9;have BC9:=Hz (zbj BC.out g9 (qmt _) (by have:=HGC.out;omega));have HZ9:=Hz (show(Z++[(A2,c2,(b.drop n).take sn)]).map byP=Gj.take (q+1) by rw[qp6,HZ.out,zad Gj q [] (by rw[C2j.out];exact hlq),H4.out];rfl)
       have HZl9:=Hz (show(Z++[(A2,c2,(b.drop n).take sn)]).length=q+1 by rw[qni,HZl.out];rfl);have HZ29:Hid (∀d∈Z++[(A2,c2,(b.drop n).take sn)],PieceOf A w d):=Hz (by
        intro d hd;rcases qny.1 hd with hd|hd
        ·exact HZ2.out d hd
        ·obtain rfl:=qnz.1 hd
         exact PI.out)
       generalize Z++[(A2,c2,(b.drop n).take sn)]=Z2 at*;have HN9:=Hz (show n+sn=V k j (q+1) from H2.out.symm);clear HZ HZl HZ2 PI hsl H2 H4 BC BP BP9 BN BNb S1 HN g9 z9 d0 d1 d2 d3 d4 d5 d6 d7 d8 d9 d10 d11 d12 d13;go_wp2_with fail
       go_roundw
       case rel=>exact⟨q+1,n+sn,Z2,by omega,by go_num,by go_num,HN9,HZ9,HZl9,BN9,HZ29,BC9.out⟩
       case measure=>simp[intOf];omega
      ·obtain rfl:q=pl.length:=by omega
       have BMe:=BM6.below bc (by have:=HGC.out;omega);rw[HDS.out,show D.length-j=(D.length-(j+1))+1 by omega,zpu (f:=zpt) (fun _=>rfl) Y (some ⟨gc,0,none⟩,pl.length,Z) j _ HYl.out (show zpt (some ⟨gc,0,none⟩,pl.length,Z)=[.slice (some ⟨gc,0,none⟩) pl.length pl.length] by unfold zpt;dsimp only;rw[HZl.out])] at BMe;have hZZ:=HZ.out;rw[qnn (by rw[C2j.out];exact qmt _)] at hZZ;have HYe:=Hz (show(Y++[((some ⟨gc,0,none⟩,pl.length,Z):ziz)]).map rwP=Gk.take (j+1) by rw[qp6,HY.out,zad Gk j [] (by rw[C1k.out];exact hlj),<-HGj.out,<-hZZ];rfl)
       have HYle:=Hz (show(Y++[((some ⟨gc,0,none⟩,pl.length,Z):ziz)]).length=j+1 by rw[qni,HYl.out];rfl);rw[qos,qqd,qm3] at BN;have HYe2:Hid (∀r∈Y++[((some ⟨gc,0,none⟩,pl.length,Z):ziz)],RowBAt wr gm r/\r.2.1=r.2.2.length/\ ∀d∈r.2.2,PieceOf A w d):=Hz (by
        intro r hr;rcases qny.1 hr with hr|hr
        ·exact⟨HY5.out wr bc r hr,HY6.out r hr⟩
        ·obtain rfl:=qnz.1 hr
         exact⟨⟨gc,HGC.out.1,rfl,HZl.out.symm,BN⟩,HZl.out.symm,HZ2.out⟩)
       have BCe:=Hz (show Below gm w3 wr from Below.trans bm6 (Below.mono bc (by have:=HGC.out;omega)));have HNe:=Hz (show n=V k (j+1) 0 by rw[HN.out,VCj.out]);generalize Y++[((some ⟨gc,0,none⟩,pl.length,Z):ziz)]=Y2 at*;clear HZ HZl HZ2 hZZ BN BM6 BO6 bc HN HY HYl HY5 HY6;go_wp2_with fail
       go_roundw
       case rel=>exact⟨j+1,n,Y2,by omega,by go_num,rfl,HNe,HYe,HYle,BMe,HYe2,BCe.out⟩
       case measure=>simp[intOf];omega
    ·obtain rfl:j=D.length:=by omega
     have BOe:=BO3.below bm HGM.out.2;rw[HCS.out,show G.length-k=(G.length-(k+1))+1 by omega,zpu (f:=zwg) (fun _=>rfl) X (some ⟨gm,0,none⟩,D.length,Y) k _ HXl.out (show zwg (some ⟨gm,0,none⟩,D.length,Y)=[.slice (some ⟨gm,0,none⟩) D.length D.length] by unfold zwg;dsimp only;rw[HYl.out])] at BOe;have hYY:=HY.out;rw[qnn (by rw[C1k.out];exact qmt _)] at hYY;have HXe:=Hz (show(X++[((some ⟨gm,0,none⟩,D.length,Y):zmg)]).map gpP=CG.take (k+1) by rw[qp6,HX.out,zad CG k [] (by rw[HC0.out];exact hlt),<-HGk.out,<-hYY];rfl)
     have HXle:=Hz (show(X++[((some ⟨gm,0,none⟩,D.length,Y):zmg)]).length=k+1 by rw[qni,HXl.out];rfl);rw[qos,qqd,qm3] at BM;have HXe2:Hid (∀g∈X++[((some ⟨gm,0,none⟩,D.length,Y):zmg)],RowRAt wr go g/\ ∀r∈g.2.2,r.2.1=r.2.2.length/\ ∀d∈r.2.2,PieceOf A w d):=Hz (by
      intro g hg;rcases qny.1 hg with hg|hg
      ·exact⟨HX5.out wr bm g hg,HX6.out g hg⟩
      ·obtain rfl:=qnz.1 hg
       exact⟨⟨gm,HGM.out.2,rfl,HYl.out.symm,BM,fun r hr=>(HY2.out r hr).1⟩,fun r hr=>(HY2.out r hr).2⟩)
     have HNe:=Hz (show n=V (k+1) 0 0 by rw[HN.out,VGk.out]);have bwr:=Hz bwr;generalize X++[((some ⟨gm,0,none⟩,D.length,Y):zmg)]=X2 at*;clear HX HXl HX5 HX6 hYY BM BO3 bm HN HY HYl HY2 bw3;go_wp2_with fail
     go_roundw
     case rel=>exact⟨k+1,n,X2,by omega,by go_num,rfl,HNe,HXe,HXle,BOe,HXe2,bwr.out⟩
     case measure=>simp[intOf];omega
  ·obtain rfl:k=G.length:=by omega
   have hXX:=HX.out;rw[qnn (by rw[HC0.out];exact qmt _)] at hXX;rw[qos,qqd,qm3] at BO;have HXX:=Hz hXX;have BO:=Hz BO;have bw:=Hz bw;clear hXX;go_wp2_with fail
   go_ret
   have hXl:=HXl.out;have hgo1:=HGO.out;refine⟨some ⟨go,0,none⟩,X,by rw[hXl];rfl,bw.out,⟨?_,fun ad h=>by injection h with h;subst h;show w.heap.size<=go;omega⟩,fun g hg=>?_,HXX.out⟩
   ·exact zgz BO.out (by rw[zau (sz:=1) (fun _=>rfl),qm0])
   ·obtain⟨h1,h2⟩:=HX2.out g hg
    obtain⟨h3,h4⟩:=h1.inn;obtain⟨kg,j1,j2,h5,_,j3⟩:=h1;refine⟨h5,⟨h3,fun ad h=>?_⟩,fun r hr=>⟨(h2 r hr).1,⟨h4 r hr,fun ad h=>?_⟩,fun d hd=>((h2 r hr).2 d hd).later bw.out⟩⟩
    ·rw[j2] at h;injection h with h;subst h;show w.heap.size<=kg;omega
    ·obtain⟨kr,i1,i2,_⟩:=j3 r hr
     rw[i2] at h;injection h with h;subst h;show w.heap.size<=kr;omega
end Go.Proofs.Y
