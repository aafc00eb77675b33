/- Merged. -/
import Derived.Test.YtmgfkpnghlmheaaGreatBun41
set_option maxHeartbeats 2000000
namespace Go.Proofs.Y
open Go.RowKit Go.Hm
theorem qin:ElT Tryz.prog 52 31 (.slice none 0 0) 1 24:=⟨by kernel_rfl,by kernel_rfl,rfl,by omega⟩
theorem qio:Tryz.prog.underlying 52=some (.slice (Tryz.prog.elem 52)):=by kernel_rfl
theorem qip(w:World):(sizeOf (Tryz.prog.elem 52)).run Tryz.prog w= .ok 1 w:=by kernel_rfl
set_option maxRecDepth 100000 in
theorem z8m{w:World}{Ac:Option Addr}{cc:Nat}{L:List za2}{r:Int}{Ag:Option Addr}{cg:Nat}{G:List GrD}{Ap:Option Addr}{cp:Nat}{P:List zjm}
 (h:FootIn w Ac cc L Ag G)(hp:∀g∈G,∀x∈g.2.2.2,∀p∈x.2.2,zdk p.2.2)(hP:PgsIn w Ap cp P)(hPn:P.length<=5000000):
 Calls Tryz.prog 25 #[zh9 Ac cc L r Ag cg G,.slice Ap P.length cp] w (qc1 L r (z0g (za5 L r G) (P.map byP)) w):=by
 have HR:=fun(W:World) (hW:New w W)=>zjb (r:=r) (cc:=cc) (cg:=cg) (h.later hW) hp
 obtain⟨X,hX⟩:∃X,X=z0g (za5 L r G) (P.map byP):=⟨_,rfl⟩;rw[<-hX];unfold z0g at hX;have hF:zdl (za5 L r G)=true->zbj (za5 L r G):=fun e=>by unfold zdl at e;simpa using e
 obtain⟨W0,hW0⟩:∃W0,W0=(w.alloc (.cells #[.slice Ac L.length cc,.int .i64 r,.slice Ag G.length cg] 38)).alloc (.cells #[.slice none 0 0,.int .i64 0,.slice none 0 0] 25):=⟨_,rfl⟩;have b0:New w W0:=by rw[hW0];exact((Below.refl _ _).alloc (Nat.le_refl _) _).alloc (by simp) _
 have BF:Blk W0 w.heap.size 38 #[.slice Ac L.length cc,.int .i64 r,.slice Ag G.length cg]:=by rw[hW0];exact(Blk.new _ _ _).alloc _
 have BZ:Blk W0 (w.heap.size+1) 25 #[.slice none 0 0,.int .i64 0,.slice none 0 0]:=by rw[hW0];have:=Blk.new (w.alloc (.cells #[.slice Ac L.length cc,.int .i64 r,.slice Ag G.length cg] 38)) 25 #[.slice none 0 0,.int .i64 0,.slice none 0 0];rwa[World.size_alloc] at this
 have R1:=Hz (HR W0 b0);have HX:=Hz hX;have HF:=Hz h;have HPG:=Hz hP;have HPF:=Hz hp;have HFO:=Hz hF;have HW0:=Hz hW0;clear HR hX h hP hp hF;obtain⟨x0,x1,x2⟩:=zaf BF;unfold zh9 at R1⊢;generalize hM:zdl (za5 L r G)=M at*;rw[hW0] at x0 x1 x2;clear hW0 hM;go_enter Tryz.func25,Tryz.ntmps25
 go_wp2_with fail
 rw[<-HW0.out];refine R1.out.mono ?_;rintro e w1 ⟨rfl,b1⟩;have b01:=New.trans b0 b1;have BF1:=BF.below b1 BF.lt;have BZ1:=BZ.below b1 BZ.lt;clear R1 x0 x1 x2 BF BZ b0 b1 HW0;cases M with
 |false=>
  obtain rfl:X=none:=by rw[HX.out];rfl
  clear HX HFO
  go_wp2_with (refine zah rfl 25 (.tmp 4) (.tmp 18) rfl (w.heap.size+1) _ rfl rfl BZ1 (by kernel_rfl) rfl (by simp[Value.oneCell']) ?_
               intro W2 BR G2;obtain⟨r0,r1,r2⟩:=zaf BR)
  exact bodyPost_ret (v:= .tuple #[.agg #[.slice none 0 0,.int .i64 0,.slice none 0 0],.int .i64 2]) (by simp[results,Tryz.results25,go_sem,r0,r1,r2]) rfl (zle (zax b01 G2 (Nat.le_succ _) (Nat.le_refl _)))
 |true=>
  have hok:=HFO.out rfl;have hx:=HX.out;rw[if_pos rfl] at hx;obtain⟨n1,n2,n3⟩:=znx hok;have n2:L.length<=64:=n2;have HXT:=Hz hx;have HOK:=Hz hok;have HN3:=Hz n3
  have hG:G.length<=65536:=by have:(za5 L r G).groups.length=G.length:=by unfold za5;simp
                              omega
  have CL:=Hz (fun(W:World) (hW:New w1 W)=>zv9 (c:=cc) (Reads.later HF.out.cols (New.trans b01 hW)) (by omega));clear hx hok HFO n1 n3 HX;obtain⟨wq,hwq⟩:∃wq,wq=w1.drew:=⟨_,rfl⟩;have hq0:New w1 wq:=by rw[hwq];exact New.drew _
  have F:=Hz (fun(W:World) (hW:Below w1.heap.size wq W)=>BF1.below (Below.trans hq0 hW) BF1.lt);have HWQ:=Hz hwq;clear hwq;go_upto_region 3 with fail
  go_cut [6] (fun v wx=>∃(gt gd:Nat) (Aq:Option Addr) (cq:Nat),v= .pointer (some ⟨gt,0,none⟩)/\Hid (Blk wx gt 25 #[.slice Aq L.length cq,.int .i64 r,.slice (some ⟨gd,0,none⟩) L.length L.length])/\Hid (wx.ownsRow w1.heap.size 70 3 (.slice Aq L.length cq) L.length (recs zh8 L))/\Hid (Blk wx gd 71 (List.replicate L.length (Value.slice none 0 0)).toArray)/\Hid (w1.heap.size<=gt/\w1.heap.size<=gd/\New w1 wx))
  case first=>
   refine zi0 (Below w1.heap.size) (.quiet 0 (.quiet 1 (.quiet 3 (.quiet 4 (.quiet 5 (.quiet 6 (.quiet 7 (.three 2 (.two 8 (.quiet 9 (.alone 10 (.alone 11 .done))) 10 (.alone 8 (.quiet 9 (.alone 11 .done)))) 8 (.two 2 (.quiet 9 (.alone 10 (.alone 11 .done))) 10 (.alone 2 (.quiet 9 (.alone 11 .done)))) 10 (.two 2 (.alone 8 (.quiet 9 (.alone 11 .done))) 8 (.alone 2 (.quiet 9 (.alone 11 .done))))))))))))
    (Below.refl _) Below.trans (by kernel_rfl) (by kernel_rfl) (by kernel_rfl) (by kernel_rfl) ?_
   rw[<-HWQ.out];iterate 7 (refine zc2 rfl rfl (v:=?_) (fun W hW=>?_) ?_;rotate_left;(obtain⟨x0,x1,x2⟩:=zaf (F.out W hW);go_simp<;> with_reducible rfl);simp only[Act.put,List.setIfInBounds_toArray,List.set_cons_zero,List.set_cons_succ])
   refine zyd ?_ ?_ ?_
   ·refine zbn rfl rfl (fun K hK=>?_)
    go_simp
    (with_reducible refine(CL.out wq hq0).mono ?_)
    rintro e wx0 ⟨v,rfl,oC,bb⟩;obtain⟨Aq,cq,rfl,hcq,hcq2⟩:=zcg oC;have oC:=zbd oC (hq0.size);refine hK _ _ (Below.mono bb hq0.size) ?_;clear hK;have hq1:New w1 wx0:=New.trans hq0 bb;clear bb;refine zlf ?_ ?_
    ·refine zbn rfl rfl (fun K hK=>?_)
     refine zmy zv7 (.tmp 26) (.tmp 26) rfl L.length rfl rfl rfl rfl rfl (by omega) (by simp only[maxLen];omega) ?_;intro wy1 BD bb zz;have hgd:w1.heap.size<=wx0.heap.size:=hq1.size;obtain⟨gd,egd⟩:∃gd,gd=wx0.heap.size:=⟨_,rfl⟩;rw[<-egd] at BD hgd⊢;clear egd;clear zz;refine hK _ _ (Below.mono bb hq1.size) ?_;clear hK;simp only[Act.put,List.setIfInBounds_toArray,List.set_cons_zero,List.set_cons_succ];have hq2:New w1 wy1:=New.trans hq1 bb;have oC:=zau oC bb;clear bb;refine zc2 rfl rfl (v:=?_) (fun W hW=>?_) ?_;rotate_left;(go_simp<;> with_reducible rfl);simp only[Act.put,List.setIfInBounds_toArray,List.set_cons_zero,List.set_cons_succ];refine zbo ?_;refine zbn rfl rfl (fun K hK=>?_);go_simp
     have bb:New wy1 (wy1.alloc (.cells #[.slice none 0 0,.int .i64 0,.slice none 0 0] 25)):=(Below.refl _ _).alloc (Nat.le_refl _) _;have BT:=Blk.new wy1 25 #[.slice none 0 0,.int .i64 0,.slice none 0 0];have hgt:w1.heap.size<=wy1.heap.size:=hq2.size;obtain⟨gt,egt⟩:∃gt,gt=wy1.heap.size:=⟨_,rfl⟩;obtain⟨wz3,ewz3⟩:∃z,z=wy1.alloc (.cells #[.slice none 0 0,.int .i64 0,.slice none 0 0] 25):=⟨_,rfl⟩;rw[<-egt] at BT hgt⊢;rw[<-ewz3] at bb BT⊢;clear egt ewz3;refine hK _ _ (Below.mono bb hq2.size) ?_;clear hK;have hq3:New w1 wz3:=New.trans hq2 bb;have oC:=zau oC bb;have BD:=BD.below bb BD.lt;clear bb;refine zbo ?_;refine zbn rfl rfl (fun K hK=>?_);refine zd5 25 (.tmp 6) (.tmp 28) rfl gt _ rfl rfl BT (by kernel_rfl) (by simp) (by simp[Value.oneCell']) ?_;intro wz4 BT2 G2;refine hK _ _ (zax (Below.refl _ _) G2 hgt hq3.size) ?_;clear hK;refine zec ?_;go_wp2_with fail
     go_meet
     exact⟨gt,gd,Aq,cq,rfl,Hz BT2,Hz (World.ownsRow.kept oC G2 (.inr (zal oC BT (by decide)))),Hz (BD.grown G2 (by intro e;injection e with e;exact Blk.ne_ BD BT (by decide) e)),Hz ⟨hgt,hgd,zax hq3 G2 hgt (Nat.le_refl _)⟩⟩
    ·refine zbn rfl rfl (fun K hK=>?_)
     go_simp
     have bb:New wx0 (wx0.alloc (.cells #[.slice none 0 0,.int .i64 0,.slice none 0 0] 25)):=(Below.refl _ _).alloc (Nat.le_refl _) _;have BT:=Blk.new wx0 25 #[.slice none 0 0,.int .i64 0,.slice none 0 0];have hgt:w1.heap.size<=wx0.heap.size:=hq1.size;obtain⟨gt,egt⟩:∃gt,gt=wx0.heap.size:=⟨_,rfl⟩;obtain⟨wy1,ewy1⟩:∃z,z=wx0.alloc (.cells #[.slice none 0 0,.int .i64 0,.slice none 0 0] 25):=⟨_,rfl⟩;rw[<-egt] at BT hgt⊢;rw[<-ewy1] at bb BT⊢;clear egt ewy1;refine hK _ _ (Below.mono bb hq1.size) ?_;clear hK;have hq2:New w1 wy1:=New.trans hq1 bb;have oC:=zau oC bb;clear bb;refine zbo ?_;refine zbn rfl rfl (fun K hK=>?_);refine zmy zv7 (.tmp 26) (.tmp 26) rfl L.length rfl rfl rfl rfl rfl (by omega) (by simp only[maxLen];omega) ?_;intro wz2 BD bb zz;have hgd:w1.heap.size<=wy1.heap.size:=hq2.size;obtain⟨gd,egd⟩:∃gd,gd=wy1.heap.size:=⟨_,rfl⟩;rw[<-egd] at BD hgd⊢;clear egd;clear zz;refine hK _ _ (Below.mono bb hq2.size) ?_;clear hK;simp only[Act.put,List.setIfInBounds_toArray,List.set_cons_zero,List.set_cons_succ];have hq3:New w1 wz2:=New.trans hq2 bb;have oC:=zau oC bb;have BT:=BT.below bb BT.lt;clear bb;refine zc2 rfl rfl (v:=?_) (fun W hW=>?_) ?_;rotate_left;(go_simp<;> with_reducible rfl);simp only[Act.put,List.setIfInBounds_toArray,List.set_cons_zero,List.set_cons_succ];refine zbo ?_;refine zbn rfl rfl (fun K hK=>?_);refine zd5 25 (.tmp 6) (.tmp 28) rfl gt _ rfl rfl BT (by kernel_rfl) (by simp) (by simp[Value.oneCell']) ?_;intro wz4 BT2 G2;refine hK _ _ (zax (Below.refl _ _) G2 hgt hq3.size) ?_;clear hK;refine zec ?_;go_wp2_with fail
     go_meet
     exact⟨gt,gd,Aq,cq,rfl,Hz BT2,Hz (World.ownsRow.kept oC G2 (.inr (zal oC BT (by decide)))),Hz (BD.grown G2 (by intro e;injection e with e;exact Blk.ne_ BD BT (by decide) e)),Hz ⟨hgt,hgd,zax hq3 G2 hgt (Nat.le_refl _)⟩⟩
   ·refine zbn rfl rfl (fun K hK=>?_)
    refine zmy zv7 (.tmp 26) (.tmp 26) rfl L.length rfl rfl rfl rfl rfl (by omega) (by simp only[maxLen];omega) ?_;intro wx0 BD bb zz;have hgd:w1.heap.size<=wq.heap.size:=hq0.size;obtain⟨gd,egd⟩:∃gd,gd=wq.heap.size:=⟨_,rfl⟩;rw[<-egd] at BD hgd⊢;clear egd;clear zz;refine hK _ _ (Below.mono bb hq0.size) ?_;clear hK;simp only[Act.put,List.setIfInBounds_toArray,List.set_cons_zero,List.set_cons_succ];have hq1:New w1 wx0:=New.trans hq0 bb;clear bb;refine zlf ?_ ?_
    ·refine zbn rfl rfl (fun K hK=>?_)
     go_simp
     (with_reducible refine(CL.out wx0 hq1).mono ?_)
     rintro e wy1 ⟨v,rfl,oC,bb⟩;obtain⟨Aq,cq,rfl,hcq,hcq2⟩:=zcg oC;have oC:=zbd oC (hq1.size);refine hK _ _ (Below.mono bb hq1.size) ?_;clear hK;have hq2:New w1 wy1:=New.trans hq1 bb;have BD:=BD.below bb BD.lt;clear bb;refine zc2 rfl rfl (v:=?_) (fun W hW=>?_) ?_;rotate_left;(go_simp<;> with_reducible rfl);simp only[Act.put,List.setIfInBounds_toArray,List.set_cons_zero,List.set_cons_succ];refine zbo ?_;refine zbn rfl rfl (fun K hK=>?_);go_simp
     have bb:New wy1 (wy1.alloc (.cells #[.slice none 0 0,.int .i64 0,.slice none 0 0] 25)):=(Below.refl _ _).alloc (Nat.le_refl _) _;have BT:=Blk.new wy1 25 #[.slice none 0 0,.int .i64 0,.slice none 0 0];have hgt:w1.heap.size<=wy1.heap.size:=hq2.size;obtain⟨gt,egt⟩:∃gt,gt=wy1.heap.size:=⟨_,rfl⟩;obtain⟨wz3,ewz3⟩:∃z,z=wy1.alloc (.cells #[.slice none 0 0,.int .i64 0,.slice none 0 0] 25):=⟨_,rfl⟩;rw[<-egt] at BT hgt⊢;rw[<-ewz3] at bb BT⊢;clear egt ewz3;refine hK _ _ (Below.mono bb hq2.size) ?_;clear hK;have hq3:New w1 wz3:=New.trans hq2 bb;have oC:=zau oC bb;have BD:=BD.below bb BD.lt;clear bb;refine zbo ?_;refine zbn rfl rfl (fun K hK=>?_);refine zd5 25 (.tmp 6) (.tmp 28) rfl gt _ rfl rfl BT (by kernel_rfl) (by simp) (by simp[Value.oneCell']) ?_;intro wz4 BT2 G2;refine hK _ _ (zax (Below.refl _ _) G2 hgt hq3.size) ?_;clear hK;refine zec ?_;go_wp2_with fail
     go_meet
     exact⟨gt,gd,Aq,cq,rfl,Hz BT2,Hz (World.ownsRow.kept oC G2 (.inr (zal oC BT (by decide)))),Hz (BD.grown G2 (by intro e;injection e with e;exact Blk.ne_ BD BT (by decide) e)),Hz ⟨hgt,hgd,zax hq3 G2 hgt (Nat.le_refl _)⟩⟩
    ·refine zbn rfl rfl (fun K hK=>?_)
     go_simp
     have bb:New wx0 (wx0.alloc (.cells #[.slice none 0 0,.int .i64 0,.slice none 0 0] 25)):=(Below.refl _ _).alloc (Nat.le_refl _) _;have BT:=Blk.new wx0 25 #[.slice none 0 0,.int .i64 0,.slice none 0 0];have hgt:w1.heap.size<=wx0.heap.size:=hq1.size;obtain⟨gt,egt⟩:∃gt,gt=wx0.heap.size:=⟨_,rfl⟩;obtain⟨wy1,ewy1⟩:∃z,z=wx0.alloc (.cells #[.slice none 0 0,.int .i64 0,.slice none 0 0] 25):=⟨_,rfl⟩;rw[<-egt] at BT hgt⊢;rw[<-ewy1] at bb BT⊢;clear egt ewy1;refine hK _ _ (Below.mono bb hq1.size) ?_;clear hK;have hq2:New w1 wy1:=New.trans hq1 bb;have BD:=BD.below bb BD.lt;clear bb;refine zbo ?_;refine zbn rfl rfl (fun K hK=>?_);go_simp
     (with_reducible refine(CL.out wy1 hq2).mono ?_)
     rintro e wz2 ⟨v,rfl,oC,bb⟩;obtain⟨Aq,cq,rfl,hcq,hcq2⟩:=zcg oC;have oC:=zbd oC (hq2.size);refine hK _ _ (Below.mono bb hq2.size) ?_;clear hK;have hq3:New w1 wz2:=New.trans hq2 bb;have BD:=BD.below bb BD.lt;have BT:=BT.below bb BT.lt;clear bb;refine zc2 rfl rfl (v:=?_) (fun W hW=>?_) ?_;rotate_left;(go_simp<;> with_reducible rfl);simp only[Act.put,List.setIfInBounds_toArray,List.set_cons_zero,List.set_cons_succ];refine zbo ?_;refine zbn rfl rfl (fun K hK=>?_);refine zd5 25 (.tmp 6) (.tmp 28) rfl gt _ rfl rfl BT (by kernel_rfl) (by simp) (by simp[Value.oneCell']) ?_;intro wz4 BT2 G2;refine hK _ _ (zax (Below.refl _ _) G2 hgt hq3.size) ?_;clear hK;refine zec ?_;go_wp2_with fail
     go_meet
     exact⟨gt,gd,Aq,cq,rfl,Hz BT2,Hz (World.ownsRow.kept oC G2 (.inr (zal oC BT (by decide)))),Hz (BD.grown G2 (by intro e;injection e with e;exact Blk.ne_ BD BT (by decide) e)),Hz ⟨hgt,hgd,zax hq3 G2 hgt (Nat.le_refl _)⟩⟩
   ·refine zbn rfl rfl (fun K hK=>?_)
    go_simp
    have bb:New wq (wq.alloc (.cells #[.slice none 0 0,.int .i64 0,.slice none 0 0] 25)):=(Below.refl _ _).alloc (Nat.le_refl _) _;have BT:=Blk.new wq 25 #[.slice none 0 0,.int .i64 0,.slice none 0 0];have hgt:w1.heap.size<=wq.heap.size:=hq0.size;obtain⟨gt,egt⟩:∃gt,gt=wq.heap.size:=⟨_,rfl⟩;obtain⟨wx0,ewx0⟩:∃z,z=wq.alloc (.cells #[.slice none 0 0,.int .i64 0,.slice none 0 0] 25):=⟨_,rfl⟩;rw[<-egt] at BT hgt⊢;rw[<-ewx0] at bb BT⊢;clear egt ewx0;refine hK _ _ (Below.mono bb hq0.size) ?_;clear hK;have hq1:New w1 wx0:=New.trans hq0 bb;clear bb;refine zlf ?_ ?_
    ·refine zbn rfl rfl (fun K hK=>?_)
     go_simp
     (with_reducible refine(CL.out wx0 hq1).mono ?_)
     rintro e wy1 ⟨v,rfl,oC,bb⟩;obtain⟨Aq,cq,rfl,hcq,hcq2⟩:=zcg oC;have oC:=zbd oC (hq1.size);refine hK _ _ (Below.mono bb hq1.size) ?_;clear hK;have hq2:New w1 wy1:=New.trans hq1 bb;have BT:=BT.below bb BT.lt;clear bb;refine zbo ?_;refine zbn rfl rfl (fun K hK=>?_);refine zmy zv7 (.tmp 26) (.tmp 26) rfl L.length rfl rfl rfl rfl rfl (by omega) (by simp only[maxLen];omega) ?_;intro wz2 BD bb zz;have hgd:w1.heap.size<=wy1.heap.size:=hq2.size;obtain⟨gd,egd⟩:∃gd,gd=wy1.heap.size:=⟨_,rfl⟩;rw[<-egd] at BD hgd⊢;clear egd;clear zz;refine hK _ _ (Below.mono bb hq2.size) ?_;clear hK;simp only[Act.put,List.setIfInBounds_toArray,List.set_cons_zero,List.set_cons_succ];have hq3:New w1 wz2:=New.trans hq2 bb;have oC:=zau oC bb;have BT:=BT.below bb BT.lt;clear bb;refine zc2 rfl rfl (v:=?_) (fun W hW=>?_) ?_;rotate_left;(go_simp<;> with_reducible rfl);simp only[Act.put,List.setIfInBounds_toArray,List.set_cons_zero,List.set_cons_succ];refine zbo ?_;refine zbn rfl rfl (fun K hK=>?_);refine zd5 25 (.tmp 6) (.tmp 28) rfl gt _ rfl rfl BT (by kernel_rfl) (by simp) (by simp[Value.oneCell']) ?_;intro wz4 BT2 G2;refine hK _ _ (zax (Below.refl _ _) G2 hgt hq3.size) ?_;clear hK;refine zec ?_;go_wp2_with fail
     go_meet
     exact⟨gt,gd,Aq,cq,rfl,Hz BT2,Hz (World.ownsRow.kept oC G2 (.inr (zal oC BT (by decide)))),Hz (BD.grown G2 (by intro e;injection e with e;exact Blk.ne_ BD BT (by decide) e)),Hz ⟨hgt,hgd,zax hq3 G2 hgt (Nat.le_refl _)⟩⟩
    ·refine zbn rfl rfl (fun K hK=>?_)
     refine zmy zv7 (.tmp 26) (.tmp 26) rfl L.length rfl rfl rfl rfl rfl (by omega) (by simp only[maxLen];omega) ?_;intro wy1 BD bb zz;have hgd:w1.heap.size<=wx0.heap.size:=hq1.size;obtain⟨gd,egd⟩:∃gd,gd=wx0.heap.size:=⟨_,rfl⟩;rw[<-egd] at BD hgd⊢;clear egd;clear zz;refine hK _ _ (Below.mono bb hq1.size) ?_;clear hK;simp only[Act.put,List.setIfInBounds_toArray,List.set_cons_zero,List.set_cons_succ];have hq2:New w1 wy1:=New.trans hq1 bb;have BT:=BT.below bb BT.lt;clear bb;refine zbo ?_;refine zbn rfl rfl (fun K hK=>?_);go_simp
     (with_reducible refine(CL.out wy1 hq2).mono ?_)
     rintro e wz2 ⟨v,rfl,oC,bb⟩;obtain⟨Aq,cq,rfl,hcq,hcq2⟩:=zcg oC;have oC:=zbd oC (hq2.size);refine hK _ _ (Below.mono bb hq2.size) ?_;clear hK;have hq3:New w1 wz2:=New.trans hq2 bb;have BD:=BD.below bb BD.lt;have BT:=BT.below bb BT.lt;clear bb;refine zc2 rfl rfl (v:=?_) (fun W hW=>?_) ?_;rotate_left;(go_simp<;> with_reducible rfl);simp only[Act.put,List.setIfInBounds_toArray,List.set_cons_zero,List.set_cons_succ];refine zbo ?_;refine zbn rfl rfl (fun K hK=>?_);refine zd5 25 (.tmp 6) (.tmp 28) rfl gt _ rfl rfl BT (by kernel_rfl) (by simp) (by simp[Value.oneCell']) ?_;intro wz4 BT2 G2;refine hK _ _ (zax (Below.refl _ _) G2 hgt hq3.size) ?_;clear hK;refine zec ?_;go_wp2_with fail
     go_meet
     exact⟨gt,gd,Aq,cq,rfl,Hz BT2,Hz (World.ownsRow.kept oC G2 (.inr (zal oC BT (by decide)))),Hz (BD.grown G2 (by intro e;injection e with e;exact Blk.ne_ BD BT (by decide) e)),Hz ⟨hgt,hgd,zax hq3 G2 hgt (Nat.le_refl _)⟩⟩
  case rest=>
   obtain⟨gt,gd,Aq,cq,rfl,HT,HC,HD,HN⟩:=hcut;clear CL F HWQ hq0;generalize hwB:w1.heap.size=B at*;have HB:=Hz (show w.heap.size+1<B by have:=BZ1.lt;omega);have ST0:TabSt w B gt gd L Aq cq r #[.slice Ac L.length cc,.int .i64 r,.slice Ag G.length cg] wc (List.replicate L.length dZ):=by
    obtain⟨h1,h2,h3⟩:=HN.out;refine⟨New.trans b01 h3,HT.out,HC.out,?_,ColsIn.nil,BZ1.below h3 BZ1.lt,BF1.below h3 BF1.lt⟩;have e:recs zhu (List.replicate L.length dZ)=List.replicate L.length (Value.slice none 0 0):=by
     simp only[recs,List.flatMap_replicate];show(List.replicate L.length [Value.slice none 0 0]).flatten=_;induction L.length with
     |zero=>rfl
     |succ n ih=>rw[List.replicate_succ,List.flatten_cons,ih];rfl
    rw[e];exact HD.out
   have BF3:=BF1.below HN.out.2.2 BF1.lt;have HGT:=Hz (And.intro HN.out.1 HN.out.2.1);obtain⟨x0,x1,x2⟩:=zaf BF3;have ST0:=Hz ST0;clear HT HC HD HN BF1 BZ1 b01 hwB BF3;have PG0:=Hz HPG.out;have HOT:=Hz (fun k=>qcw (za5 L r G) (P.map byP) k);have HPl:Hid (P.length<=5000000):=Hz hPn;clear hPn;generalize wc=w3 at*;go_wp2_with fail
   clear x0 x1 x2;go_loopw [1,32] (fun pv i wr=>∃(k:Nat) (D:List zdy) (R:List zjm) (A1:Option Addr) (c1:Nat),k<=G.length/\i= .int .i64 (k:Int)/\pv= .slice A1 R.length c1/\Hid (TabSt w B gt gd L Aq cq r #[.slice Ac L.length cc,.int .i64 r,.slice Ag G.length cg] wr D)/\Hid (PgsIn w A1 c1 R)/\Hid (ztw (za5 L r G) (P.map byP) k=some (D.map (·.2.2),R.map byP))) (fun _ i _=>G.length-(intOf i).toNat)
   case atStart=>
    refine⟨0,List.replicate L.length dZ,P,Ap,cp,Nat.zero_le _,rfl,rfl,ST0,PG0,Hz ?_⟩;unfold ztw;rw[List.take_zero,List.foldl_nil,List.map_replicate];rfl
   case round=>
    clear ST0 PG0;obtain⟨k,D,R,A1,c1,hk,rfl,rfl,ST,PG,HS⟩:=hrel;by_cases hlt:k<G.length
    ·obtain⟨ad,rfl,hb,d0,d1⟩:=(Reads.later HF.out.groups ST.out.new).gr2 hlt
     have hgm:=zan grZ hlt;have hch:=HF.out.chunks _ hgm;have hpg:=HF.out.pages _ hgm;have hpf:=HPF.out _ hgm;obtain⟨hN3,hN4⟩:=HN3.out k (by show k<(G.map grP).length;rw[List.length_map];exact hlt);have hgk:(za5 L r G).groups.getD k zak=grP (G.getD k grZ):=zba grP G grZ zak hlt;have hpa:∀j,j<(G.getD k grZ).2.2.2.length->zav (za5 L r G).groups k j=((G.getD k grZ).2.2.2.getD j chZ).2.2:=fun j hj=>by unfold zav;rw[hgk];exact zba (fun x:ChD=>x.2.2) (G.getD k grZ).2.2.2 chZ [] hj
     rw[hgk] at hN3;have hkf:k<(za5 L r G).groups.length:=by show k<(G.map grP).length;rw[List.length_map];exact hlt
     have hs1:= @zv5 (za5 L r G) (P.map byP) k hkf;have hn1:=fun j=> @zry (za5 L r G) (P.map byP) k j hkf
     have hn2:=fun j q=> @z27 (za5 L r G) (P.map byP) k j q hkf
     rw[hgk] at hs1 hn1 hn2;clear hb hgm hgk;generalize G.getD k grZ=gg at*;obtain⟨gr,Ach,cch,C⟩:=gg;dsimp only at d0 d1 hch hpg hpf hpa hN3;have hCl:C.length=L.length:=by unfold grP at hN3;dsimp only at hN3;rw[List.length_map] at hN3;exact hN3
     have HCl:=Hz hCl;have hC64:C.length<=64:=by omega
     have HCP:=Hz (show(grP (gr,Ach,cch,C)).2=C.map (·.2.2) from rfl);unfold grT at hs1;rw[HCP.out] at hs1 hn1 hn2;rw[HS.out] at hs1 hn1 hn2;obtain⟨S0,hS0⟩:∃S0:TSt,S0=some (D.map (·.2.2),R.map byP):=⟨_,rfl⟩;rw[<-hS0] at hs1 hn1 hn2;have HS0:=Hz hS0;have HS1:=Hz hs1;have HN1:=Hz hn1;have HN2:=Hz hn2;have HPA:=Hz hpa;have HCH:=Hz hch.1;have HPGS:=Hz hpg;have HPF2:=Hz hpf;have HN4:=Hz hN4;have HOk:=HOT.out k;rw[HS.out,<-hS0] at HOk;have HOk:=Hz HOk;clear hS0;have ha:New wr (wr.alloc (.cells #[.int .i64 gr,.slice Ach C.length cch] 56)):=(Below.refl _ _).alloc (Nat.le_refl _) _;have BG:=Blk.new wr 56 #[.int .i64 gr,.slice Ach C.length cch];have ST1:=Hz (ST.out.later ha);obtain⟨z0,z1⟩:=zbe BG;clear hCl hch hpg hpf hpa hN3 hs1 hn1 hn2 ST HS ha BG hN4;go_wp2_with fail
     clear z0 z1 d0 d1;go_loopw [1,39] (fun pv i wr=>∃(j:Nat) (D:List zdy) (R:List zjm) (A1:Option Addr) (c1:Nat),j<=C.length/\i= .int .i64 (j:Int)/\pv= .slice A1 R.length c1/\Hid (TabSt w B gt gd L Aq cq r #[.slice Ac L.length cc,.int .i64 r,.slice (some ad) G.length cg] wr D)/\Hid (PgsIn w A1 c1 R)/\Hid (zp9 (za5 L r G).cols 0 ((C.map (·.2.2)).take j) S0=some (D.map (·.2.2),R.map byP))) (fun _ i _=>C.length-(intOf i).toNat)
     case atStart=>
      refine⟨0,D,R,A1,c1,Nat.zero_le _,rfl,rfl,ST1,PG,Hz ?_⟩;rw[List.take_zero];exact HS0.out
     case round=>
      clear ST1 PG HS0;obtain⟨j,D,R,A1,c1,hj,rfl,rfl,ST,PG,HS⟩:=hrel;by_cases hlj:j<C.length
      ·obtain⟨ac,rfl,hbc,e0⟩:=(Reads.later HCH.out ST.out.new).ch1 hlj
       have hxm:=zan chZ hlj;have hpx:=HPGS.out _ hxm;have hpf:=HPF2.out _ hxm;have hcs:= @zv4 (za5 L r G).cols (C.map (·.2.2)) S0 j (by rw[List.length_map];exact hlj);rw[HS.out,zba (fun x:ChD=>x.2.2) C chZ [] hlj] at hcs;have hn2:=fun q=>HN2.out j q (by rw[List.length_map];exact hlj)
       rw[HPA.out j hlj,HS.out] at hn2;have hpl:=HN4.out j (by show j<L.length;have:=HCl.out;omega);rw[HPA.out j hlj] at hpl;have hok1:=ztk ((C.map (·.2.2)).take j) 0 (cols:=(za5 L r G).cols) HOk.out;rw[HS.out] at hok1;clear hbc hxm;generalize C.getD j chZ=x at*;obtain⟨Ax,cx,pl⟩:=x;dsimp only at e0 hpx hpf hcs hn2 hpl;have HCS:=Hz hcs;have HN2:=Hz hn2;have HOk1:=Hz hok1;have HPX:=Hz hpx;have HPF3:=Hz hpf;have hc1:=PG.out.cap;clear hcs hn2 hok1 hpx hpf;by_cases hsh:R.length<pl.length
       ·obtain rfl:X=none:=by
         rw[HXT.out];refine HN1.out (j+1) ?_;rw[HCS.out];exact z8b (by rw[List.length_map];exact hsh)
        have hshi:(R.length:Int)<(pl.length:Int):=by omega
        have BZ:=ST.out.res;clear HXT HN1 HN2 HCS HOk1
        go_wp2_with (refine zah rfl 25 (.tmp 4) (.tmp 49) rfl (w.heap.size+1) _ rfl rfl BZ (by kernel_rfl) rfl (by simp[Value.oneCell']) ?_
                     intro W2 BR G2;obtain⟨r0,r1,r2⟩:=zaf BR)
        try rw[Exit.noGoto_ret]
        exact bodyPost_ret (v:= .tuple #[.agg #[.slice none 0 0,.int .i64 0,.slice none 0 0],.int .i64 2]) (by simp[results,Tryz.results25,go_sem,r0,r1,r2]) rfl (zle (zax ST.out.new G2 (Nat.le_succ _) (Nat.le_refl _)))
       ·have hshi:(pl.length:Int)<=(R.length:Int):=by omega
        go_wp2_with fail
        generalize hDb:D=Db at*;have HDb:=Hz hDb;clear hDb;go_loopw [52] (fun i wr=>∃(q:Nat) (D:List zdy),q<=pl.length/\i= .int .i64 (q:Int)/\Hid (TabSt w B gt gd L Aq cq r #[.slice Ac L.length cc,.int .i64 r,.slice (some ad) G.length cg] wr D)/\Hid (chT ((za5 L r G).cols.getD j zc4) j (some (Db.map (·.2.2),R.map byP)) (pl.take q)=some (D.map (·.2.2),(R.drop q).map byP))) (fun i _=>pl.length-(intOf i).toNat)
        case atStart=>exact⟨0,Db,Nat.zero_le _,rfl,ST,Hz rfl⟩
        case round=>
         clear ST;obtain⟨q,D,hq,rfl,ST,HQ⟩:=hrel;by_cases hlq:q<pl.length
         ·have bw:=ST.out.new
          obtain⟨ap,rfl,hbp,d0,d1,d2,d3,d4,d5,d6,d7,d8,d9,d10,d11,d12,d13⟩:=(Reads.later HPX.out.1 bw).page14 hlq;have hpp:=HPF3.out _ (zan zbp hlq);have hsn:= @qcv ((za5 L r G).cols.getD j zc4) j (some (Db.map (·.2.2),R.map byP)) pl q hlq;rw[HQ.out,z8l (none,0,[]) (l:=R) (q:=q) (by omega),List.map_cons] at hsn;obtain⟨hbi,hb8,hbl⟩:=PG.out.pages _ (zan ((none,0,[]):zjm) (show q<R.length by omega));obtain⟨a1,rfl,hba,f9⟩:=z8e (Reads.later PG.out.row bw) (k:=q) (by omega);obtain⟨al,rfl,hbl2,f0,f1,f2⟩:=(Reads.later HF.out.cols bw).colT (i:=j) (by have:=HCl.out;omega);have hcolZ:(za5 L r G).cols.getD j zc4=L.getD j ([],0,false):=rfl;have HN2q:=HN2.out (q+1);rw[hcolZ] at hsn HN2q;generalize R.getD q (none,0,[])=d at*;obtain⟨da,dc,dl⟩:=d;generalize pl.getD q zbp=p at*;generalize hcc2:L.getD j ([],0,false)=col at*;obtain⟨nm,t,nu⟩:=col;obtain⟨sz,rw,nn,bb,⟨p1,p2,p3,p4,p5⟩,⟨q1,q2,q3,q4,q5⟩⟩:=p;dsimp only at d0 d1 d2 d3 d4 d5 d6 d7 d8 d9 d10 d11 d12 d13 f0 f1 f2 f9 hb8 hbl;have SC:=fun(W:World) (hW:New w W)=>zv0 (cn:=nm) (t:=t) (nu:=nu) (p:=(sz,rw,nn,bb,(p1,p2,p3,p4,p5),(q1,q2,q3,q4,q5))) (c:=dc) ⟨hpp.1.2,hpp.2.2⟩ (hbi.later hW) hb8 hbl
          have SC:∀(W:World),New w W->Calls Tryz.prog 62 #[.agg #[.string (zad nm),.int .i64 t,.bool nu],.agg #[.int .i64 sz,.int .i64 rw,.int .i64 nn,.bool bb,.bool p1,.int .i64 p2,.string (zad p3),.int .i64 p4,.int .i64 p5,.bool q1,.int .i64 q2,.string (zad q3),.int .i64 q4,.int .i64 q5],.slice da dl.length dc] W (z0b t nu (sz,rw,nn,bb,(p1,p2,p3,p4,p5),(q1,q2,q3,q4,q5)) dl W):=SC;have ha:New wr (wr.alloc (.cells #[.int .i64 sz,.int .i64 rw,.int .i64 nn,.bool bb,.bool p1,.int .i64 p2,.string (zad p3),.int .i64 p4,.int .i64 p5,.bool q1,.int .i64 q2,.string (zad q3),.int .i64 q4,.int .i64 q5] 65)):=(Below.refl _ _).alloc (Nat.le_refl _) _;have BP:=Blk.new wr 65 #[.int .i64 sz,.int .i64 rw,.int .i64 nn,.bool bb,.bool p1,.int .i64 p2,.string (zad p3),.int .i64 p4,.int .i64 p5,.bool q1,.int .i64 q2,.string (zad q3),.int .i64 q4,.int .i64 q5];obtain⟨wb,hwb⟩:∃wb,wb=wr.alloc (.cells #[.int .i64 sz,.int .i64 rw,.int .i64 nn,.bool bb,.bool p1,.int .i64 p2,.string (zad p3),.int .i64 p4,.int .i64 p5,.bool q1,.int .i64 q2,.string (zad q3),.int .i64 q4,.int .i64 q5] 65):=⟨_,rfl⟩;rw[<-hwb] at ha BP;have CK:∀(x:Addr) (u:Value),x.block<wr.heap.size->wr.cell? x=some u-> ∀W,New wb.drew W->W.cell? x=some u:=fun x u hx hu W hW=>(Below.cell (New.trans (New.trans ha (New.drew _)) hW) hx).trans hu
          have hab:∀n,(al.add n).block<wr.heap.size:=fun n=>by rw[za0];exact hbl2
          have F:=Hz (fun(W:World) (hW:New wb.drew W)=>And.intro ((ST.out.later (New.trans (New.trans ha (New.drew _)) hW)).foot) (And.intro (BP.below (New.trans (New.drew _) hW) BP.lt) (And.intro (CK _ _ (hab (j*3)) f0 W hW) (And.intro (CK ⟨(al.add (j*3)).block,(al.add (j*3)).off+1,none⟩ _ (hab (j*3)) f1 W hW) (And.intro (CK ⟨(al.add (j*3)).block,(al.add (j*3)).off+2,none⟩ _ (hab (j*3)) f2 W hW) (CK _ _ (by rw[za0];exact hba) f9 W hW))))));have SC:=Hz SC;have HSN:=Hz hsn;have HN2q:=Hz HN2q;have HWB:=Hz hwb;have HCC:=Hz hcc2;have HA:=Hz ha;have hji:(j:Int)<(L.length:Int):=by have:=HCl.out;omega
          have hqR:(q:Int)<(R.length:Int):=by omega
          clear hcc2 hcolZ hsn hwb CK hab f0 f1 f2 f9 hbl2 hba hbi hb8 hbl hpp hbp BP;go_wp2_with fail
          rw[<-HWB.out];clear HWB d0 d1 d2 d3 d4 d5 d6 d7 d8 d9 d10 d11 d12 d13;refine zat New [(true,0),(true,1),(true,2),(true,3),(true,4),(true,5),(true,6),(true,7),(true,8),(true,9),(false,10),(true,11),(true,12),(true,13),(true,14),(true,15)]
           New.refl New.trans (by kernel_rfl) (by kernel_rfl) (by kernel_rfl) (by kernel_rfl) ?_
          iterate 10 (refine za1 rfl rfl (v:=?_) (fun W hQ=>?_) ?_;rotate_left;(obtain⟨F1,F2,g0,g1,g2,g9⟩:=F.out W hQ;obtain⟨x0,x1,x2⟩:=zaf F1;obtain⟨y0,y1,y2,y3,y4,y5,y6,y7,y8,y9,y10,y11,y12,y13⟩:=zci F2;clear F1 F2;go_simp<;> with_reducible rfl);simp only[Act.put,List.setIfInBounds_toArray,List.set_cons_zero,List.set_cons_succ])
          refine zbb rfl rfl (fun K hK=>?_);go_simp
          (with_reducible refine(SC.out wb.drew (New.trans bw (New.trans HA.out (New.drew _)))).mono ?_)
          rintro e w5 ⟨b5,hpost⟩;have b5':New wb w5:=New.trans (New.drew _) b5;have ST5:=Hz (ST.out.later (New.trans HA.out b5'));rcases hpost with⟨l,A5,m5,c5,hOk,rfl,o5⟩|⟨hno,rfl⟩
          ·refine hK _ _ b5 ?_
           clear hK;iterate 5 (refine za1 rfl rfl (v:=?_) (fun W hQ=>?_) ?_;rotate_left;(go_simp<;> with_reducible rfl);simp only[Act.put,List.setIfInBounds_toArray,List.set_cons_zero,List.set_cons_succ])
           refine zc3 ?_;obtain rfl:m5=l.length:=(Reads.of_own o5).lenCell;have okq:=zya (c:=(nm,t,nu)) (j:=j) (pl.take q) HOk1.out;rw[<-HCC.out] at okq;have HQ2:=HQ.out;rw[show(za5 L r G).cols.getD j zc4=L.getD j ([],0,false) from rfl] at HQ2;rw[HQ2] at okq;obtain⟨hDl,hDs⟩:=okq _ _ rfl;rw[List.length_map] at hDl;have hjD:j<D.length:=by rw[hDl];show j<L.length;have:=HCl.out;omega
           have hsm:=hDs (D.getD j dZ).2.2 (List.mem_map.2 ⟨_,zan dZ hjD,rfl⟩);simp only[List.length_map] at hsm;have hsn:=HSN.out;rw[qd9 hOk,zba (fun d:zdy=>d.2.2) D dZ [] hjD] at hsn;have hlf:=z8c hOk;have hsm2:(D.getD j dZ).2.2.length<=65536*5000000:=by have:=HPl.out;omega
           have row:=ST5.out.rows.at_ hjD;have HD:=Hz (show w.heap.size<=gd/\B<=w5.heap.size by have:=HGT.out;have:=HB.out;have:=ST5.out.tab.lt;omega);generalize hdj:D.getD j dZ=dj at*;obtain⟨Aj,cj,lj⟩:=dj;dsimp only at hsm2 hsn row;have HSN2:=Hz hsn;have HDJ:=Hz hdj;have hjDi:(j:Int)<(D.length:Int):=by omega
           have hT1:=ziv row ST5.out.tab (by decide);have hT2:=ziv row ST5.out.data (by decide);have F5:=Hz (fun(W:World) (hW:Turns (zm2 (zm7 (Aj,cj,lj))) w5.drew W)=>And.intro (ST5.out.tab.drew.touch hW hT1) (ST5.out.data.drew.touch hW hT2));have HDj:(recs zhu D).toArray[j]? =some (.slice Aj lj.length cj):=z0m (f:=zhu) (fun _=>rfl) D dZ j hjD (by rw[hdj];rfl);have HDj:=Hz HDj;have RL:Reads w5.drew w5.drew.heap.size 5 A5 l.length (recs zam l):=Reads.of_own o5;have RL:=Hz RL;have row:=Hz row;have hDL:=Hz hDl;clear hsn hdj hT1 hT2 okq HQ2 hDs hsm HSN SC F o5 hOk hDl b5;go_wp2_with fail
           refine zds (Turns (zm2 (zm7 (Aj,cj,lj)))) 11 [(1,0),(0,1),(1,2),(1,3),(0,4),(1,5),(1,6),(0,7),(1,8),(2,9),(1,10),(2,11)]
            (Turns.refl _) Turns.trans (by kernel_rfl) (by kernel_rfl) (by kernel_rfl) (by kernel_rfl) ?_
           repeat(first
            |(refine zd4 rfl rfl (v:=?_) (fun W hW=>?_) ?_;rotate_left;(obtain⟨F1,F2⟩:=F5.out W hW;obtain⟨y0,y1,y2⟩:=zaf F1;have y3:=F2.cell j;rw[HDj.out] at y3;clear F1 F2;go_simp<;> with_reducible rfl);simp only[Act.put,List.setIfInBounds_toArray,List.set_cons_zero,List.set_cons_succ])
            |(refine zcs rfl rfl (v:=?_) (fun W=>?_) ?_;rotate_left;(go_simp<;> with_reducible rfl);simp only[Act.put,List.setIfInBounds_toArray,List.set_cons_zero,List.set_cons_succ]))
           refine zbl rfl rfl (fun K hK=>?_);refine z0l qhs (.tmp 81) (.tmp 82) rfl (W:=w) (B:=w.heap.size) (base:=B) (w:=w5.drew) row.out RL.out rfl rfl (New.trans ST5.out.new (New.drew w5)) (by have:=HB.out;omega) HD.out.2 (z0k z8k l) (by omega) (by simp only[maxLen];omega) ?_;intro A6 c6 w6 _ _ o6 g6 b6 hat6;refine hK _ _ (.inr (.inr (Turns.row g6))) ?_;clear hK;simp only[Act.put,List.setIfInBounds_toArray,List.set_cons_zero,List.set_cons_succ];refine zcs rfl rfl (v:=?_) (fun W=>?_) ?_;rotate_left;(go_simp<;> with_reducible rfl);simp only[Act.put,List.setIfInBounds_toArray,List.set_cons_zero,List.set_cons_succ];refine zbl rfl rfl (fun K hK=>?_);have BD6:=ST5.out.data.drew.grown g6 (fun e=>zal row.out ST5.out.data (by decide) e.symm);refine ziz 71 (.tmp 84) (.tmp 83) rfl gd j (.slice A6 (lj.length+l.length) c6) rfl rfl BD6 (by rw[List.size_toArray,zar (sz:=1) (fun _=>rfl)];omega) (by kernel_rfl) rfl ?_;intro w7 BD7 g7 z7;refine hK _ _ (.inr (.inl rfl)) ?_;clear hK;refine zhw ?_;have hll:(lj++l).length=lj.length+l.length:=List.length_append;have ST7:=(ST5.out.later (New.drew w5)).put (d:=(A6,c6,lj++l)) (w6:=w6) (w7:=w7) hjD HD.out.1 b6 (by unfold zm7;dsimp only;rw[hll,zaw];exact o6) (by rw[HDJ.out];exact g6) (by rw[HDJ.out];unfold zm7;dsimp only;rw[hll];exact hat6) (by unfold zm7;dsimp only;rw[hll];exact BD7) g7;have ST7:=Hz ST7;have HQ7:=Hz (show chT ((za5 L r G).cols.getD j zc4) j (some (Db.map (·.2.2),R.map byP)) (pl.take (q+1))=some ((D.set j (A6,c6,lj++l)).map (·.2.2),(R.drop (q+1)).map byP) by rw[show(za5 L r G).cols.getD j zc4=L.getD j ([],0,false) from rfl,HCC.out,HSN2.out,List.map_set])
           generalize D.set j (A6,c6,lj++l)=D7 at*;clear BD6 BD7 g7 z7 hll g6 b6 hat6 o6 RL row F5 HDj HDJ HSN2 ST5 HQ ST HD hDL hsm2 hjD hjDi hlf;go_wp2_with fail
           go_roundw
           case rel=>exact⟨q+1,D7,by omega,by go_num,ST7,HQ7⟩
           case measure=>simp[intOf];omega
          ·refine hK _ _ b5 ?_
           clear hK;iterate 5 (refine za1 rfl rfl (v:=?_) (fun W hQ=>?_) ?_;rotate_left;(go_simp<;> with_reducible rfl);simp only[Act.put,List.setIfInBounds_toArray,List.set_cons_zero,List.set_cons_succ])
           refine zc3 ?_;obtain rfl:X=none:=by rw[HXT.out];refine HN2q.out ?_;rw[HSN.out];exact qhr hno
           have BZ:=ST5.out.res;clear HXT HN1 HN2 HCS HOk1 HN2q HSN hno
           go_wp2_with (refine zah rfl 25 (.tmp 4) (.tmp 73) rfl (w.heap.size+1) _ rfl rfl BZ (by kernel_rfl) rfl (by simp[Value.oneCell']) ?_
                        intro W2 BR G2;obtain⟨r0,r1,r2⟩:=zaf BR)
           try rw[Exit.noGoto_ret]
           exact bodyPost_ret (v:= .tuple #[.agg #[.slice none 0 0,.int .i64 0,.slice none 0 0],.int .i64 2]) (by simp[results,Tryz.results25,go_sem,r0,r1,r2]) rfl (zle (zax ST5.out.new G2 (Nat.le_succ _) (Nat.le_refl _)))
         ·obtain rfl:q=pl.length:=by omega
          have hq2:=HQ.out;rw[List.take_length] at hq2;have HCS2:=Hz (show zp9 (za5 L r G).cols 0 ((C.map (·.2.2)).take (j+1)) S0=some (D.map (·.2.2),(R.drop pl.length).map byP) by rw[HCS.out];exact hq2)
          have PGc:=PG.out.cut (m:=pl.length) (by omega);have S1:=zsz qio qip A1 R.length c1 pl.length (by omega) wr;have hlen:R.length-pl.length=(R.drop pl.length).length:=by rw[List.length_drop]
          rw[hlen] at S1;generalize(if c1=pl.length then A1 else A1.map (·.add (pl.length*1)))=A2 at*;generalize c1-pl.length=c2 at*;generalize R.drop pl.length=R2 at*;have PGc:=Hz PGc;clear hq2 hlen HQ PG HCS HDb HN2 HOk1 hshi hsh hc1;go_wp2_with fail
          go_roundw
          case rel=>exact⟨j+1,D,R2,A2,c2,by omega,by go_num,rfl,ST,PGc,HCS2⟩
          case measure=>simp[intOf];omega
      ·obtain rfl:j=C.length:=by omega
       have hs2:=HS.out;rw[List.take_of_length_le (by rw[List.length_map];exact Nat.le_refl _),<-HS1.out] at hs2;have HS2:=Hz hs2;clear hs2 HS HS1 HN1 HN2 HPA HCH HPGS HPF2 HN4 HOk HCP;go_wp2_with fail
       go_roundw
       case rel=>exact⟨k+1,D,R,A1,c1,by omega,by go_num,rfl,ST,PG,HS2⟩
       case measure=>simp[intOf];omega
    ·obtain rfl:k=G.length:=by omega
     have hgl:(za5 L r G).groups.length=G.length:=by unfold za5;simp
     have hs2:=HS.out;rw[<-hgl] at hs2;have hte:=z0j hs2;rw[<-HXT.out] at hte;have hlD:=(HOT.out _ _ _ hs2).1;rw[List.length_map] at hlD;have HLD:=Hz (show D.length=L.length from hlD);have HTE:=Hz hte;obtain⟨x0,x1,x2⟩:=zaf ST.out.tab;have BZ:=ST.out.res;clear hs2 hte hlD hgl HS HXT HOT;by_cases hR:R.length=0
     ·obtain rfl:X=some (D.map (·.2.2)):=by
       rw[HTE.out,if_pos (by rw[List.map_eq_nil_iff];exact List.length_eq_zero_iff.1 hR)]
      have hRi:(R.length:Int)=0:=by omega
      clear HTE hR
      go_wp2_with (refine zah rfl 25 (.tmp 4) (.tmp 96) rfl (w.heap.size+1) _ rfl rfl BZ (by kernel_rfl) rfl (by simp[Value.oneCell']) ?_
                   intro W2 BR G2;obtain⟨r0,r1,r2⟩:=zaf BR)
      have hB:=HB.out;refine bodyPost_ret (v:= .tuple #[.agg #[.slice Aq L.length cq,.int .i64 r,.slice (some ⟨gd,0,none⟩) L.length L.length],.int .i64 0]) (by simp[results,Tryz.results25,go_sem,r0,r1,r2]) rfl ?_;have hne:∀{e sz v n xs},wr.ownsRow B e sz v n xs->v.ownBlock=none\/v.ownBlock≠some (w.heap.size+1):=fun h=> .inr (fun e=>by have:=(World.ownsRow.lt h _ e).1;omega)
      have od:wr.ownsRow B 71 1 (.slice (some ⟨gd,0,none⟩) L.length L.length) D.length (recs zhu D):=by
       refine⟨zar (sz:=1) (fun _=>rfl) D,.inr ⟨gd,L.length,(recs zhu D).toArray,by rw[HLD.out],HGT.out.2,ST.out.data,by rw[HLD.out];exact Nat.le_refl _,by simp only[maxLen];omega,?_,?_⟩⟩
       ·rw[List.size_toArray,zar (sz:=1) (fun _=>rfl),HLD.out]
       ·rw[List.take_of_length_le]
        rw[zar (sz:=1) (fun _=>rfl)];exact Nat.le_refl _
      refine⟨Aq,some ⟨gd,0,none⟩,cq,L.length,D,by rw[HLD.out],zbd (World.ownsRow.kept ST.out.cols G2 (hne ST.out.cols)) (by omega),?_,(fun d hd=>zbd (World.ownsRow.kept (ST.out.rows.rows d hd) G2 (hne (ST.out.rows.rows d hd))) (by omega)),rfl,zax ST.out.new G2 (Nat.le_succ _) (Nat.le_refl _)⟩;have:=zbd (World.ownsRow.kept od G2 (hne od)) (show w.heap.size<=B by omega);have hh:=HLD.out;rw[hh] at this⊢;exact this
     ·obtain rfl:X=none:=by
       rw[HTE.out,if_neg (by rw[List.map_eq_nil_iff];intro e;exact hR (by rw[e];rfl))]
      have hRi:0<(R.length:Int):=by omega
      clear HTE hR
      go_wp2_with (refine zah rfl 25 (.tmp 4) (.tmp 95) rfl (w.heap.size+1) _ rfl rfl BZ (by kernel_rfl) rfl (by simp[Value.oneCell']) ?_
                   intro W2 BR G2;obtain⟨r0,r1,r2⟩:=zaf BR)
      exact bodyPost_ret (v:= .tuple #[.agg #[.slice none 0 0,.int .i64 0,.slice none 0 0],.int .i64 2]) (by simp[results,Tryz.results25,go_sem,r0,r1,r2]) rfl (zle (zax ST.out.new G2 (Nat.le_succ _) (Nat.le_refl _)))
end Go.Proofs.Y
