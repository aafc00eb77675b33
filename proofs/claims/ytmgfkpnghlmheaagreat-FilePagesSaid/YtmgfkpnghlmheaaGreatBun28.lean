/- Merged. -/
import Derived.Test.YtmgfkpnghlmheaaGreatBun27
set_option maxHeartbeats 4000000
namespace Go.Hm
open Go Go.RowKit
open Classical in
noncomputable def zp7(F:FootS):Option (List Nat):=if zbj F then some (zei F) else none
theorem zmd:∀(c:Nat) (cs:List za1) (ls:List (List zax)),c<cs.length->c<ls.length->zb6 (cs.take (c+1)) (ls.take (c+1))=zb6 (cs.take c) (ls.take c)++zgn (cs.getD c zdo).2.1 (ls.getD c [])
 |0,x::cs,l::ls,_,_=>by simp[zb6]
 |c+1,x::cs,l::ls,h1,h2=>by
  have:=zmd c cs ls (by simpa using h1) (by simpa using h2);simp only[List.take_succ_cons,zb6,List.getD_cons_succ] at this⊢;rw[this,List.append_assoc]
 |_,[],_,h,_=>by simp at h
 |_,_::_,[],_,h=>by simp at h
theorem zme{cols:List za1}:∀{gs:List za5},(∀g∈gs,GroupOk cols g)->0<=(gs.map (·.1)).sum
 | [],_=>by simp
 |g::gs,h=>by
  have:=zme (gs:=gs) fun q hq=>h q (by simp[hq])
  have:=(h g (by simp)).1;rw[List.map_cons,List.sum_cons];omega
end Go.Hm
namespace Go.Proofs.Y
open Go.RowKit Go.Hm
theorem PageFine.num{p:zax}(h:PageFine p){t:Int}{nu:Bool}{m:Int}(hb:zex t nu p m=true):zxz p:=by have h1:=(pageB_most.1 hb).1;exact⟨by omega,⟨by omega,h.2.2.2⟩,CellFine.data h.1.1.1,CellFine.data h.1.1.2⟩
theorem qb6{L:List za1}(h:zos L):(putC [] L).length<=8000:=by
 unfold putC;split
 ·have h1:=z0e L (fun x hx=>(h.2.1 x hx).2.1)
  have h2:=zap (n:=L.length) (by have:=h.1;omega);have:=h.1;simp only[List.length_append,List.length_nil];omega
 ·simp
set_option maxRecDepth 100000 in
theorem zx0{w:World}{Ac:Option Addr}{cc:Nat}{L:List za1}{r:Int}{Ag:Option Addr}{cg:Nat}{G:List GrD}(h:FootIn w Ac cc L Ag G)(hp:∀g∈G,∀x∈g.2.2.2,∀p∈x.2.2,PageFine p):
 Calls Tryz.prog 21 #[zhx Ac cc L r Ag cg G] w (OptB (zp7 (za3 L r G)) w):=by
 have RT:=Hz (fun(W:World) (hW:New w W)=>zi7 (cg:=cg) (r:=r) (h.later hW) (fun g hg x hx p hpm=>(hp g hg x hx p hpm).stat));have HG:=Hz h.groups;have HL:=Hz h.cols;have hfew:=h.few;have hfew2:=h.few2;have hfine:=h.fine;have hcap:=h.cap;have HCH:=Hz h.chunks;have HPG:=Hz h.pages;have HP:=Hz hp;clear h hp;obtain⟨M,hM⟩:∃M,M=zp7 (za3 L r G):=⟨_,rfl⟩;rw[<-hM];unfold zp7 at hM;show Calls Tryz.prog 21 #[.agg #[.slice Ac L.length cc,.int .i64 r,.slice Ag G.length cg]] w (OptB M w);have B0:=Blk.new w 38 #[.slice Ac L.length cc,.int .i64 r,.slice Ag G.length cg];have b0:New w (w.alloc (.cells #[.slice Ac L.length cc,.int .i64 r,.slice Ag G.length cg] 38)):=(Below.refl _ _).alloc (Nat.le_refl _) _;obtain⟨x0,x1,x2⟩:=zad B0;by_cases hok:zbj (za3 L r G)
 ·rw[if_pos hok] at hM
  rw[zi6 hok] at RT;have RT:Hid (∀W,New w W->Calls Tryz.prog 55 #[.agg #[.slice Ac L.length cc,.int .i64 r,.slice Ag G.length cg]] W (zak (.bool true) W)):=RT;have hok2:=hok;obtain⟨hcok,hgok,hsum,hr,-⟩:=hok;unfold za3 at hok2 hgok hsum hM;dsimp only[za3] at hcok hr;dsimp only at hgok hsum;have hr0:=zme hgok;rw[hsum] at hr0;obtain⟨rN,rfl⟩:=Int.eq_ofNat_of_zero_le hr0;unfold zei at hM;dsimp only at hM;rw[Int.toNat_natCast,List.length_map] at hM;have hcl:=qb6 hcok;have SPt:=Hz (fun(W:World) (hW:New w W)=>qb1 (A:=none) (n:=0) (c:=0) (b:=[]) (c2:=cc) Reads.none_ (by omega) (Reads.later HL.out hW) hfine hcap hfew);have HMap:=Hz (fun(k:Nat) (hk:k<G.length)=>zbe grP G (k:=k) grZ zaj hk);have HLen:=Hz (show(G.map grP).length=G.length from List.length_map ..);have HOK:=Hz hok2;have HL64:L.length<=64:=hcok.1;have hGl:G.length<=65536:=by have:=(zne hgok).1;rw[List.length_map,hsum] at this;omega
  have HM:=Hz hM;clear hM hgok hsum hr0 hok2 hcok hfine;generalize G.map grP=GP at*;generalize putC [] L=PC at*;go_enter Tryz.func21,Tryz.ntmps21
  go_wp2_with fail
  refine(RT.out _ b0).mono ?_;rintro e w1 ⟨rfl,b1⟩;have B1:=B0.below b1 B0.lt;have b01:=New.trans b0 b1;clear B0 b0 b1 x0 x1 x2 RT;obtain⟨x0,x1,x2⟩:=zad B1;go_wp2_with fail
  refine(SPt.out _ b01).mono ?_;rintro e w2 ⟨A2,n2,c2,rfl,o2,b2⟩;have hq2:n2<=8000:=by have:=o2.len;rw[zaa] at this;omega
  have hbase:w.heap.size<=w1.heap.size:=b01.size;have B2:=B1.below b2 B1.lt;have hB1:w.heap.size<w1.heap.size:=B1.lt;have hz2:=b2.size;have N1:=Hz (zd0 (N:=rN) o2 hz2 (by omega) (by omega));have VR:=zap (n:=rN) (by omega);have VG:=zap (n:=G.length) (by omega);clear SPt B1 x0 x1 x2;obtain⟨x0,x1,x2⟩:=zad B2;go_wp2_with fail
  refine N1.out.mono ?_;rintro e w3 ⟨A3,n3,c3,rfl,o3,g3⟩;have hq3:n3<=8010:=by have h1:=o3.len;have h2:=o2.len;rw[zaa,List.length_append] at h1;rw[zaa] at h2;omega
  have bb3:=g3.below o2 b2 (Nat.le_refl _) hz2;have hz3:=g3.size;have N2:=Hz (zd0 (N:=G.length) o3 (by omega) (by omega) (by omega));have B3:=g3.blk o2 B2 (by decide);clear N1 o2 g3 B2 x0 x1 x2 b2;obtain⟨x0,x1,x2⟩:=zad B3;go_wp2_with fail
  refine N2.out.mono ?_;rintro e w4 ⟨A4,n4,c4,rfl,o4,g4⟩;have hq4:n4<=8020:=by have h1:=o4.len;have h2:=o3.len;rw[zaa,List.length_append] at h1;rw[zaa] at h2;omega
  have bb4:=g4.below o3 bb3 (Nat.le_refl _) (by omega);have hz4:=g4.size;have B4:=g4.blk o3 B3 (by decide);have hz14:w1.heap.size<=w4.heap.size:=by omega
  clear N2 o3 g4 B3 x0 x1 x2 bb3;obtain⟨x0,x1,x2⟩:=zad B4;go_wp2_with fail
  clear x0 x1 x2;go_loopw [4,27] (fun v i wr=>∃(k:Nat) (B:Option Addr) (m d R:Nat),k<=G.length/\i= .int .i64 (k:Int)/\v= .slice B m d/\Go.Hm.Own wr w1.heap.size 5 (.slice B m d) (za2 .u8 (PC++vp rN++vp G.length++(GP.take k).flatMap (zc8 L)))
   /\(R:Int)=((GP.take k).map (·.1)).sum/\m<=9000+700*k+8961280*R/\Blk wr w.heap.size 38 #[.slice Ac L.length cc,.int .i64 (rN:Int),.slice Ag G.length cg]/\Below w1.heap.size w1 wr/\w1.heap.size<=wr.heap.size) (fun _ i _=>G.length-(intOf i).toNat)
  case atStart=>exact⟨0,A4,n4,c4,0,Nat.zero_le _,rfl,rfl,by simpa using o4,by simp,by omega,B4,bb4,hz14⟩
  case round=>
   obtain⟨k,Bv,m,d,R,hk,rfl,rfl,o,hR,hml,B,bb,hzw⟩:=hrel;clear o4 B4 bb4 hq4;have bw:New w wr:=New.trans b01 bb;by_cases hlt:k<G.length
   ·obtain⟨ad,rfl,hb,d0,d1⟩:=(Reads.later HG.out bw).gr2 hlt
    have hgm:=zal grZ hlt;have hch:=HCH.out _ hgm;have hpg:=HPG.out _ hgm;have hpp:=HP.out _ hgm;have hmap:=HMap.out k hlt;have hltP:k<GP.length:=by rw[HLen.out];exact hlt
    have hgok:=HOK.out.2.1 (GP.getD k zaj) (zal zaj hltP);have hrows:=zu9 HOK.out hltP;have hts:=zbq (fun g:za5=>g.1) GP k zaj hltP;have hfm:(GP.take (k+1)).flatMap (zc8 L)=(GP.take k).flatMap (zc8 L)++zc8 L (GP.getD k zaj):=by rw[zae GP k zaj hltP,List.flatMap_append];simp
    dsimp only at hgok hrows hts;rw[hmap] at hgok hrows hts hfm;generalize G.getD k grZ=g at*;obtain⟨gI,Ach,cch,D⟩:=g;unfold grP at hgok hrows hts hfm;dsimp only at d0 d1 hch hpg hpp hgok hrows hts hfm;obtain⟨hg1,hg2,hg3⟩:=hgok;dsimp only at hg1 hg2 hg3;obtain⟨gr,rfl⟩:=Int.eq_ofNat_of_zero_le (show 0<=gI by omega);rw[List.length_map] at hg2;rw[show zc8 L ((gr:Int),D.map fun x:ChD=>x.2.2)=vp gr++zb6 L (D.map fun x:ChD=>x.2.2) from rfl] at hfm;have hgr:gr+R<=65536:=by omega
    have hRR:((R+gr:Nat):Int)=((GP.take (k+1)).map (·.1)).sum:=by rw[hts,<-hR];simp
    have HRR:=Hz hRR;have HFM:=Hz hfm;have HG3:=Hz hg3;have HCHk:=Hz hch.1;have HPGk:=Hz hpg;have HPPk:=Hz hpp;have hDL:D.length<=L.length:=by omega
    have HG2:=Hz hg2;clear hmap hltP hgm hb hch hpg hpp hts hrows hR hRR hfm hg3 hg2;have ha:New wr (wr.alloc (.cells #[.int .i64 (gr:Int),.slice Ach D.length cch] 56)):=(Below.refl _ _).alloc (Nat.le_refl _) _;have BG:=Blk.new wr 56 #[.int .i64 (gr:Int),.slice Ach D.length cch];have B5:=B.below ha B.lt;have o5:=o.later ha;have bb5:Below w1.heap.size w1 (wr.alloc (.cells #[.int .i64 (gr:Int),.slice Ach D.length cch] 56)):=bb.trans (Below.mono ha hzw);obtain⟨z0,z1⟩:=za7 BG;have N1:=Hz (zd0 (N:=gr) o5 (by simp;omega) (by omega) (by omega));have VGr:=zap (n:=gr) (by omega);have HML:=Hz hml;have hmq:m<=700000000000:=by omega
    clear B o bb ha;go_wp2_with fail
    refine N1.out.mono ?_;rintro e w6 ⟨A6,n6,c6,rfl,o6,g6⟩;have hq6:n6<=m+10:=by have h1:=o6.len;have h2:=o5.len;rw[zaa,List.length_append] at h1;rw[zaa] at h2;omega
    have bb6:=g6.below o5 bb5 (Nat.le_refl _) (by simp;omega);have hz6:=g6.size;simp only[World.size_alloc] at hz6;have B6:=g6.blk o5 B5 (by decide);have BG6:=g6.blk o5 BG (by decide);have hz16:w1.heap.size<=w6.heap.size:=by omega
    clear N1 o5 g6 B5 BG z0 z1 bb5;obtain⟨z0,z1⟩:=za7 BG6;have hY:∃Y,Y=10+gr*140020:=⟨_,rfl⟩;obtain⟨Y,hY⟩:=hY;have HYY:=Hz hY;clear d0 d1 hY;go_wp2_with fail
    clear z0 z1 BG6;go_loopw [4,38] (fun v i wr=>∃(c:Nat) (Bq:Option Addr) (m2 d2:Nat),c<=D.length/\i= .int .i64 (c:Int)/\v= .slice Bq m2 d2
     /\Go.Hm.Own wr w1.heap.size 5 (.slice Bq m2 d2) (za2 .u8 (PC++vp rN++vp G.length++(GP.take k).flatMap (zc8 L)++vp gr++zb6 (L.take c) ((D.map (fun x:ChD=>x.2.2)).take c)))
     /\m2<=m+10+c*Y/\Blk wr w.heap.size 38 #[.slice Ac L.length cc,.int .i64 (rN:Int),.slice (some ad) G.length cg]/\Below w1.heap.size w1 wr/\w1.heap.size<=wr.heap.size) (fun _ i _=>D.length-(intOf i).toNat)
    case atStart=>exact⟨0,A6,n6,c6,Nat.zero_le _,rfl,rfl,by simpa[zb6] using o6,by omega,B6,bb6,hz16⟩
    case round=>
     obtain⟨c,Bq,m2,d2,hc,rfl,rfl,oq,hmc,Bx,bbq,hzq⟩:=hrel;clear o6 hq6 B6 bb6 hz16 hz6;have bq:New w wr:=New.trans b01 bbq;have hcY:c*Y<=64*Y:=Nat.mul_le_mul_right _ (by omega);have hYv:=HYY.out;have hm2q:m2<=90000000000000:=by omega
     by_cases hlc:c<D.length
     ·have hcL:c<L.length:=by omega
      obtain⟨ac,rfl,hbc,e0⟩:=(Reads.later HCHk.out bq).ch1 hlc;obtain⟨al,rfl,hbl,f0,f1,f2⟩:=(Reads.later HL.out bq).colT hcL;have hxm:=zal chZ hlc;have hpx:=HPGk.out _ hxm;have hsx:=HPPk.out _ hxm;have hco:=HG3.out c hcL;have hsn:=zmd c L (D.map fun x:ChD=>x.2.2) hcL (by rw[List.length_map];exact hlc);rw[zbe (fun x:ChD=>x.2.2) D chZ [] hlc] at hco hsn;generalize D.getD c chZ=x at*;obtain⟨Ax,cx,pl⟩:=x;dsimp only at e0 hpx hsx hco hsn;have hpn:∀p∈pl,zxz p:=fun p hpm=>(hsx p hpm).num (hco.1 p hpm)
      have hpl:=zeo hco.1;have hcr:=hco.2;have hnp:pl.length<=gr:=by omega
      have rP:Reads wr w1.heap.size 14 Ax pl.length (recs zf7 pl):=(hpx.1.below bq).more hbase;generalize L.getD c zdo=col at*;obtain⟨nm,t,nu⟩:=col;dsimp only at f0 f1 f2 hsn;have hnp2:pl.length<=65536:=by omega
      have hnn:m2+10+pl.length*140020<=100000000000000:=by clear hcY hmc;omega
      have PPG:=Hz (zvn (t:=t) (cp:=cx) oq hzq rP hpn hnn);have hlch:(zgn t pl).length<=10+pl.length*140020:=by
       have h1:=zlp (t:=t) pl (fun p hpm=>by have:=hpn p hpm;have h1:=this.1;have h2:=this.2.1;omega)
       have h2:=zap (n:=pl.length) (by omega);unfold zgn;rw[List.length_append];omega
      have hchY:(zgn t pl).length<=Y:=by omega
      have HSN:=Hz hsn;obtain⟨x0,x1,x2⟩:=zad Bx;clear hsn hco hcr hpl hpn hpx hsx hxm hbc hbl rP hlch hYv;go_wp2_with fail
      refine PPG.out.mono ?_;rintro e w7 ⟨A7,n7,c7,rfl,o7,g7⟩;have hq7:n7<=m2+Y:=by have h1:=o7.len;have h2:=oq.len;rw[zaa,List.length_append] at h1;rw[zaa] at h2;omega
      have bb7:=g7.below oq bbq (Nat.le_refl _) hzq;have hz7:=g7.size;have B7:=g7.blk oq Bx (by decide);have hsm:(c+1)*Y=c*Y+Y:=Nat.succ_mul c Y;have o7:Go.Hm.Own w7 w1.heap.size 5 (.slice A7 n7 c7) (za2 .u8 (PC++vp rN++vp G.length++(GP.take k).flatMap (zc8 L)++vp gr++zb6 (L.take (c+1)) ((D.map (fun x:ChD=>x.2.2)).take (c+1)))):=by rw[HSN.out];simpa using o7
      have hq8:n7<=m+10+(c+1)*Y:=by omega
      have hz8:w1.heap.size<=w7.heap.size:=by omega
      clear PPG oq g7 Bx x0 x1 x2 hsm hq7 hmc;go_wp2_with fail
      go_roundw
      case rel=>exact⟨c+1,A7,n7,c7,by omega,by go_num,rfl,o7,hq8,B7,bb7,hz8⟩
      case measure=>simp[intOf];omega
     ·obtain rfl:c=D.length:=by omega
      have hfin:PC++vp rN++vp G.length++(GP.take k).flatMap (zc8 L)++vp gr++zb6 (L.take D.length) ((D.map (fun x:ChD=>x.2.2)).take D.length)=PC++vp rN++vp G.length++(GP.take (k+1)).flatMap (zc8 L):=by rw[HFM.out,HG2.out,List.take_length,show(D.map fun x:ChD=>x.2.2).take L.length=D.map fun x:ChD=>x.2.2 from List.take_of_length_le (by rw[List.length_map,HG2.out];exact Nat.le_refl _)];simp
      rw[hfin] at oq;have hml2:m2<=9000+700*(k+1)+8961280*(R+gr):=by have:=HML.out;omega
      clear hfin hmc;go_wp2_with fail
      go_roundw
      case rel=>exact⟨k+1,Bq,m2,d2,R+gr,by omega,by go_num,rfl,oq,HRR.out,hml2,Bx,bbq,hzq⟩
      case measure=>simp[intOf];omega
   ·obtain rfl:k=G.length:=by omega
    have HO2:=Hz o;clear o hR;go_wp2_with fail
    go_ret2
    rw[HM.out];have:=HO2.out;rw[<-HLen.out,List.take_length,HLen.out] at this;exact⟨_,_,_,rfl,this.base_le hbase,bw⟩
 ·rw[if_neg hok] at hM
  rw[zks hok] at RT;have RT:Hid (∀W,New w W->Calls Tryz.prog 55 #[.agg #[.slice Ac L.length cc,.int .i64 r,.slice Ag G.length cg]] W (zak (.bool false) W)):=RT;have HM:=Hz hM;clear hM hok;go_enter Tryz.func21,Tryz.ntmps21
  go_wp2_with fail
  refine(RT.out _ b0).mono ?_;rintro e w1 ⟨rfl,b1⟩;go_wp2_with fail
  go_ret2
  rw[HM.out];exact⟨rfl,New.trans b0 b1⟩
end Go.Proofs.Y
namespace Go.Hm
open Go Go.RowKit
theorem zo3{P:Program}{ops:Array Oper}{rest:List Oper}{op:Oper}{a:Act}{w:World}{Q:Exit->Act->World->Prop}(hgd:op.guard=none)(ty:TypeId)(x y:Operand)(ho:op.op= .store ty x y)
 (g o:Nat){v0 v1 v2 v3 v4 v5 v6 v7 v8 v9 v10 v11:Value}(hx:a.eval x= .pointer (some ⟨g,o,none⟩))(hy:a.eval y= .agg #[v0,v1,v2,v3,v4,v5,v6,v7,v8,v9,v10,v11]){t:TypeId}{cs:Array Value}(hB:Blk w g t cs)(hsz:o+12<=cs.size)
 (hi:(P.info? ty).map (·.size)=some 12)(h1:(#[v0,v1,v2,v3,v4,v5,v6,v7,v8,v9,v10,v11]:Array Value).all (·.oneCell')=true)
 (h:∀W,Blk W g t ((((((((((((cs.setIfInBounds (o) v0).setIfInBounds (o+1) v1).setIfInBounds (o+1+1) v2).setIfInBounds (o+1+1+1) v3).setIfInBounds (o+1+1+1+1) v4).setIfInBounds (o+1+1+1+1+1) v5).setIfInBounds (o+1+1+1+1+1+1) v6).setIfInBounds (o+1+1+1+1+1+1+1) v7).setIfInBounds (o+1+1+1+1+1+1+1+1) v8).setIfInBounds (o+1+1+1+1+1+1+1+1+1) v9).setIfInBounds (o+1+1+1+1+1+1+1+1+1+1) v10).setIfInBounds (o+1+1+1+1+1+1+1+1+1+1+1) v11)->w.grownBy W (some g)->wpList P ops Q rest (a.put op.dst undef) W):wpList P ops Q (op::rest) a w:=by
 have ht:w.there g o (#[v0,v1,v2,v3,v4,v5,v6,v7,v8,v9,v10,v11]:Array Value).size:=by intro j hj;have hj:j<12:=hj;refine⟨?_,hB.frozen _⟩;rw[hB.cell,Array.getElem?_eq_getElem (by omega)];rfl
 refine wpList_store_mid hgd ty x y ho g o #[v0,v1,v2,v3,v4,v5,v6,v7,v8,v9,v10,v11] hx hy ht hi h1 ?_;exact h _ ((((((((((((hB.set_ (o) v0).set_ (o+1) v1).set_ (o+1+1) v2).set_ (o+1+1+1) v3).set_ (o+1+1+1+1) v4).set_ (o+1+1+1+1+1) v5).set_ (o+1+1+1+1+1+1) v6).set_ (o+1+1+1+1+1+1+1) v7).set_ (o+1+1+1+1+1+1+1+1) v8).set_ (o+1+1+1+1+1+1+1+1+1) v9).set_ (o+1+1+1+1+1+1+1+1+1+1) v10).set_ (o+1+1+1+1+1+1+1+1+1+1+1) v11) ((((((((((((zar (w:=w) (g:=g) (i:=o) (x:=v0)).trans zar).trans zar).trans zar).trans zar).trans zar).trans zar).trans zar).trans zar).trans zar).trans zar).trans zar)
end Go.Hm
namespace Go.Proofs.Y
open Go.RowKit Go.Hm
theorem z0j{t:Int}{S:St}(hS:S.ok):((getA t S).2.getD []).length<=(S.getD []).length:=by
 cases h:(getA t S).2 with
 |none=>simp
 |some r=>
  have:=(zou hS (show getA t S=((getA t S).1,some r) by rw[<-h])).1;rw[this];simp
def z7m(l:List zax)(g:Nat)(S:St)(w:World)(e:Ending)(w':World):Prop:=∃A n c,e= .returned (.slice A n c)/\w'.ownsRow w.heap.size 65 14 (.slice A n c) n (recs zf7 l)/\CurS w' g S/\w.grownBy w' (some g)
theorem qi7:ElT Tryz.prog 53 65 (.agg #[.int .i64 0,.int .i64 0,.int .i64 0,.bool false,.bool false,.int .i64 0,.string ⟨#[]⟩,.int .i64 0,.int .i64 0,.bool false,.int .i64 0,.string ⟨#[]⟩,.int .i64 0,.int .i64 0]) 14 128:=⟨by kernel_rfl,by kernel_rfl,rfl,by omega⟩
theorem zx1{t m:Int}{j:Nat}{b:List Nat}:zcn t m (j+1) (some b)=((zgt t m (some b)).1::(zcn t m j (zgt t m (some b)).2).1,(zcn t m j (zgt t m (some b)).2).2):=rfl
set_option maxRecDepth 100000 in
theorem zvo{w:World}{g:Nat}{S:St}{t m:Int}(h:CurS w g S)(hl:(S.getD []).length<=140737488351232)(hm:0<=m/\m<=65536):
 Calls Tryz.prog 112 #[.pointer (some ⟨g,0,none⟩),.int .i64 t,.int .i64 m] w (z7m (zdd t m S).1 g (zdd t m S).2 w):=by
 obtain⟨X,hX⟩:∃X,X=zdd t m S:=⟨_,rfl⟩;rw[<-hX];unfold zdd at hX;have hle:=zbx (m:=m) S hm.1 h.ok;have hok:=zba (m:=m) h.ok;have hsub:=zc3 (m:=m) h.ok;have hgw:=h.lt;have L1:=Hz (zcc (m:=m) h (by omega) (by omega));generalize lenS m S=H at*;obtain⟨N,S1⟩:=H;dsimp only at*;have HX:=Hz (show X=([]++(zcn t m N S1).1,(zcn t m N S1).2) from hX);clear hX h;go_enter Tryz.func112,Tryz.ntmps112
 go_wp2_with fail
 refine L1.out.mono ?_;rintro e w1 ⟨rfl,s1,g1⟩;clear L1;go_wp2_with fail
 go_loopw [7,8] (fun v i wr=>∃(j q c:Nat) (A:Option Addr) (pre:List zax) (Sj:St),i= .int .i64 (j:Int)/\v= .slice A q c/\wr.ownsRow w.heap.size 65 14 (.slice A q c) q (recs zf7 pre)/\q+j=N/\CurS wr g Sj/\(Sj.getD []).length<=140737488351232
  /\w.grownBy wr (some g)/\Hid (X=(pre++(zcn t m j Sj).1,(zcn t m j Sj).2))) (fun _ i _=>(intOf i).toNat)
 case atStart=>exact⟨N,0,0,none,[],S1,rfl,rfl,zcp,by omega,s1,by omega,g1,HX⟩
 case round=>
  obtain⟨j,q,c,A,pre,Sj,rfl,rfl,o,hqj,s,hsl,G,HXj⟩:=hrel;clear HX s1 g1 hok hsub;have BD:=Hz (zzi s);have hgr:=G.size;by_cases hj:0<j
  ·cases Sj with
   |none=>
    simp only[Option.isNone_none] at BD;have hX:=HXj.out;rw[zxu,List.append_nil] at hX;have HX:=Hz hX;clear hX HXj;go_wp2_with fail
    refine BD.out.mono ?_;rintro e w2 ⟨rfl,rfl⟩;go_wp2_with fail
    go_ret
    rw[HX.out];exact⟨_,_,_,rfl,o,s,G⟩
   |some b=>
    simp only[Option.isNone_some] at BD;obtain⟨j,rfl⟩:∃k,j=k+1:=⟨j-1,by omega⟩;have hX:=HXj.out;rw[zx1] at hX;have hokb:=s.ok;have hokp:=znd (t:=t) (m:=m) hokb;unfold zgt at hX hokp;have b1:=zc3 (m:=268435456) hokb;have b2:=zba (m:=268435456) hokb;have b3:=zbx (m:=268435456) (some b) (by omega) hokb;have hap:=fun b e=>(World.ownsRow.lt o b e).2
    have ha:New wr (wr.alloc (.cells #[.int .i64 0,.int .i64 0,.int .i64 0,.bool false,.bool false,.int .i64 0,.string ⟨#[]⟩,.int .i64 0,.int .i64 0,.bool false,.int .i64 0,.string ⟨#[]⟩,.int .i64 0,.int .i64 0] 65)):=(Below.refl _ _).alloc (Nat.le_refl _) _;have BP:=Blk.new wr 65 #[.int .i64 0,.int .i64 0,.int .i64 0,.bool false,.bool false,.int .i64 0,.string ⟨#[]⟩,.int .i64 0,.int .i64 0,.bool false,.int .i64 0,.string ⟨#[]⟩,.int .i64 0,.int .i64 0];have s2:=s.below ha;have o2:=zav o ha;have G2:=ze7 G (zdg (row:=none) ha) (by simp);have hgl:=s.lt;have L2:=Hz (zcc (m:=268435456) s2 (by omega) (by omega));generalize lenS 268435456 (some b)=H2 at*;obtain⟨sz,S2⟩:=H2;dsimp only at hX hokp b1 b2 b3 L2;have b4:=zc3 (m:=m) b2;have b5:=zba (m:=m) b2;have b6:=zbx (m:=m) S2 hm.1 b2;clear HXj o G s;go_wp2_with fail
    refine BD.out.mono ?_;rintro e w2 ⟨rfl,rfl⟩;go_wp2_with fail
    refine L2.out.mono ?_;rintro e w3 ⟨rfl,s3,g3⟩;have hz3:=g3.size;simp only[World.size_alloc] at hz3;have BP3:=BP.grown g3 (by intro e;injection e with e;omega);have o3:=o2.kept g3 (.inr (fun e=>by have:=(World.ownsRow.lt o2 _ e).1;omega));have G3:=G2.trans g3;obtain⟨x0,x1,x2,x3,x4,x5,x6,x7,x8,x9,x10,x11,x12,x13⟩:=zce BP3;have f0:=BP3.frozen 0;have gS:w3.grownBy (w3.setCell ⟨wr.heap.size,0,none⟩ (.int .i64 (sz:Int))) (some wr.heap.size):=zar;have hzS:w3.heap.size<=(w3.setCell ⟨wr.heap.size,0,none⟩ (.int .i64 (sz:Int))).heap.size:=gS.size;have s4:=s3.keep gS BP3 (by omega) (by decide);have o4:=o3.kept gS (.inr (fun e=>by have:=hap _ e;omega));have BP4:=BP3.set_ 0 (.int .i64 (sz:Int));simp only[List.setIfInBounds_toArray,List.set_cons_zero] at BP4;have G4:=zbd G3 gS (by omega);have L4:=Hz (zcc (m:=m) s4 (by omega) (by omega));generalize lenS m S2=H4 at*;obtain⟨rw,S4⟩:=H4;dsimp only at hX hokp b4 b5 b6 L4;clear L2 o2 G2 g3 BP s2 s3 o3 G3 BP3 gS BD;go_wp2_with fail
    refine L4.out.mono ?_;rintro e w5 ⟨rfl,s5,g5⟩;have hz5:=g5.size;have BP5:=BP4.grown g5 (by intro e;injection e with e;omega);have o5:=o4.kept g5 (.inr (fun e=>by have:=(World.ownsRow.lt o4 _ e).1;omega));have G5:=G4.trans g5;clear x0 x1 x2 x3 x4 x5 x6 x7 x8 x9 x10 x11 x12 x13 f0 L4 o4 G4 g5 BP4 s4;obtain⟨x0,x1,x2,x3,x4,x5,x6,x7,x8,x9,x10,x11,x12,x13⟩:=zce BP5;have f1:=BP5.frozen 1;have gS:w5.grownBy (w5.setCell ⟨wr.heap.size,1,none⟩ (.int .i64 (rw:Int))) (some wr.heap.size):=zar;have hzS5:w5.heap.size<=(w5.setCell ⟨wr.heap.size,1,none⟩ (.int .i64 (rw:Int))).heap.size:=gS.size;have s6:=s5.keep gS BP5 (by omega) (by decide);have o6:=o5.kept gS (.inr (fun e=>by have:=hap _ e;omega));have BP6:=BP5.set_ 1 (.int .i64 (rw:Int));simp only[List.setIfInBounds_toArray,List.set_cons_zero,List.set_cons_succ] at BP6;have G6:=zbd G5 gS (by omega);have L6:=Hz (z6p (t:=t) s6 (by simp only[Option.getD_some] at hsl b1;omega));have hsA:=z0j (t:=t) b5;generalize getA t S4=H6 at*;obtain⟨⟨nn,bb,⟨p1,p2,p3,p4,p5⟩,⟨q1,q2,q3,q4,q5⟩⟩,S6⟩:=H6;dsimp only at hX hokp L6 hsA;have HX:=Hz hX;clear s5 o5 gS BP5 G5 hX;go_wp2_with fail
    refine L6.out.mono ?_;rintro e w7 ⟨rfl,s7,g7⟩;rw[show zbz (nn,bb,(p1,p2,p3,p4,p5),(q1,q2,q3,q4,q5))= .agg #[.int .i64 nn,.bool bb,.bool p1,.int .i64 p2,.string (zac p3),.int .i64 p4,.int .i64 p5,.bool q1,.int .i64 q2,.string (zac q3),.int .i64 q4,.int .i64 q5] from rfl];have hz7:=g7.size;have BP7:=BP6.grown g7 (by intro e;injection e with e;omega);have o7:=o6.kept g7 (.inr (fun e=>by have:=(World.ownsRow.lt o6 _ e).1;omega));have G7:=G6.trans g7;clear x0 x1 x2 x3 x4 x5 x6 x7 x8 x9 x10 x11 x12 x13 f1 L6 o6 G6 g7 BP6 s6;go_wp2_with (first
     |(refine zo3 rfl 63 (.tmp 32) (.tmp 31) rfl wr.heap.size 2 rfl rfl BP7 (by simp) (by kernel_rfl) (by simp[Value.oneCell']) ?_
       intro w8 BP8 g8;simp only[List.setIfInBounds_toArray,List.set_cons_zero,List.set_cons_succ] at BP8;have s8:=s7.keep g8 BP7 (by omega) (by decide);have o8:=o7.kept g8 (.inr (fun e=>by have:=hap _ e;omega));have hz8:=g8.size;have G8:=zbd G7 g8 (by omega);obtain⟨x0,x1,x2,x3,x4,x5,x6,x7,x8,x9,x10,x11,x12,x13⟩:=zce BP8;clear BP7 s7 o7 G7 g8)
     |(refine zdc qi7 rfl (.tmp 33) (.tmp 35) rfl (W:=w) (B:=0) (base:=w.heap.size) (n:=q) o8 rfl rfl (zlc G8) (Nat.zero_le _) (by omega) rfl (by simp[Value.oneCell']) (by omega) (by simp only[maxLen];omega) ?_
       intro A9 c9 w9 hc9 _ o9 g9 _ hz9 _;have s9:=s8.pushRow o8 g9 (by decide) (by decide);have G9:=ze7 G8 g9 (fun b e=>(World.ownsRow.lt o8 b e).1);have o9:w9.ownsRow w.heap.size 65 14 (.slice A9 (q+1) c9) (q+1) (recs zf7 (pre++[((sz:Int),(rw:Int),(nn,bb,(p1,p2,p3,p4,p5),(q1,q2,q3,q4,q5)))])):=by rw[zas];exact o9
       have HX2:Hid (X=((pre++[((sz:Int),(rw:Int),(nn,bb,(p1,p2,p3,p4,p5),(q1,q2,q3,q4,q5)))])++(zcn t m j S6).1,(zcn t m j S6).2)):=Hz (by rw[HX.out];simp);clear o8 s8 G8 g9 HX BP8))
    go_roundw
    case rel=>exact⟨j,q+1,c9,A9,_,S6,by go_num,rfl,o9,by omega,s9,by simp only[Option.getD_some] at hsl b1;omega,G9,HX2⟩
    case measure=>simp[intOf]
  ·obtain rfl:j=0:=by omega
   have hX:=HXj.out;have e0:zcn t m 0 Sj=([],Sj):=rfl;rw[e0,List.append_nil] at hX;have HX:=Hz hX;clear hX HXj e0;go_wp2_with fail
   go_ret
   rw[HX.out];exact⟨_,_,_,rfl,o,s,G⟩
end Go.Proofs.Y
