import Derived.Test.YtbahbnbpmfgimaaGreatDoorBun31
set_option maxHeartbeats 4000000
set_option maxRecDepth 100000
namespace Go.Hm
open Go Go.RowKit
open Classical in
noncomputable def zq6(F:FootS):Option (List Nat):=if zb0 F then some (ze8 F) else none
theorem znn:∀(c:Nat) (cs:List zbi) (ls:List (List zbc)),c<cs.length->c<ls.length->zcl (cs.take (c+1)) (ls.take (c+1))=zcl (cs.take c) (ls.take c)++zgz (cs.getD c zf5).2.1 (ls.getD c [])
 |0,x::cs,l::ls,_,_=>by simp[zcl]
 |c+1,x::cs,l::ls,h1,h2=>by
  have:=znn c cs ls (by simpa using h1) (by simpa using h2);simp only[qqb,zcl,qp8] at this⊢;rw[this,qmi]
 |_,[],_,h,_=>by simp at h
 |_,_::_,[],_,h=>by simp at h
theorem zno{cols:List zbi}:∀{gs:List za9},(∀g∈gs,GroupOk cols g)->0<=(gs.map (·.1)).sum
 | [],_=>by simp
 |g::gs,h=>by
  have:=zno (gs:=gs) fun q hq=>h q (by simp[hq])
  have:=(h g (by simp)).1;rw[qmp,qpf];omega
end Go.Hm
namespace Go.Proofs.Y
open Go.RowKit Go.Hm
theorem PageFine.num{p:zbc}(h:PageFine p){t:Int}{nu:Bool}{m:Int}(hb:zij t nu p m=true):zy2 p:=by have h1:=(pageB_most.1 hb).1;exact⟨by omega,⟨by omega,h.2.2.2⟩,CellFine.data h.1.1.1,CellFine.data h.1.1.2⟩
theorem qdv{L:List zbi}(h:zpv L):(putC [] L).length<=8000:=by
 unfold putC;split
 ·have h1:=z06 L (fun x hx=>(h.2.1 x hx).2.1)
  have h2:=zas (n:=L.length) (by have:=h.1;omega);have:=h.1;simp only[qmv,qpg];omega
 ·simp
theorem zy3{w:World}{Ac:Option Addr}{cc:Nat}{L:List zbi}{r:Int}{Ag:Option Addr}{cg:Nat}{G:List GrD}(h:FootIn w Ac cc L Ag G)(hp:∀g∈G,∀x∈g.2.2.2,∀p∈x.2.2,PageFine p):
 Calls Tryz.prog 52 #[zln Ac cc L r Ag cg G] w (OptB (zq6 (zb5 L r G)) w):=by
 have RT:=qrf (fun(W:World) (hW:New w W)=>zms (cg:=cg) (r:=r) (h.later hW) (fun g hg x hx p hpm=>(hp g hg x hx p hpm).stat));have HG:=qrf h.groups;have HL:=qrf h.cols;have hfew:=h.few;have hfew2:=h.few2;have hfine:=h.fine;have hcap:=h.cap;have HCH:=qrf h.chunks;have HPG:=qrf h.pages;have HP:=qrf hp;clear h hp;obtain⟨M,hM⟩:∃M,M=zq6 (zb5 L r G):=⟨_,rfl⟩;rw[<-hM];unfold zq6 at hM;show Calls Tryz.prog 52 #[.agg #[.slice Ac L.length cc,.int .i64 r,.slice Ag G.length cg]] w (OptB M w);have B0:=qrv w 79 #[.slice Ac L.length cc,.int .i64 r,.slice Ag G.length cg];have b0:New w (w.alloc (.cells #[.slice Ac L.length cc,.int .i64 r,.slice Ag G.length cg] 79)):=(qq8 _ _).alloc (ql6 _) _;obtain⟨x0,x1,x2⟩:=zar B0;by_cases hok:zb0 (zb5 L r G)
 ·rw[if_pos hok] at hM
  rw[zmr hok] at RT;have RT:Hid (∀W,New w W->Calls Tryz.prog 87 #[.agg #[.slice Ac L.length cc,.int .i64 r,.slice Ag G.length cg]] W (zak (.bool true) W)):=RT;have hok2:=hok;obtain⟨hcok,hgok,hsum,hr,-⟩:=hok;unfold zb5 at hok2 hgok hsum hM;dsimp only[zb5] at hcok hr;dsimp only at hgok hsum;have hr0:=zno hgok;rw[hsum] at hr0;obtain⟨rN,rfl⟩:=qn1 hr0;unfold ze8 at hM;dsimp only at hM;rw[qmt,qos] at hM;have hcl:=qdv hcok;have SPt:=qrf (fun(W:World) (hW:New w W)=>qdm (A:=none) (n:=0) (c:=0) (b:=[]) (c2:=cc) qrs (by omega) (qsg HL.out hW) hfine hcap hfew);have HMap:=qrf (fun(k:Nat) (hk:k<G.length)=>zbw grP G (k:=k) grZ zaq hk);have HLen:=qrf (show(G.map grP).length=G.length from qos ..);have HOK:=qrf hok2;have HL64:L.length<=64:=hcok.1;have hGl:G.length<=65536:=by have:=(zob hgok).1;rw[qos,hsum] at this;omega
  have HM:=qrf hM;clear hM hgok hsum hr0 hok2 hcok hfine;generalize G.map grP=GP at*;generalize putC [] L=PC at*;go_enter Tryz.func52,Tryz.ntmps52
  go_wp2_with fail
  refine(RT.out _ b0).mono ?_;rintro e w1 ⟨rfl,b1⟩;have B1:=B0.below b1 B0.lt;have b01:=qr0 b0 b1;clear B0 b0 b1 x0 x1 x2 RT;obtain⟨x0,x1,x2⟩:=zar B1;go_wp2_with fail
  refine(SPt.out _ b01).mono ?_;rintro e w2 ⟨A2,n2,c2,rfl,o2,b2⟩;have hq2:n2<=8000:=by have:=o2.len;rw[zaa] at this;omega
  have hbase:w.heap.size<=w1.heap.size:=b01.size;have B2:=B1.below b2 B1.lt;have hB1:w.heap.size<w1.heap.size:=B1.lt;have hz2:=b2.size;have N1:=qrf (zee (N:=rN) o2 hz2 (by omega) (by omega));have VR:=zas (n:=rN) (by omega);have VG:=zas (n:=G.length) (by omega);clear SPt B1 x0 x1 x2;obtain⟨x0,x1,x2⟩:=zar B2;go_wp2_with fail
  refine N1.out.mono ?_;rintro e w3 ⟨A3,n3,c3,rfl,o3,g3⟩;have hq3:n3<=8010:=by have h1:=o3.len;have h2:=o2.len;rw[zaa,qmv] at h1;rw[zaa] at h2;omega
  have bb3:=g3.below o2 b2 (ql6 _) hz2;have hz3:=g3.size;have N2:=qrf (zee (N:=G.length) o3 (by omega) (by omega) (by omega));have B3:=g3.blk o2 B2 (by decide);clear N1 o2 g3 B2 x0 x1 x2 b2;obtain⟨x0,x1,x2⟩:=zar B3;go_wp2_with fail
  refine N2.out.mono ?_;rintro e w4 ⟨A4,n4,c4,rfl,o4,g4⟩;have hq4:n4<=8020:=by have h1:=o4.len;have h2:=o3.len;rw[zaa,qmv] at h1;rw[zaa] at h2;omega
  have bb4:=g4.below o3 bb3 (ql6 _) (by omega);have hz4:=g4.size;have B4:=g4.blk o3 B3 (by decide);have hz14:w1.heap.size<=w4.heap.size:=by omega
  clear N2 o3 g4 B3 x0 x1 x2 bb3;obtain⟨x0,x1,x2⟩:=zar B4;go_wp2_with fail
  clear x0 x1 x2;go_loopw [4,27] (fun v i wr=>∃(k:Nat) (B:Option Addr) (m d R:Nat),k<=G.length/\i= .int .i64 (k:Int)/\v= .slice B m d/\Go.Hm.Own wr w1.heap.size 5 (.slice B m d) (zah .u8 (PC++vp rN++vp G.length++(GP.take k).flatMap (zde L)))
   /\(R:Int)=((GP.take k).map (·.1)).sum/\m<=9000+700*k+8961280*R/\Blk wr w.heap.size 79 #[.slice Ac L.length cc,.int .i64 (rN:Int),.slice Ag G.length cg]/\Below w1.heap.size w1 wr/\w1.heap.size<=wr.heap.size) (fun _ i _=>G.length-(intOf i).toNat)
  case atStart=>exact⟨0,A4,n4,c4,0,ql7 _,rfl,rfl,by simpa using o4,by simp,by omega,B4,bb4,hz14⟩
  case round=>
   obtain⟨k,Bv,m,d,R,hk,rfl,rfl,o,hR,hml,B,bb,hzw⟩:=hrel;clear o4 B4 bb4 hq4;have bw:New w wr:=qr0 b01 bb;by_cases hlt:k<G.length
   ·obtain⟨ad,rfl,hb,d0,d1⟩:=(qsg HG.out bw).gr2 hlt
    have hgm:=zax grZ hlt;have hch:=HCH.out _ hgm;have hpg:=HPG.out _ hgm;have hpp:=HP.out _ hgm;have hmap:=HMap.out k hlt;have hltP:k<GP.length:=by rw[HLen.out];exact hlt
    have hgok:=HOK.out.2.1 (GP.getD k zaq) (zax zaq hltP);have hrows:=zv3 HOK.out hltP;have hts:=zca (fun g:za9=>g.1) GP k zaq hltP;have hfm:(GP.take (k+1)).flatMap (zde L)=(GP.take k).flatMap (zde L)++zde L (GP.getD k zaq):=by rw[zae GP k zaq hltP,qpl];simp
    dsimp only at hgok hrows hts;rw[hmap] at hgok hrows hts hfm;generalize G.getD k grZ=g at*;obtain⟨gI,Ach,cch,D⟩:=g;unfold grP at hgok hrows hts hfm;dsimp only at d0 d1 hch hpg hpp hgok hrows hts hfm;obtain⟨hg1,hg2,hg3⟩:=hgok;dsimp only at hg1 hg2 hg3;obtain⟨gr,rfl⟩:=qn1 (show 0<=gI by omega);rw[qos] at hg2;rw[show zde L ((gr:Int),D.map fun x:ChD=>x.2.2)=vp gr++zcl L (D.map fun x:ChD=>x.2.2) from rfl] at hfm;have hgr:gr+R<=65536:=by omega
    have hRR:((R+gr:Nat):Int)=((GP.take (k+1)).map (·.1)).sum:=by rw[hts,<-hR];simp
    have HRR:=qrf hRR;have HFM:=qrf hfm;have HG3:=qrf hg3;have HCHk:=qrf hch.1;have HPGk:=qrf hpg;have HPPk:=qrf hpp;have hDL:D.length<=L.length:=by omega
    have HG2:=qrf hg2;clear hmap hltP hgm hb hch hpg hpp hts hrows hR hRR hfm hg3 hg2;have ha:New wr (wr.alloc (.cells #[.int .i64 (gr:Int),.slice Ach D.length cch] 114)):=(qq8 _ _).alloc (ql6 _) _;have BG:=qrv wr 114 #[.int .i64 (gr:Int),.slice Ach D.length cch];have B5:=B.below ha B.lt;have o5:=o.later ha;have bb5:Below w1.heap.size w1 (wr.alloc (.cells #[.int .i64 (gr:Int),.slice Ach D.length cch] 114)):=bb.trans (qri ha hzw);obtain⟨z0,z1⟩:=zb6 BG;have N1:=qrf (zee (N:=gr) o5 (by simp;omega) (by omega) (by omega));have VGr:=zas (n:=gr) (by omega);have HML:=qrf hml;have hmq:m<=700000000000:=by omega
    clear B o bb ha;go_wp2_with fail
    refine N1.out.mono ?_;rintro e w6 ⟨A6,n6,c6,rfl,o6,g6⟩;have hq6:n6<=m+10:=by have h1:=o6.len;have h2:=o5.len;rw[zaa,qmv] at h1;rw[zaa] at h2;omega
    have bb6:=g6.below o5 bb5 (ql6 _) (by simp;omega);have hz6:=g6.size;simp only[qrq] at hz6;have B6:=g6.blk o5 B5 (by decide);have BG6:=g6.blk o5 BG (by decide);have hz16:w1.heap.size<=w6.heap.size:=by omega
    clear N1 o5 g6 B5 BG z0 z1 bb5;obtain⟨z0,z1⟩:=zb6 BG6;have hY:∃Y,Y=10+gr*140020:=⟨_,rfl⟩;obtain⟨Y,hY⟩:=hY;have HYY:=qrf hY;clear d0 d1 hY;go_wp2_with fail
    clear z0 z1 BG6;go_loopw [4,38] (fun v i wr=>∃(c:Nat) (Bq:Option Addr) (m2 d2:Nat),c<=D.length/\i= .int .i64 (c:Int)/\v= .slice Bq m2 d2
     /\Go.Hm.Own wr w1.heap.size 5 (.slice Bq m2 d2) (zah .u8 (PC++vp rN++vp G.length++(GP.take k).flatMap (zde L)++vp gr++zcl (L.take c) ((D.map (fun x:ChD=>x.2.2)).take c)))
     /\m2<=m+10+c*Y/\Blk wr w.heap.size 79 #[.slice Ac L.length cc,.int .i64 (rN:Int),.slice (some ad) G.length cg]/\Below w1.heap.size w1 wr/\w1.heap.size<=wr.heap.size) (fun _ i _=>D.length-(intOf i).toNat)
    case atStart=>exact⟨0,A6,n6,c6,ql7 _,rfl,rfl,by simpa[zcl] using o6,by omega,B6,bb6,hz16⟩
    case round=>
     obtain⟨c,Bq,m2,d2,hc,rfl,rfl,oq,hmc,Bx,bbq,hzq⟩:=hrel;clear o6 hq6 B6 bb6 hz16 hz6;have bq:New w wr:=qr0 b01 bbq;have hcY:c*Y<=64*Y:=ql4 _ (by omega);have hYv:=HYY.out;have hm2q:m2<=90000000000000:=by omega
     by_cases hlc:c<D.length
     ·have hcL:c<L.length:=by omega
      obtain⟨ac,rfl,hbc,e0⟩:=(qsg HCHk.out bq).ch1 hlc;obtain⟨al,rfl,hbl,f0,f1,f2⟩:=(qsg HL.out bq).colT hcL;have hxm:=zax chZ hlc;have hpx:=HPGk.out _ hxm;have hsx:=HPPk.out _ hxm;have hco:=HG3.out c hcL;have hsn:=znn c L (D.map fun x:ChD=>x.2.2) hcL (by rw[qos];exact hlc);rw[zbw (fun x:ChD=>x.2.2) D chZ [] hlc] at hco hsn;generalize D.getD c chZ=x at*;obtain⟨Ax,cx,pl⟩:=x;dsimp only at e0 hpx hsx hco hsn;have hpn:∀p∈pl,zy2 p:=fun p hpm=>(hsx p hpm).num (hco.1 p hpm)
      have hpl:=zfv hco.1;have hcr:=hco.2;have hnp:pl.length<=gr:=by omega
      have rP:Reads wr w1.heap.size 14 Ax pl.length (recs zhn pl):=(hpx.1.below bq).more hbase;generalize L.getD c zf5=col at*;obtain⟨nm,t,nu⟩:=col;dsimp only at f0 f1 f2 hsn;have hnp2:pl.length<=65536:=by omega
      have hnn:m2+10+pl.length*140020<=100000000000000:=by clear hcY hmc;omega
      have PPG:=qrf (zwp (t:=t) (cp:=cx) oq hzq rP hpn hnn);have hlch:(zgz t pl).length<=10+pl.length*140020:=by
       have h1:=zmx (t:=t) pl (fun p hpm=>by have:=hpn p hpm;have h1:=this.1;have h2:=this.2.1;omega)
       have h2:=zas (n:=pl.length) (by omega);unfold zgz;rw[qmv];omega
      have hchY:(zgz t pl).length<=Y:=by omega
      have HSN:=qrf hsn;obtain⟨x0,x1,x2⟩:=zar Bx;clear hsn hco hcr hpl hpn hpx hsx hxm hbc hbl rP hlch hYv;go_wp2_with fail
      refine PPG.out.mono ?_;rintro e w7 ⟨A7,n7,c7,rfl,o7,g7⟩;have hq7:n7<=m2+Y:=by have h1:=o7.len;have h2:=oq.len;rw[zaa,qmv] at h1;rw[zaa] at h2;omega
      have bb7:=g7.below oq bbq (ql6 _) hzq;have hz7:=g7.size;have B7:=g7.blk oq Bx (by decide);have hsm:(c+1)*Y=c*Y+Y:=qn2 c Y;have o7:Go.Hm.Own w7 w1.heap.size 5 (.slice A7 n7 c7) (zah .u8 (PC++vp rN++vp G.length++(GP.take k).flatMap (zde L)++vp gr++zcl (L.take (c+1)) ((D.map (fun x:ChD=>x.2.2)).take (c+1)))):=by rw[HSN.out];simpa using o7
      have hq8:n7<=m+10+(c+1)*Y:=by omega
      have hz8:w1.heap.size<=w7.heap.size:=by omega
      clear PPG oq g7 Bx x0 x1 x2 hsm hq7 hmc;go_wp2_with fail
      go_roundw
      case rel=>exact⟨c+1,A7,n7,c7,by omega,by go_num,rfl,o7,hq8,B7,bb7,hz8⟩
      case measure=>simp[intOf];omega
     ·obtain rfl:c=D.length:=by omega
      have hfin:PC++vp rN++vp G.length++(GP.take k).flatMap (zde L)++vp gr++zcl (L.take D.length) ((D.map (fun x:ChD=>x.2.2)).take D.length)=PC++vp rN++vp G.length++(GP.take (k+1)).flatMap (zde L):=by rw[HFM.out,HG2.out,qp1,show(D.map fun x:ChD=>x.2.2).take L.length=D.map fun x:ChD=>x.2.2 from qm0 (by rw[qos,HG2.out];exact ql6 _)];simp
      rw[hfin] at oq;have hml2:m2<=9000+700*(k+1)+8961280*(R+gr):=by have:=HML.out;omega
      clear hfin hmc;go_wp2_with fail
      go_roundw
      case rel=>exact⟨k+1,Bq,m2,d2,R+gr,by omega,by go_num,rfl,oq,HRR.out,hml2,Bx,bbq,hzq⟩
      case measure=>simp[intOf];omega
   ·obtain rfl:k=G.length:=by omega
    have HO2:=qrf o;clear o hR;go_wp2_with fail
    go_ret2
    rw[HM.out];have:=HO2.out;rw[<-HLen.out,qp1,HLen.out] at this;exact⟨_,_,_,rfl,this.base_le hbase,bw⟩
 ·rw[if_neg hok] at hM
  rw[zpw hok] at RT;have RT:Hid (∀W,New w W->Calls Tryz.prog 87 #[.agg #[.slice Ac L.length cc,.int .i64 r,.slice Ag G.length cg]] W (zak (.bool false) W)):=RT;have HM:=qrf hM;clear hM hok;go_enter Tryz.func52,Tryz.ntmps52
  go_wp2_with fail
  refine(RT.out _ b0).mono ?_;rintro e w1 ⟨rfl,b1⟩;go_wp2_with fail
  go_ret2
  rw[HM.out];exact⟨rfl,qr0 b0 b1⟩
end Go.Proofs.Y
namespace Go.Hm
open Go Go.RowKit
theorem zqa{P:Program}{ops:Array Oper}{rest:List Oper}{op:Oper}{a:Act}{w:World}{Q:Exit->Act->World->Prop}(hgd:op.guard=none)(ty:TypeId)(x y:Operand)(ho:op.op= .store ty x y)
 (g o:Nat){v0 v1 v2 v3 v4 v5 v6 v7 v8 v9 v10 v11:Value}(hx:a.eval x= .pointer (some ⟨g,o,none⟩))(hy:a.eval y= .agg #[v0,v1,v2,v3,v4,v5,v6,v7,v8,v9,v10,v11]){t:TypeId}{cs:Array Value}(hB:Blk w g t cs)(hsz:o+12<=cs.size)
 (hi:(P.info? ty).map (·.size)=some 12)(h1:(#[v0,v1,v2,v3,v4,v5,v6,v7,v8,v9,v10,v11]:Array Value).all (·.oneCell')=true)
 (h:∀W,Blk W g t ((((((((((((cs.setIfInBounds (o) v0).setIfInBounds (o+1) v1).setIfInBounds (o+1+1) v2).setIfInBounds (o+1+1+1) v3).setIfInBounds (o+1+1+1+1) v4).setIfInBounds (o+1+1+1+1+1) v5).setIfInBounds (o+1+1+1+1+1+1) v6).setIfInBounds (o+1+1+1+1+1+1+1) v7).setIfInBounds (o+1+1+1+1+1+1+1+1) v8).setIfInBounds (o+1+1+1+1+1+1+1+1+1) v9).setIfInBounds (o+1+1+1+1+1+1+1+1+1+1) v10).setIfInBounds (o+1+1+1+1+1+1+1+1+1+1+1) v11)->w.grownBy W (some g)->wpList P ops Q rest (a.put op.dst undef) W):wpList P ops Q (op::rest) a w:=by
 have ht:w.there g o (#[v0,v1,v2,v3,v4,v5,v6,v7,v8,v9,v10,v11]:Array Value).size:=by intro j hj;have hj:j<12:=hj;refine⟨?_,hB.frozen _⟩;rw[hB.cell,qpu (by omega)];rfl
 refine wpList_store_mid hgd ty x y ho g o #[v0,v1,v2,v3,v4,v5,v6,v7,v8,v9,v10,v11] hx hy ht hi h1 ?_;exact h _ ((((((((((((hB.set_ (o) v0).set_ (o+1) v1).set_ (o+1+1) v2).set_ (o+1+1+1) v3).set_ (o+1+1+1+1) v4).set_ (o+1+1+1+1+1) v5).set_ (o+1+1+1+1+1+1) v6).set_ (o+1+1+1+1+1+1+1) v7).set_ (o+1+1+1+1+1+1+1+1) v8).set_ (o+1+1+1+1+1+1+1+1+1) v9).set_ (o+1+1+1+1+1+1+1+1+1+1) v10).set_ (o+1+1+1+1+1+1+1+1+1+1+1) v11) ((((((((((((za1 (w:=w) (g:=g) (i:=o) (x:=v0)).trans za1).trans za1).trans za1).trans za1).trans za1).trans za1).trans za1).trans za1).trans za1).trans za1).trans za1)
end Go.Hm
namespace Go.Proofs.Y
open Go.RowKit Go.Hm
theorem z1e{t:Int}{S:St}(hS:S.ok):((getA t S).2.getD []).length<=(S.getD []).length:=by
 cases h:(getA t S).2 with
 |none=>simp
 |some r=>
  have:=(zpx hS (show getA t S=((getA t S).1,some r) by rw[<-h])).1;rw[this];simp
def z9d(l:List zbc)(g:Nat)(S:St)(w:World)(e:Ending)(w':World):Prop:=∃A n c,e= .returned (.slice A n c)/\w'.ownsRow w.heap.size 135 14 (.slice A n c) n (recs zhn l)/\CurS w' g S/\w.grownBy w' (some g)
theorem qlc:ElT Tryz.prog 136 135 (.agg #[.int .i64 0,.int .i64 0,.int .i64 0,.bool false,.bool false,.int .i64 0,.string ⟨#[]⟩,.int .i64 0,.int .i64 0,.bool false,.int .i64 0,.string ⟨#[]⟩,.int .i64 0,.int .i64 0]) 14 128:=⟨by kernel_rfl,by kernel_rfl,rfl,by omega⟩
theorem zy4{t m:Int}{j:Nat}{b:List Nat}:zc0 t m (j+1) (some b)=((zg6 t m (some b)).1::(zc0 t m j (zg6 t m (some b)).2).1,(zc0 t m j (zg6 t m (some b)).2).2):=rfl
theorem zwq{w:World}{g:Nat}{S:St}{t m:Int}(h:CurS w g S)(hl:(S.getD []).length<=140737488351232)(hm:0<=m/\m<=65536):
 Calls Tryz.prog 118 #[.pointer (some ⟨g,0,none⟩),.int .i64 t,.int .i64 m] w (z9d (zdi t m S).1 g (zdi t m S).2 w):=by
 obtain⟨X,hX⟩:∃X,X=zdi t m S:=⟨_,rfl⟩;rw[<-hX];unfold zdi at hX;have hle:=zds (m:=m) S hm.1 h.ok;have hok:=zb9 (m:=m) h.ok;have hsub:=ze7 (m:=m) h.ok;have hgw:=h.lt;have L1:=qrf (zeb (m:=m) h (by omega) (by omega));generalize lenS m S=H at*;obtain⟨N,S1⟩:=H;dsimp only at*;have HX:=qrf (show X=([]++(zc0 t m N S1).1,(zc0 t m N S1).2) from hX);clear hX h;go_enter Tryz.func118,Tryz.ntmps118
 go_wp2_with fail
 refine L1.out.mono ?_;rintro e w1 ⟨rfl,s1,g1⟩;clear L1;go_wp2_with fail
 go_loopw [7,8] (fun v i wr=>∃(j q c:Nat) (A:Option Addr) (pre:List zbc) (Sj:St),i= .int .i64 (j:Int)/\v= .slice A q c/\wr.ownsRow w.heap.size 135 14 (.slice A q c) q (recs zhn pre)/\q+j=N/\CurS wr g Sj/\(Sj.getD []).length<=140737488351232
  /\w.grownBy wr (some g)/\Hid (X=(pre++(zc0 t m j Sj).1,(zc0 t m j Sj).2))) (fun _ i _=>(intOf i).toNat)
 case atStart=>exact⟨N,0,0,none,[],S1,rfl,rfl,zdx,by omega,s1,by omega,g1,HX⟩
 case round=>
  obtain⟨j,q,c,A,pre,Sj,rfl,rfl,o,hqj,s,hsl,G,HXj⟩:=hrel;clear HX s1 g1 hok hsub;have BD:=qrf (qe6 s);have hgr:=G.size;by_cases hj:0<j
  ·cases Sj with
   |none=>
    simp only[Option.isNone_none] at BD;have hX:=HXj.out;rw[zyu,qmg] at hX;have HX:=qrf hX;clear hX HXj;go_wp2_with fail
    refine BD.out.mono ?_;rintro e w2 ⟨rfl,rfl⟩;go_wp2_with fail
    go_ret
    rw[HX.out];exact⟨_,_,_,rfl,o,s,G⟩
   |some b=>
    simp only[qqd] at BD;obtain⟨j,rfl⟩:∃k,j=k+1:=⟨j-1,by omega⟩;have hX:=HXj.out;rw[zy4] at hX;have hokb:=s.ok;have hokp:=zoa (t:=t) (m:=m) hokb;unfold zg6 at hX hokp;have b1:=ze7 (m:=268435456) hokb;have b2:=zb9 (m:=268435456) hokb;have b3:=zds (m:=268435456) (some b) (by omega) hokb;have hap:=fun b e=>(qln o b e).2
    have ha:New wr (wr.alloc (.cells #[.int .i64 0,.int .i64 0,.int .i64 0,.bool false,.bool false,.int .i64 0,.string ⟨#[]⟩,.int .i64 0,.int .i64 0,.bool false,.int .i64 0,.string ⟨#[]⟩,.int .i64 0,.int .i64 0] 135)):=(qq8 _ _).alloc (ql6 _) _;have BP:=qrv wr 135 #[.int .i64 0,.int .i64 0,.int .i64 0,.bool false,.bool false,.int .i64 0,.string ⟨#[]⟩,.int .i64 0,.int .i64 0,.bool false,.int .i64 0,.string ⟨#[]⟩,.int .i64 0,.int .i64 0];have s2:=s.below ha;have o2:=za8 o ha;have G2:=zgh G (zdm (row:=none) ha) (by simp);have hgl:=s.lt;have L2:=qrf (zeb (m:=268435456) s2 (by omega) (by omega));generalize lenS 268435456 (some b)=H2 at*;obtain⟨sz,S2⟩:=H2;dsimp only at hX hokp b1 b2 b3 L2;have b4:=ze7 (m:=m) b2;have b5:=zb9 (m:=m) b2;have b6:=zds (m:=m) S2 hm.1 b2;clear HXj o G s;go_wp2_with fail
    refine BD.out.mono ?_;rintro e w2 ⟨rfl,rfl⟩;go_wp2_with fail
    refine L2.out.mono ?_;rintro e w3 ⟨rfl,s3,g3⟩;have hz3:=g3.size;simp only[qrq] at hz3;have BP3:=BP.grown g3 (by intro e;injection e with e;omega);have o3:=o2.kept g3 (.inr (fun e=>by have:=(qln o2 _ e).1;omega));have G3:=G2.trans g3;obtain⟨x0,x1,x2,x3,x4,x5,x6,x7,x8,x9,x10,x11,x12,x13⟩:=zd6 BP3;have f0:=BP3.frozen 0;have gS:w3.grownBy (w3.setCell ⟨wr.heap.size,0,none⟩ (.int .i64 (sz:Int))) (some wr.heap.size):=za1;have hzS:w3.heap.size<=(w3.setCell ⟨wr.heap.size,0,none⟩ (.int .i64 (sz:Int))).heap.size:=gS.size;have s4:=s3.keep gS BP3 (by omega) (by decide);have o4:=o3.kept gS (.inr (fun e=>by have:=hap _ e;omega));have BP4:=BP3.set_ 0 (.int .i64 (sz:Int));simp only[qoi,qn8] at BP4;have G4:=zbj G3 gS (by omega);have L4:=qrf (zeb (m:=m) s4 (by omega) (by omega));generalize lenS m S2=H4 at*;obtain⟨rw,S4⟩:=H4;dsimp only at hX hokp b4 b5 b6 L4;clear L2 o2 G2 g3 BP s2 s3 o3 G3 BP3 gS BD;go_wp2_with fail
    refine L4.out.mono ?_;rintro e w5 ⟨rfl,s5,g5⟩;have hz5:=g5.size;have BP5:=BP4.grown g5 (by intro e;injection e with e;omega);have o5:=o4.kept g5 (.inr (fun e=>by have:=(qln o4 _ e).1;omega));have G5:=G4.trans g5;clear x0 x1 x2 x3 x4 x5 x6 x7 x8 x9 x10 x11 x12 x13 f0 L4 o4 G4 g5 BP4 s4;obtain⟨x0,x1,x2,x3,x4,x5,x6,x7,x8,x9,x10,x11,x12,x13⟩:=zd6 BP5;have f1:=BP5.frozen 1;have gS:w5.grownBy (w5.setCell ⟨wr.heap.size,1,none⟩ (.int .i64 (rw:Int))) (some wr.heap.size):=za1;have hzS5:w5.heap.size<=(w5.setCell ⟨wr.heap.size,1,none⟩ (.int .i64 (rw:Int))).heap.size:=gS.size;have s6:=s5.keep gS BP5 (by omega) (by decide);have o6:=o5.kept gS (.inr (fun e=>by have:=hap _ e;omega));have BP6:=BP5.set_ 1 (.int .i64 (rw:Int));simp only[qoi,qn8,qoj] at BP6;have G6:=zbj G5 gS (by omega);have L6:=qrf (z8g (t:=t) s6 (by simp only[qnq] at hsl b1;omega));have hsA:=z1e (t:=t) b5;generalize getA t S4=H6 at*;obtain⟨⟨nn,bb,⟨p1,p2,p3,p4,p5⟩,⟨q1,q2,q3,q4,q5⟩⟩,S6⟩:=H6;dsimp only at hX hokp L6 hsA;have HX:=qrf hX;clear s5 o5 gS BP5 G5 hX;go_wp2_with fail
    refine L6.out.mono ?_;rintro e w7 ⟨rfl,s7,g7⟩;rw[show zcp (nn,bb,(p1,p2,p3,p4,p5),(q1,q2,q3,q4,q5))= .agg #[.int .i64 nn,.bool bb,.bool p1,.int .i64 p2,.string (zai p3),.int .i64 p4,.int .i64 p5,.bool q1,.int .i64 q2,.string (zai q3),.int .i64 q4,.int .i64 q5] from rfl];have hz7:=g7.size;have BP7:=BP6.grown g7 (by intro e;injection e with e;omega);have o7:=o6.kept g7 (.inr (fun e=>by have:=(qln o6 _ e).1;omega));have G7:=G6.trans g7;clear x0 x1 x2 x3 x4 x5 x6 x7 x8 x9 x10 x11 x12 x13 f1 L6 o6 G6 g7 BP6 s6;go_wp2_with (first
     |(refine zqa rfl 133 (.tmp 32) (.tmp 31) rfl wr.heap.size 2 rfl rfl BP7 (by simp) (by kernel_rfl) (by simp[Value.oneCell']) ?_
       intro w8 BP8 g8;simp only[qoi,qn8,qoj] at BP8;have s8:=s7.keep g8 BP7 (by omega) (by decide);have o8:=o7.kept g8 (.inr (fun e=>by have:=hap _ e;omega));have hz8:=g8.size;have G8:=zbj G7 g8 (by omega);obtain⟨x0,x1,x2,x3,x4,x5,x6,x7,x8,x9,x10,x11,x12,x13⟩:=zd6 BP8;clear BP7 s7 o7 G7 g8)
     |(refine zdy qlc rfl (.tmp 33) (.tmp 35) rfl (W:=w) (B:=0) (base:=w.heap.size) (n:=q) o8 rfl rfl (zrq G8) (ql7 _) (by omega) rfl (by simp[Value.oneCell']) (by omega) (by simp only[maxLen];omega) ?_
       intro A9 c9 w9 hc9 _ o9 g9 _ hz9 _;have s9:=s8.pushRow o8 g9 (by decide) (by decide);have G9:=zgh G8 g9 (fun b e=>(qln o8 b e).1);have o9:w9.ownsRow w.heap.size 135 14 (.slice A9 (q+1) c9) (q+1) (recs zhn (pre++[((sz:Int),(rw:Int),(nn,bb,(p1,p2,p3,p4,p5),(q1,q2,q3,q4,q5)))])):=by rw[za7];exact o9
       have HX2:Hid (X=((pre++[((sz:Int),(rw:Int),(nn,bb,(p1,p2,p3,p4,p5),(q1,q2,q3,q4,q5)))])++(zc0 t m j S6).1,(zc0 t m j S6).2)):=qrf (by rw[HX.out];simp);clear o8 s8 G8 g9 HX BP8))
    go_roundw
    case rel=>exact⟨j,q+1,c9,A9,_,S6,by go_num,rfl,o9,by omega,s9,by simp only[qnq] at hsl b1;omega,G9,HX2⟩
    case measure=>simp[intOf]
  ·obtain rfl:j=0:=by omega
   have hX:=HXj.out;have e0:zc0 t m 0 Sj=([],Sj):=rfl;rw[e0,qmg] at hX;have HX:=qrf hX;clear hX HXj e0;go_wp2_with fail
   go_ret
   rw[HX.out];exact⟨_,_,_,rfl,o,s,G⟩
end Go.Proofs.Y
namespace Go.Hm
open Go Go.RowKit
theorem zef{w:World}{base base2 sz sz2 n n2:Nat}{e e2:TypeId}{v v2:Value}{xs xs2:List Value}(h:w.ownsRow base e sz v n xs)(h2:w.ownsRow base2 e2 sz2 v2 n2 xs2)(hne:e≠e2):v.ownBlock=none\/v.ownBlock≠v2.ownBlock:=by
 rcases hu:v.ownBlock with _|k
 ·exact .inl rfl
 ·refine .inr fun he=>zh1 h h2 hne k ?_ hu
  unfold zbg;rw[<-he];simp
theorem zt6(D:List ChD)(x:ChD):recs chV (D++[x])=recs chV D++[.slice x.1 x.2.2.length x.2.1]:=by rw[za7];rfl
end Go.Hm
namespace Go.Proofs.Y
open Go.RowKit Go.Hm
theorem znp{m:Int}:∀(cs:List zbi) (c:zbi) (S:St),zbq m (cs++[c]) S=((zbq m cs S).1++[(zdi c.2.1 m (zbq m cs S).2).1],(zdi c.2.1 m (zbq m cs S).2).2)
 | [],_,_=>rfl
 |x::cs,c,S=>by
  have:=znp (m:=m) cs c (zdi x.2.1 m S).2;simp only[qm8,zbq,this]
theorem zsb{t m:Int}:∀(k:Nat) {S:St},S.ok->((zc0 t m k S).2.getD []).length<=(S.getD []).length
 |0,_,_=>ql6 _
 |_+1,none,_=>ql6 _
 |k+1,some b,h=>by
  have h1:=zsb (t:=t) (m:=m) k (zoa (t:=t) (m:=m) h);have h2:((zg6 t m (some b)).2.getD []).length<=((some b:St).getD []).length:=by unfold zg6;have a:=ze7 (m:=268435456) h;have b':=ze7 (m:=m) (zb9 (m:=268435456) h);have c:=z1e (t:=t) (zb9 (m:=m) (zb9 (m:=268435456) h));dsimp only;omega
  simp only[zc0];omega
theorem zsc{t m:Int}{S:St}(h:S.ok):((zdi t m S).2.getD []).length<=(S.getD []).length:=by have a:=ze7 (m:=m) h;have b:=zsb (t:=t) (m:=m) (lenS m S).1 (zb9 (m:=m) h);unfold zdi;omega
structure ChOwn(w:World)(B:Nat)(A:Option Addr)(d:Nat)(D:List ChD):Prop where
 row:w.ownsRow B 136 1 (.slice A D.length d) D.length (recs chV D)
 pages:∀x∈D,w.ownsRow B 135 14 (.slice x.1 x.2.2.length x.2.1) x.2.2.length (recs zhn x.2.2)
theorem ChOwn.later{w w':World}{B:Nat}{A:Option Addr}{d:Nat}{D:List ChD}(h:ChOwn w B A d D)(b:New w w'):ChOwn w' B A d D:=⟨za8 h.row b,fun x hx=>za8 (h.pages x hx) b⟩
theorem ChOwn.far{w w':World}{B g:Nat}{A:Option Addr}{d:Nat}{D:List ChD}(h:ChOwn w B A d D)(hg:w.grownBy w' (some g))(hne:g<B):ChOwn w' B A d D:=
 ⟨h.row.kept hg (.inr (fun e=>by have:=(qln h.row _ e).1;omega)),fun x hx=>(h.pages x hx).kept hg (.inr (fun e=>by have:=(qln (h.pages x hx) _ e).1;omega))⟩
theorem ChOwn.blk{w w':World}{B g:Nat}{A:Option Addr}{d:Nat}{D:List ChD}{t:TypeId}{cs:Array Value}(h:ChOwn w B A d D)(hB:Blk w g t cs)(hg:w.grownBy w' (some g))(h1:136≠t)(h2:135≠t):ChOwn w' B A d D:=
 ⟨h.row.kept hg (.inr (zav h.row hB h1)),fun x hx=>(h.pages x hx).kept hg (.inr (zav (h.pages x hx) hB h2))⟩
def z9e(G:za9)(g:Nat)(S:St)(w:World)(e:Ending)(w':World):Prop:=
 ∃A d D,e= .returned (.agg #[.int .i64 G.1,.slice A D.length d])/\D.map (·.2.2)=G.2/\ChOwn w' w.heap.size A d D/\CurS w' g S/\w.grownBy w' (some g)
theorem qld:ElT Tryz.prog 112 136 (.slice none 0 0) 1 24:=⟨by kernel_rfl,by kernel_rfl,rfl,by omega⟩
theorem zwr{w:World}{g base cc:Nat}{S:St}{m:Int}{Ac:Option Addr}{L:List zbi}(h:CurS w g S)(hl:(S.getD []).length<=140737488351232)(hm:0<=m/\m<=65536)
 (hL:w.ownsRow base 71 3 (.slice Ac L.length cc) L.length (recs zl3 L))(hlen:L.length<=100000):
 Calls Tryz.prog 99 #[.pointer (some ⟨g,0,none⟩),.slice Ac L.length cc,.int .i64 m] w (z9e (zdt (fun r=>r) L m S).1 g (zdt (fun r=>r) L m S).2 w):=by
 obtain⟨X,hX⟩:∃X,X=zdt (fun r=>r) L m S:=⟨_,rfl⟩;rw[<-hX];unfold zdt at hX;have hgw:=h.lt;have hle:=zds (m:=m) S hm.1 h.ok;have hok:=zb9 (m:=m) h.ok;have hsub:=ze7 (m:=m) h.ok;obtain⟨cb,hcb⟩:=h.blk;have hLne:=zav hL hcb (by decide);have HLK:=qrf (fun(W:World) (G:w.grownBy W (some g))=>hL.kept G (.inr hLne));have ha:New w (w.alloc (.cells #[.int .i64 0,.slice none 0 0] 114)):=(qq8 _ _).alloc (ql6 _) _;have BZ:=qrv w 114 #[.int .i64 0,.slice none 0 0];have s0:=h.below ha;have L1:=qrf (zeb (m:=m) s0 (by omega) (by omega));generalize lenS m S=H at*;obtain⟨N,S1⟩:=H;dsimp only at*;have HX:=qrf hX;clear hX h hL hcb hLne s0;go_enter Tryz.func99,Tryz.ntmps99
 go_wp2_with fail
 refine L1.out.mono ?_;rintro e w1 ⟨rfl,s1,g1⟩;have hz1:=g1.size;simp only[qrq] at hz1;have BZ1:=BZ.grown g1 (by intro e;injection e with e;omega);have ha2:New w1 (w1.alloc (.cells #[.int .i64 (N:Int),.slice none 0 0] 114)):=(qq8 _ _).alloc (ql6 _) _;have BQ:=qrv w1 114 #[.int .i64 (N:Int),.slice none 0 0];have BZ2:=BZ1.below ha2 BZ1.lt;have s2:=s1.below ha2;have G2:=zgh ((zdm (row:=some g) ha).trans g1) (zdm (row:=none) ha2) (by simp);have hgz:w.heap.size<w1.heap.size:=by omega
 clear L1 BZ BZ1 s1 g1 ha ha2;go_wp2_with fail
 generalize w1.heap.size=gq at*;go_loopw [16] (fun i wr=>∃(k d:Nat) (A:Option Addr) (D:List ChD),k<=L.length/\i= .int .i64 (k:Int)/\Blk wr gq 114 #[.int .i64 (N:Int),.slice A D.length d]/\Blk wr w.heap.size 114 #[.int .i64 0,.slice none 0 0]
  /\ChOwn wr w.heap.size A d D/\Hid (D.map (·.2.2)=(zbq (N:Int) (L.take k) S1).1)/\Hid (D.length=k)/\CurS wr g (zbq (N:Int) (L.take k) S1).2/\((zbq (N:Int) (L.take k) S1).2.getD []).length<=140737488351232/\w.grownBy wr (some g)) (fun i _=>L.length-(intOf i).toNat)
 case atStart=>exact⟨0,0,none,[],ql7 _,rfl,BQ,BZ2,⟨zdx,by simp⟩,qrf rfl,qrf rfl,s2,by simp only[qmw,zbq];omega,G2⟩
 case round=>
  obtain⟨k,d,A,D,hk,rfl,B,BZ,CO,HD,hDk,s,hsl,G⟩:=hrel;clear BQ BZ2 s2 G2 hok hsub;have hDl:D.length<=100000:=by have:=hDk.out;omega
  have hgr:=G.size;by_cases hlt:k<L.length
  ·have oL:=HLK.out wr G
   obtain⟨al,rfl,hbl,f0,f1,f2⟩:=(qrt oL).colT hlt;have htk:=zae L k zf5 hlt;have hsn:=znp (m:=(N:Int)) (L.take k) (L.getD k zf5) S1;rw[<-htk] at hsn;have hok:=s.ok;generalize(zbq (N:Int) (L.take k) S1).2=Sk at*;have hcs:=zsc (t:=(L.getD k zf5).2.1) (m:=(N:Int)) hok;have GPg:=fun(W:World) (hs:CurS W g Sk)=>zwq (t:=(L.getD k zf5).2.1) (m:=(N:Int)) hs hsl (by omega)
   rw[<-HD.out] at hsn;generalize L.getD k zf5=col at*;obtain⟨nm,t,nu⟩:=col;dsimp only at f0 f1 f2 hsn hcs GPg;generalize zdi t (N:Int) Sk=H at*;obtain⟨pl,S5⟩:=H;dsimp only at hsn hcs GPg;have ha:New wr (wr.alloc (.cells #[.string (zai nm),.int .i64 t,.bool nu] 71)):=(qq8 _ _).alloc (ql6 _) _;have BC:=qrv wr 71 #[.string (zai nm),.int .i64 t,.bool nu];have B1:=B.below ha B.lt;have BZ1:=BZ.below ha BZ.lt;have CO1:=CO.later ha;have s1:=s.below ha;have G1:=zgh G (zdm (row:=none) ha) (by simp);have HSN:=qrf hsn;have hgl:=s.lt;have hap:=fun b e=>(qln CO.row b e).2
   clear B BZ CO s G hbl htk hsn HD oL hok ha;have hza:wr.heap.size<(wr.alloc (.cells #[.string (zai nm),.int .i64 t,.bool nu] 71)).heap.size:=by simp
   obtain⟨y0,y1,y2⟩:=zar BC;obtain⟨z0,z1⟩:=zb6 B1;have hne1:gq∉(g::zbg (.slice A D.length d)):=by
    intro hm;rcases qnu.1 hm with e|e
    ·omega
    ·exact zer CO1.row B1 (by decide) e
   have hne2:wr.heap.size∉(g::zbg (.slice A D.length d)):=by
    intro hm;rcases qnu.1 hm with e|e
    ·omega
    ·exact zer CO1.row BC (by decide) e
   go_wp2_with fail
   refine zcf (Turns (g::zbg (.slice A D.length d))) 11 [(1,0),(0,1),(1,2),(1,3),(0,4),(1,5),(0,6),(2,7),(2,8),(2,9),(1,10),(2,11)]
    (qr7 _) qr8 (by kernel_rfl) (by kernel_rfl) (by kernel_rfl) (by kernel_rfl) ?_
   have F:=qrf (fun(W:World) (hW:Turns (g::zbg (.slice A D.length d)) (wr.alloc (.cells #[.string (zai nm),.int .i64 t,.bool nu] 71)).drew W)=>qok (B1.drew.touch hW hne1) (BC.drew.touch hW hne2));have s2:=s1.below (qr1 _);have CO2:=CO1.later (qr1 _);have B2:=B1.drew;have BZ2:=BZ1.drew;have G2:=zgh G1 (zdm (row:=none) (qr1 _)) (by simp);have GP2:=qrf (GPg _ s2);clear y0 y1 y2 z0 z1 B1 BZ1 CO1 s1 G1 GPg;obtain⟨wa,hwa⟩:∃wa,wa=(wr.alloc (.cells #[.string (zai nm),.int .i64 t,.bool nu] 71)).drew:=⟨_,rfl⟩;have hza2:wr.heap.size<wa.heap.size:=by rw[hwa];exact hza
   rw[<-hwa] at F s2 CO2 B2 BZ2 G2 GP2⊢;clear hwa BC hza;repeat(first
    |(refine zco rfl rfl (v:=?_) (fun W hW=>?_) ?_;rotate_left;(obtain⟨F1,F2⟩:=F.out W hW;obtain⟨y0,y1,y2⟩:=zar F2;obtain⟨z0,z1⟩:=zb6 F1;clear F1 F2;go_simp<;> with_reducible rfl);simp only[Act.put,qoi,qn8,qoj])
    |(refine zb2 rfl rfl (v:=?_) (fun W=>?_) ?_;rotate_left;(go_simp<;> with_reducible rfl);simp only[Act.put,qoi,qn8,qoj]))
   refine zbl rfl rfl (fun K hK=>?_);go_simp
   (with_reducible refine GP2.out.mono ?_)
   rintro e w8 ⟨A8,n8,c8,rfl,o8,s8,g8⟩;refine hK _ _ (.inr (.inr (qsa g8 (by simp)))) ?_;clear hK;obtain rfl:n8=pl.length:=(qrt o8).lenPage;have hz8:=g8.size;have CO8:=CO2.far g8 hgw;have B8:=B2.grown g8 (by intro e;injection e with e;omega);have BZ8:=BZ2.grown g8 (by intro e;injection e with e;omega);have G8:=G2.trans g8;have o8:=ze4 o8 (show w.heap.size<=wa.heap.size by omega);clear F GP2 CO2 B2 BZ2 G2 s2 g8;refine zbl rfl rfl (fun K hK=>?_);go_simp
   refine hK _ _ (.inr (.inr (qr9 ((qq8 _ _).alloc (ql6 _) _)))) ?_;clear hK;have RL:=qsh w8 136 #[.slice A8 pl.length c8] 1 1 [.slice A8 pl.length c8] rfl rfl;have hb8:New w8 (w8.alloc (.cells #[.slice A8 pl.length c8] 136)):=(qq8 _ _).alloc (ql6 _) _;have CO9:=CO8.later hb8;have o9:=za8 o8 hb8;have s9:=s8.below hb8;have B9:=B8.below hb8 B8.lt;have BZ9:=BZ8.below hb8 BZ8.lt;have G9:=zgh G8 (zdm (row:=none) hb8) (by simp);have hz9:=hb8.size;clear CO8 o8 s8 B8 BZ8 G8 hb8;obtain⟨wb,hwb⟩:∃wb,wb=w8.alloc (.cells #[.slice A8 pl.length c8] 136):=⟨_,rfl⟩;rw[<-hwb] at RL CO9 o9 s9 B9 BZ9 G9 hz9⊢;have hbk:(Value.ownBlock (.slice (some ⟨w8.heap.size,0,none⟩) 1 1))=some w8.heap.size:=rfl;clear hwb hbk;refine zbl rfl rfl (fun K hK=>?_);refine zxm qld (.tmp 21) (.tmp 28) rfl (W:=w) (B:=0) (base:=w.heap.size) CO9.row RL rfl rfl (zrq G9) (ql7 _) (by omega) (by simp[Value.oneCell']) (by omega) (by simp only[maxLen];omega) ?_;intro A10 c10 w10 _ _ o10 g10 _;refine hK _ _ (.inr (.inr ((qsi g10).more (fun x hx=>qps _ hx)))) ?_;clear hK;have B10:=B9.touch (qsi g10) (zer CO9.row B9 (by decide));have BZ10:=BZ9.touch (qsi g10) (zer CO9.row BZ9 (by decide));have s10:=s9.pushRow CO9.row g10 (by decide) (by decide);have G10:=zgh G9 g10 (fun b e=>(qln CO9.row b e).1);have P10:∀x∈D,w10.ownsRow w.heap.size 135 14 (.slice x.1 x.2.2.length x.2.1) x.2.2.length (recs zhn x.2.2):=fun x hx=>(CO9.pages x hx).kept g10 (zef (CO9.pages x hx) CO9.row (by decide))
   have o11:=o9.kept g10 (zef o9 CO9.row (by decide));have x0:=B10.cell 1;have y0:=B10.frozen 1;simp at x0;have gS:w10.grownBy (w10.setCell ⟨gq,1,none⟩ (.slice A10 (D.length+1) c10)) (some gq):=za1;clear CO9 o9 s9 B9 BZ9 G9 g10 RL;refine zb2 rfl rfl (v:=?_) (fun W=>?_) ?_;rotate_left
   ·go_simp<;> with_reducible rfl
   simp only[Act.put,qoi,qn8,qoj];refine zbl rfl rfl (fun K hK=>?_);go_simp
   refine hK _ _ (.inr (.inl rfl)) ?_;clear hK x0 y0;refine zfd ?_;have CO12:ChOwn (w10.setCell ⟨gq,1,none⟩ (.slice A10 (D.length+1) c10)) w.heap.size A10 c10 (D++[(A8,c8,pl)]):=by
    constructor
    ·rw[zt6,qmv]
     exact o10.kept gS (.inr (zav o10 B10 (by decide)))
    ·intro x hx
     rcases qnd.1 hx with hx|hx
     ·exact(P10 x hx).kept gS (.inr (zav (P10 x hx) B10 (by decide)))
     ·rw[qne.1 hx]
      exact o11.kept gS (.inr (zav o11 B10 (by decide)))
   have B12:=B10.set_ 1 (.slice A10 (D.length+1) c10);simp only[qoi,qn8,qoj] at B12;have BZ12:=BZ10.grown gS (by intro e;injection e with e;omega);have s12:=s10.keep gS B10 (by omega) (by decide);have G12:=zbj G10 gS (by omega);have HD12:Hid ((D++[(A8,c8,pl)]).map (fun x:ChD=>x.2.2)=(zbq (N:Int) (L.take (k+1)) S1).1):=qrf (by rw[HSN.out,qpj];rfl);have hs12:(zbq (N:Int) (L.take (k+1)) S1).2=S5:=by rw[HSN.out]
   have HS12:=qrf hs12;clear gS P10 o10 o11 s10 G10 BZ10 B10 HSN hs12;go_wp2_with fail
   go_roundw
   case rel=>exact⟨k+1,c10,A10,D++[(A8,c8,pl)],by omega,by go_num,by rw[qmv];exact B12,BZ12,CO12,HD12,qrf (by rw[qmv,hDk.out];rfl),by rw[HS12.out];exact s12,by rw[HS12.out];omega,G12⟩
   case measure=>simp[intOf];omega
  ·obtain rfl:k=L.length:=by omega
   obtain⟨z0,z1⟩:=zb6 B;have hX:=HX.out;rw[qp1] at s;have HD2:=HD.out;rw[qp1] at HD2;have HXX:=qrf hX;have HS:=qrf s;have HDD:=qrf HD2;have HG:=qrf G;have HCO:=qrf CO;clear hX s HD HD2 G CO
   go_wp2_with (refine zan rfl 114 (.tmp 6) (.tmp 32) rfl w.heap.size _ rfl rfl BZ (by kernel_rfl) rfl (by simp[Value.oneCell']) ?_
                intro W9 BR G9;obtain⟨s0,s1⟩:=zb6 BR)
   have hX:=HXX.out;subst hX;exact bodyPost_ret (v:= .agg #[.int .i64 (N:Int),.slice A D.length d]) (by simp[results,Tryz.results99,go_sem,s0,s1]) rfl ⟨A,d,D,rfl,HDD.out,HCO.out.blk BZ G9 (by decide) (by decide),HS.out.keep G9 BZ (by omega) (by decide),zbj HG.out G9 (ql6 _)⟩
end Go.Proofs.Y
