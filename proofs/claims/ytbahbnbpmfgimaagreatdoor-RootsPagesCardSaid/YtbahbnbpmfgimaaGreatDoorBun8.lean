/- Merged. -/
import Derived.Test.YtbahbnbpmfgimaaGreatDoorBun7
set_option maxHeartbeats 2000000
namespace Go.Hm
open Go Go.RowKit
def zat:List Int:=List.replicate 32 0
theorem z57{P:Program}{t:TypeId}(ht:P.underlying t=some (.slice (P.elem t)))(hs:∀w,(sizeOf (P.elem t)).run P w= .ok 1 w)(A:Option Addr)(n c k:Nat)(hk:k<=n)(w:World):
 (Instr.sliceAt t (.slice A n c) (some (.int .i64 (k:Int))) none none).run P w= .ok (.slice (if c=k then A else A.map (·.add k)) (n-k) (c-k)) w:=by
 rw[run_sliceAt_slice w t _ _ _ _ ht,run_slice_l w t A n c ht .i64 (k:Int) (by omega) (by omega),hs];simp[Result.andThen,sliced]
theorem qbv{P:Program}{t:TypeId}(ht:P.underlying t=some (.slice (P.elem t)))(hs:∀w,(sizeOf (P.elem t)).run P w= .ok 1 w)(A:Option Addr)(n c k m:Nat)(hk:k<=m)(hc:m<=c)(w:World):
 (Instr.sliceAt t (.slice A n c) (some (.int .i64 (k:Int))) (some (.int .i64 (m:Int))) none).run P w= .ok (.slice (if c=k then A else A.map (·.add k)) (m-k) (c-k)) w:=by
 rw[run_sliceAt_slice w t _ _ _ _ ht,run_slice_lh w t A n c ht .i64 .i64 (k:Int) (m:Int) (by omega) (by omega) (by omega),hs];simp[Result.andThen,sliced]
theorem qgt{P:Program}{t:TypeId}(ht:P.underlying t=some (.slice (P.elem t)))(hs:∀w,(sizeOf (P.elem t)).run P w= .ok 1 w)(A:Option Addr)(n c m:Nat)(hc:m<=c)(w:World):
 (Instr.sliceAt t (.slice A n c) none (some (.int .i64 (m:Int))) none).run P w= .ok (.slice A m c) w:=by
 rw[run_sliceAt_slice w t _ _ _ _ ht,run_slice_h w t A n c ht .i64 (m:Int) (by omega) (by omega),hs];have e:∀a:Addr,a.add 0=a:=zel;cases A<;> simp[Result.andThen,sliced,e]
end Go.Hm
namespace Go.Proofs.Y
open Go.RowKit Go.Hm
theorem sB:Tryz.prog.underlying 24=some (.slice (Tryz.prog.elem 24)):=by kernel_rfl
theorem zB:∀w,(sizeOf (Tryz.prog.elem 24)).run Tryz.prog w= .ok 1 w:=fun w=>by
 have h:(Tryz.prog.info? (Tryz.prog.elem 24)).map (·.size)=some 1:=by kernel_rfl
 cases hq:Tryz.prog.info? (Tryz.prog.elem 24) with
 |none=>rw[hq] at h;cases h
 |some i=>
  rw[hq] at h;have:i.size=1:=by simpa using h
  simp[sizeOf,typeInfo,hq,this]
theorem qbw:Tryz.prog.underlying 101=some (.array 64 5):=by kernel_rfl
theorem qfl:Tryz.prog.underlying 98=some (.array 8 97):=by kernel_rfl
theorem zcn:Tryz.prog.underlying 35=some (.array 32 5):=by kernel_rfl
theorem qls{l:List Nat}(h:l.length=64):(Tryz.prog.info? 101).map (·.size)=some (zan .u8 l).length:=by
 rw[zaa,h]
 kernel_rfl
theorem i8w(s:S8):(Tryz.prog.info? 98).map (·.size)=some (zby s).size:=by
 rw[show(zby s).size=8 from rfl]
 kernel_rfl
theorem qbx{l:List Int}(h:l.length=32):(Tryz.prog.info? 35).map (·.size)=some (za7 .u8 l).toArray.size:=by
 rw[show(za7 .u8 l).toArray.size=32 by simp[za7,h]]
 kernel_rfl
set_option maxRecDepth 100000 in
theorem z58{w:World}{A:Option Addr}{n c:Nat}{l:List Nat}(h:Reads w w.heap.size 1 A n (zan .u8 l))(h8:∀x∈l,x<256)(hc:n<=c)(hn:n<=10000000)(hC:ConstIn w):
 Calls Tryz.prog 25 #[.slice A n c] w (zal (.agg (za7 .u8 (znk l)).toArray) w):=by
 obtain rfl:=h.len;obtain⟨r,hr⟩:∃r,r=l.length%64:=⟨_,rfl⟩;obtain⟨wh,hwh⟩:∃r,r=l.length-l.length%64:=⟨_,rfl⟩;have e1:(l.length:Int)%64=(r:Int):=by omega
 have e2:(l.length:Int).tmod 64=(r:Int):=by rw[qn3 (by omega)];omega
 have e3:(l.length:Int)-(r:Int)=(wh:Int):=by omega
 have hw64:wh%64=0:=by omega
 have hwl:wh<=l.length:=by omega
 have HR:=Hz h;have HC:=Hz hC;have HH:=Hz h8;have HW64:=Hz hw64;have HM8:=Hz (qgs h8);have HML:=Hz (zz6 l);have HMM:=Hz (qbu l);have HPL:=Hz (znj l.length);clear h hC h8 hr hwh hw64;go_enter Tryz.func25,Tryz.ntmps25
 go_wp2_with fail
 obtain⟨W0,hW0⟩:∃W,W=w.alloc (.cells (za7 .u8 zat).toArray 35):=⟨_,rfl⟩;have b0:New w W0:=by rw[hW0];exact(Below.refl _ _).alloc (qmt _) _
 have D0:Blk W0 w.heap.size 35 (za7 .u8 zat).toArray:=by rw[hW0];exact Blk.new _ _ _
 refine(z50).mono ?_;rintro e w1 ⟨rfl,b1⟩;have b1:New W0 w1:=by rw[hW0];exact b1
 have D1:=D0.below b1 D0.lt;have b01:=New.trans b0 b1;have HB1:=Hz b01;have HD1:=Hz D1;clear hW0 b0 D0 b1 D1 b01;go_wp2_with (first|(refine wpList_store_row rfl 98 (.tmp 3) (.tmp 9) rfl w1.heap.size (zby zju) rfl rfl _ _ (heap_alloc_new _ _) (i8w _) rfl (zi3 _) ?_;rw[zck])|fail)
 obtain⟨W2,hW2⟩:∃W,W=w1.alloc (.cells (zby zju) 98):=⟨_,rfl⟩;have c2:New w1 W2:=by rw[hW2];exact(Below.refl _ _).alloc (qmt _) _
 have G2:Blk W2 w1.heap.size 98 (zby (zgx (zfo l) 0)):=by rw[hW2];exact Blk.new _ _ _
 have D2:=Hz (HD1.out.below c2 HD1.out.lt);have B2:=Hz (New.trans HB1.out c2);have hG:w.heap.size<w1.heap.size:=HD1.out.lt;have HG2:=Hz G2;rw[<-hW2];generalize w1.heap.size=G at*;clear hW2 c2 G2 HB1 HD1 e1 e2 e3;go_loopw [5] (fun i wr=>∃k a:Nat,Hid (a=64*k)/\a<=wh/\i= .int .i64 (a:Int)/\Hid (Blk wr G 98 (zby (zgx (zfo l) k)))/\Hid (Blk wr w.heap.size 35 (za7 .u8 zat).toArray)/\Hid (New w wr)) (fun i _=>wh-(intOf i).toNat)
 case atStart=>exact⟨0,0,Hz rfl,by omega,rfl,HG2,D2,B2⟩
 case round=>
  clear HG2 D2 B2;obtain⟨k,a,HA,ha,rfl,S,D,b⟩:=hrel;by_cases hlt:a<wh
  ·obtain⟨a2,ha2⟩:∃x,x=a+64:=⟨_,rfl⟩
   have hle:a2<=wh:=by have:=HA.out;have:=HW64.out;omega
   have i2:IntKind.i64.wrap ((a:Int)+64)=(a2:Int):=by rw[IntKind.wrap_i64];omega
   have SL:=Hz (fun W:World=>qbv sB zB A l.length c a a2 (by omega) (by omega) W);have hb:=z52 (l:=l) (k:=k) (by rw[<-HA.out];omega);have hb64:(zup (zfo l) k).length=64:=zz5 (by rw[<-HA.out,HML.out];omega);have hb8:=z51 (k:=k) HM8.out;rw[<-HA.out] at hb;have hcut:=fun(W:World) (hW:New w W)=>((Reads.later HR.out hW).cut (k:=a) (cap:=c) (by omega) hc).take (k:=64) (by omega)
   have CELL:=Hz (fun(W:World) (hW:New w W)=>show∃ad,(if c=a then A else A.map (·.add a))=some ad/\ ∀j v,(zan .u8 (zup (zfo l) k))[j]? =some v->W.cell? (ad.add j)=some v by obtain⟨ad,h1,_,h3⟩:=(hcut W hW).2 (by omega);rw[qm0,qm0] at*;rw[zd4,zem,<-hb] at h3;exact⟨ad,h1,h3⟩)
   have HZ:=Hz (show a2-a=64 by omega);generalize(if c=a then A else A.map (·.add a))=AA at*;have SL2:=Hz (fun W:World=>(show(Instr.sliceAt 24 (.slice A l.length c) (some (.int .i64 (a:Int))) (some (.int .i64 (a2:Int))) none).run Tryz.prog W= .ok (.slice AA 64 (c-a)) W by have:=SL.out W;rwa[HZ.out] at this));have HB64:=Hz hb64;have HB8:=Hz hb8;have CP:=Hz (fun(W:World) (hW:New w W)=>zmt (w:=W) (zgx (zfo l) k) (zz4 _ _) (zup (zfo l) k) hb64 hb8 (HC.out.new hW));have hst:z2j (zgx (zfo l) k) (zup (zfo l) k)=zgx (zfo l) (k+1):=rfl;rw[hst] at CP;clear hb hb64 hb8 hcut hst SL;obtain⟨ad,rfl,_⟩:=CELL.out wr b.out;have CL:=Hz (fun(W:World) (hW:New w W)=>show∀j v,(zan .u8 (zup (zfo l) k))[j]? =some v->W.cell? (ad.add j)=some v by obtain⟨ad2,h1,h2⟩:=CELL.out W hW;obtain rfl:=qmh h1;exact h2)
   have HA2:=Hz ha2;clear CELL ha2;go_wp2
   refine zb2 New 9 [(0,0),(1,1),(1,2),(1,3),(1,4),(1,5),(1,6),(0,7),(2,8),(2,9)]
    New.refl New.trans (by kernel_rfl) (by kernel_rfl) (by kernel_rfl) (by kernel_rfl) ?_
   have hU:=New.trans b.out (New.drew wr);refine zbm rfl rfl (v:= .agg (zby (zgx (zfo l) k))) (fun W hW=>zc9 rfl (S.out.below (New.trans (New.drew wr) hW) S.out.lt) qfl rfl (i8w _)) ?_;simp only[Act.put,qo6,qou,qo7];iterate 4 (
    refine zbh rfl rfl (v:=?_) (fun W=>?_) ?_;rotate_left
    ·go_simp<;> with_reducible rfl
    simp only[Act.put,qo6,qou,qo7])
   refine zbh rfl rfl (v:= .slice (some ad) 64 (c-a)) (fun W=>zg3 (SL2.out W)) ?_;simp only[Act.put,qo6,qou,qo7];refine zbh rfl rfl (v:= .pointer (some ad)) (fun W=>zmu rfl qbw (qmt _)) ?_;simp only[Act.put,qo6,qou,qo7];refine zbm rfl rfl (v:= .agg (zan .u8 (zup (zfo l) k)).toArray) (fun W hW=>zfd rfl (CL.out W (New.trans hU hW)) qbw rfl (qls HB64.out)) ?_;simp only[Act.put,qo6,qou,qo7];refine zav rfl rfl (fun K hK=>?_);go_simp
   (with_reducible refine(CP.out _ hU).mono ?_)
   rintro e9 w9 ⟨rfl,c9⟩;refine hK _ _ (.inr (.inr c9)) ?_;clear hK;have hN:=New.trans (New.drew wr) c9;have S9:=S.out.below hN S.out.lt;have D9:=D.out.below hN D.out.lt;have b9:=New.trans hU c9;refine zav rfl rfl (fun K hK=>?_);refine wp_store_row 98 (.tmp 3) (.tmp 29) rfl G (zby (zgx (zfo l) (k+1))) rfl rfl _ _ (zay S9) (i8w _) rfl (zi3 _) ?_;refine hK _ _ (.inr (.inl rfl)) ?_;clear hK;refine zed ?_;have hF:=zbl (g:=G) w9 (zby (zgx (zfo l) (k+1)));have S10:=Hz (za5 S9 (zby (zgx (zfo l) (k+1))));have D10:=Hz (D9.grown hF (by simp;omega));have B10:=Hz (New.far b9 hF (by omega));have HA3:=Hz (show a2=64*(k+1) by rw[HA2.out,HA.out];omega);have e4:(a:Int)+64=(a2:Int):=by have:=HA2.out;omega
   clear S9 D9 b9 hN hU hF i2 CP CL SL2 c9;go_wp2
   go_roundw
   case rel=>exact⟨k+1,a2,HA3,hle,rfl,S10,D10,B10⟩
   case measure=>simp[intOf];omega
  ·have haw:a=wh:=by omega
   have HK:=Hz (show wh=64*k by rw[<-haw];exact HA.out);subst haw;have SL:=Hz (fun W:World=>z57 sB zB A l.length c a hwl W);have hcut:=(Reads.later HR.out b.out).cut (k:=a) (cap:=c) hwl hc;rw[qm0,zd4] at hcut;generalize(if c=a then A else A.map (·.add a))=A3 at*;have hPO:qgq (l.length:Int)=zun l.length:=by unfold qgq;rw[if_pos (by omega),qng]
   have hpl:(zun l.length).length<=72:=by rw[znj];unfold zf4;omega
   have PD:=Hz (fun W:World=>qgr (w:=W) (l.length:Int));rw[hPO] at PD;have hdl:(l.drop a).length=l.length-a:=qmp;have hnl:(zfo l).drop a=l.drop a++zun l.length:=by unfold zfo;rw[qpb hwl]
   have HNL:=Hz hnl;have HCUT:=Hz hcut;have z0:=b.out.size;have HPL2:=Hz hpl;have HDL:=Hz hdl;clear hcut hPO hnl hpl hdl HPL;go_wp2_with (first
    |(refine zmv rfl 24 (.tmp 30) (some (.tmp 31)) none none rfl (SL.out wr) ?_)
    |(refine zam elB rfl (.const (.slice none 0 0)) (.tmp 32) rfl (W:=w) (B:=w.heap.size) (base:=w.heap.size) (l:=[]) Own.nil_ HCUT.out rfl rfl b.out (qmt _) z0 (by omega) (by simp only[maxLen];omega) ?_
      intro A8 c8 w8 _ _ o8 g8 b8 _))
   have S8:=Hz (S.out.grown g8 (by simp[Value.ownBlock]));have D8:=Hz (D.out.grown g8 (by simp[Value.ownBlock]));rw[qnk,qnl] at o8;have O8:=Hz o8;have B8:=Hz b8;clear g8 o8 b8 z0 S D;refine(PD.out _).mono ?_;rintro e w9 ⟨A9,n9,c9,rfl,o9,b9⟩;have r9:=o9.reads;obtain rfl:=r9.len;have o89:=O8.out.later b9;have S9:=Hz (S8.out.below b9 S8.out.lt);have D9:=Hz (D8.out.below b9 D8.out.lt);have b09:=New.trans B8.out b9;have z9:=b09.size;have hsum:l.length-a+(zun l.length).length<=10000100:=by have:=HPL2.out;omega
   clear o9 PD SL HCUT O8 B8 S8 D8 b9
   go_wp2_with (refine zam elB rfl (.tmp 33) (.tmp 36) rfl (W:=w) (B:=w.heap.size) (base:=w.heap.size) o89 r9 rfl rfl b09 (qmt _) z9 (by omega) (by simp only[maxLen];omega) ?_
                intro A10 c10 w10 hc10 _ o10 g10 b10 _)
   have S10:=Hz (S9.out.push o89 g10 (by decide));have D10:=Hz (D9.out.push o89 g10 (by decide));rw[<-HNL.out,show(zfo l).drop a=(zfo l).drop (64*k) by rw[HK.out]] at o10;have T10:=Hz (TR.of_own o10);have B10:=Hz b10;have HM:=Hz (show l.length-a+(zun l.length).length=(zfo l).length-64*k by rw[HML.out,<-HK.out];omega);have HKL:=Hz (show 64*k<=(zfo l).length by rw[HML.out,<-HK.out];omega);have hs2:l.length-a+(zun l.length).length<=c10:=by omega
   have hcm:c10<=maxLen:=by assumption
   generalize l.length-a+(zun l.length).length=m10 at*;clear o89 r9 g10 b09 b10 z9 o10 S9 D9 HNL hsum hwl HPL2 HDL;have HM2:=Hz (show m10=(zfo l).length-64*k from HM.out);clear HM HA HK;go_loopw [6] (fun v wr=>∃(k m c:Nat) (A:Option Addr),Hid (m=(zfo l).length-64*k)/\Hid (64*k<=(zfo l).length)/\v= .slice A m c/\m<=c/\Hid (TR wr 5 A m (zan .u8 ((zfo l).drop (64*k))))/\Hid (Blk wr G 98 (zby (zgx (zfo l) k)))/\Hid (Blk wr w.heap.size 35 (za7 .u8 zat).toArray)/\Hid (New w wr)) (fun v _=>lenOf v)
   case atStart=>exact⟨k,m10,c10,A10,HM2,HKL,rfl,hs2,T10,S10,D10,B10⟩
   case round=>
    clear HM2 HKL T10 S10 D10 B10;obtain⟨k,m,c,A,HM,HKL,rfl,hmc,T,S,D,b⟩:=hrel;by_cases hlt:64<=m
    ·have hm2:64*k+64<=(zfo l).length:=by have:=HM.out;have:=HKL.out;omega
     have hb64:(zup (zfo l) k).length=64:=zz5 hm2;have hb8:=z51 (k:=k) HM8.out;have SLH:=Hz (fun W:World=>show(Instr.sliceAt 24 (.slice A m c) none (some (.int .i64 64)) none).run Tryz.prog W= .ok (.slice A 64 c) W from qgt sB zB A m c 64 (by omega) W);have SLL:=Hz (fun W:World=>show(Instr.sliceAt 24 (.slice A m c) (some (.int .i64 64)) none none).run Tryz.prog W= .ok (.slice (if c=64 then A else A.map (·.add 64)) (m-64) (c-64)) W from z57 sB zB A m c 64 hlt W);have hcut:=T.out.cut (k:=64) (cap:=c) hlt hmc;rw[zd4,qpc,show 64*k+64=64*(k+1) by omega] at hcut;generalize(if c=64 then A else A.map (·.add 64))=A' at*;have HCUT:=Hz hcut;obtain⟨ad,rfl,_⟩:=T.out.1.2 (by omega);have CL:=Hz (fun(W:World) (hW:New wr W)=>show∀j v,(zan .u8 (zup (zfo l) k))[j]? =some v->W.cell? (ad.add j)=some v by have h2:=((T.out.below hW).1.take (k:=64) hlt);rw[qm0,zem] at h2;obtain⟨ad2,e2,_,h3⟩:=h2.2 (by omega);obtain rfl:=qmh e2;exact h3)
     have HB64:=Hz hb64;have CP:=Hz (fun(W:World) (hW:New w W)=>zmt (w:=W) (zgx (zfo l) k) (zz4 _ _) (zup (zfo l) k) hb64 hb8 (HC.out.new hW));have hst:z2j (zgx (zfo l) k) (zup (zfo l) k)=zgx (zfo l) (k+1):=rfl;rw[hst] at CP;have HM3:=Hz (show m-64=(zfo l).length-64*(k+1) by have:=HM.out;omega);have HKL3:=Hz (show 64*(k+1)<=(zfo l).length by omega);clear hb64 hb8 hcut hst hm2 HM HKL;go_wp2
     refine zb2 New 6 [(0,0),(1,1),(1,2),(1,3),(0,4),(2,5),(2,6)]
      New.refl New.trans (by kernel_rfl) (by kernel_rfl) (by kernel_rfl) (by kernel_rfl) ?_
     have hU:=New.trans b.out (New.drew wr);refine zbm rfl rfl (v:= .agg (zby (zgx (zfo l) k))) (fun W hW=>zc9 rfl (S.out.below (New.trans (New.drew wr) hW) S.out.lt) qfl rfl (i8w _)) ?_;simp only[Act.put,qo6,qou,qo7];refine zbh rfl rfl (v:=?_) (fun W=>?_) ?_;rotate_left
     ·go_simp<;> with_reducible rfl
     simp only[Act.put,qo6,qou,qo7];refine zbh rfl rfl (v:= .slice (some ad) 64 c) (fun W=>zg3 (SLH.out W)) ?_;simp only[Act.put,qo6,qou,qo7];refine zbh rfl rfl (v:= .pointer (some ad)) (fun W=>zmu rfl qbw (qmt _)) ?_;simp only[Act.put,qo6,qou,qo7];refine zbm rfl rfl (v:= .agg (zan .u8 (zup (zfo l) k)).toArray) (fun W hW=>zfd rfl (CL.out W (New.trans (New.drew wr) hW)) qbw rfl (qls HB64.out)) ?_;simp only[Act.put,qo6,qou,qo7];refine zav rfl rfl (fun K hK=>?_);go_simp
     (with_reducible refine(CP.out _ hU).mono ?_)
     rintro e9 w9 ⟨rfl,c9⟩;refine hK _ _ (.inr (.inr c9)) ?_;clear hK;have hN:=New.trans (New.drew wr) c9;have S9:=S.out.below hN S.out.lt;have D9:=D.out.below hN D.out.lt;have T9:=HCUT.out.below hN;have b9:=New.trans hU c9;refine zav rfl rfl (fun K hK=>?_);refine wp_store_row 98 (.tmp 3) (.tmp 46) rfl G (zby (zgx (zfo l) (k+1))) rfl rfl _ _ (zay S9) (i8w _) rfl (zi3 _) ?_;refine hK _ _ (.inr (.inl rfl)) ?_;clear hK;refine zed ?_;have hF:=zbl (g:=G) w9 (zby (zgx (zfo l) (k+1)));have S10:=Hz (za5 S9 (zby (zgx (zfo l) (k+1))));have D10:=Hz (D9.grown hF (by simp;omega));have T10:=Hz (T9.keep hF S9 (by decide));have B10:=Hz (New.far b9 hF (by omega));clear S9 D9 T9 b9 hN hU hF CP CL SLH c9 HCUT;go_wp2_with (refine zmv rfl 24 (.tmp 47) (some (.const (.int .i64 64))) none none rfl (SLL.out _) ?_)
     go_roundw
     case rel=>exact⟨k+1,m-64,c-64,A',HM3,HKL3,rfl,by omega,T10,S10,D10,B10⟩
     case measure=>simp[lenOf];omega
    ·have hk:zgx (zfo l) k=zuq l:=by
      unfold zuq;congr 1
      have:=HM.out;have:=HKL.out;have:=HMM.out;omega
     rw[hk] at S;clear hk T HM HKL;obtain⟨W5,hW5⟩:∃W,W=wr.alloc (.cells (za7 .u8 zat).toArray 35):=⟨_,rfl⟩;have c5:New wr W5:=by rw[hW5];exact(Below.refl _ _).alloc (qmt _) _
     have E5:Blk W5 wr.heap.size 35 (za7 .u8 (zsl ((zxn (zuq l)).take 0))).toArray:=by rw[hW5];exact Blk.new _ _ _
     have S5:=Hz (S.out.below c5 S.out.lt);have D5:=Hz (D.out.below c5 D.out.lt);have B5:=Hz (New.trans b.out c5);have HE5:=Hz E5;have hGE:G<wr.heap.size:=S.out.lt;have HW5:=Hz (show wr.alloc (.cells (za7 .u8 zat).toArray 35)=W5 from hW5.symm);clear c5 E5 S D b hW5;go_wp2
     have hW:=HW5.out;rw[show(za7 .u8 zat).toArray= #[.int .u8 0,.int .u8 0,.int .u8 0,.int .u8 0,.int .u8 0,.int .u8 0,.int .u8 0,.int .u8 0,.int .u8 0,.int .u8 0,.int .u8 0,.int .u8 0,.int .u8 0,.int .u8 0,.int .u8 0,.int .u8 0,.int .u8 0,.int .u8 0,.int .u8 0,.int .u8 0,.int .u8 0,.int .u8 0,.int .u8 0,.int .u8 0,.int .u8 0,.int .u8 0,.int .u8 0,.int .u8 0,.int .u8 0,.int .u8 0,.int .u8 0,.int .u8 0] from rfl] at hW;rw[hW];clear hW HW5;have hE0:w.heap.size<wr.heap.size:=by have:=HE5.out.lt;omega
     generalize wr.heap.size=E at*;go_loopw [49] (fun i wr=>∃k:Nat,k<=32/\i= .int .i64 (k:Int)/\Hid (Blk wr E 35 (za7 .u8 (zsl ((zxn (zuq l)).take k))).toArray)/\Hid (Blk wr G 98 (zby (zuq l)))/\Hid (Blk wr w.heap.size 35 (za7 .u8 zat).toArray)/\Hid (New w wr)) (fun i _=>32-(intOf i).toNat)
     case atStart=>exact⟨0,by omega,rfl,HE5,S5,D5,B5⟩
     case round=>
      clear HE5 S5 D5 B5;obtain⟨k,hk,rfl,T,S,D,b⟩:=hrel;by_cases hlk:k<32
      ·obtain⟨q,hq⟩:∃x,x=k/4:=⟨_,rfl⟩
       obtain⟨r4,hr4⟩:∃x,x=k%4:=⟨_,rfl⟩;obtain⟨sh,hsh⟩:∃x,x=24-r4*8:=⟨_,rfl⟩;have i1:(k:Int)/4=(q:Int):=by omega
       have i2:(k:Int).tdiv 4=(q:Int):=by rw[qpd (by omega)];omega
       have i3:(k:Int)%4=(r4:Int):=by omega
       have i4:(k:Int).tmod 4=(r4:Int):=by rw[qn3 (by omega)];omega
       have i5:(24:Int)-(r4:Int)*8=(sh:Int):=by omega
       have j1:(q:Int)<8:=by omega
       have j2:(k:Int)<32:=by omega
       have s1:=S.out;rw[zus] at s1;have c1:=zfs (i:=q) s1 (by simp[zur];omega);obtain⟨y,hy⟩:∃y,y=qk2 (zuq l) k:=⟨_,rfl⟩;have v1:(zur (zuq l)).getD q 0/2^sh%256=y:=by rw[hy,hsh,hr4,hq];rfl
       have htk:((zxn (zuq l)).take k).length=k:=by rw[qmq,zgn];omega
       have c2:=zfs (i:=k) T.out (by rw[z55 (by rw[htk];omega)];exact hlk);have f2:=T.out.frozen k;have t3:=zsk T.out (i:=k) y;have hset:=z56 (l:=(zxn (zuq l)).take k) (by rw[htk];exact hlk) y;rw[htk,hy,<-z54 hlk,<-hy] at hset;rw[hset] at t3;have hF:Far E wr (wr.setCell ⟨E,k,none⟩ (.int .u8 y)):=zxw _ _;have T3:=Hz t3;have S3:=Hz (S.out.grown hF (by simp;omega));have D3:=Hz (D.out.grown hF (by simp;omega));have B3:=Hz (New.far b.out hF (by omega));generalize(zur (zuq l)).getD q 0=x at*;have hs24:sh<=24:=by omega
       clear hq hr4 hsh s1 hy htk t3 hset hF T S D b;go_wp2
       go_roundw
       case rel=>exact⟨k+1,by omega,by go_num,T3,S3,D3,B3⟩
       case measure=>simp[intOf];omega
      ·obtain rfl:k=32:=by omega
       have t3:=T.out;rw[qnn (by rw[zgn];omega),z2l (zgn _)] at t3;have hz:(za7 .u8 zat).toArray.size=(za7 .u8 (zxn (zuq l))).toArray.size:=by simp[za7,zat,zgn]
       have H:=Hz (qo8 (zay t3) (qo8 (zay D.out) (qo8 (qbx (zgn (zuq l))) (qo8 hz (qo8 (ze8 .u8 (zxn (zuq l))) (za5 D.out (za7 .u8 (zxn (zuq l))).toArray))))));have bE:=New.far b.out (zbl (g:=w.heap.size) wr (za7 .u8 (zxn (zuq l))).toArray) (qmt _);have BE:=Hz bE;have hS:zxn (zuq l)=znk l:=rfl;rw[hS] at H BE;generalize(za7 .u8 (znk l)).toArray=cs at*;clear t3 hz bE hS T S D b;go_wp2_with (first
        |(refine wpList_load_row rfl 35 (.tmp 7) rfl E rfl _ cs _ _ H.out.1 zcn rfl H.out.2.2.1 ?_)
        |(refine wpList_store_row rfl 35 (.tmp 2) (.tmp 65) rfl w.heap.size cs rfl rfl _ _ H.out.2.1 H.out.2.2.1 H.out.2.2.2.1 H.out.2.2.2.2.1 ?_))
       exact bodyPost_ret (results_cell_row rfl _ _ w.heap.size _ cs (0,0) _ rfl H.out.2.2.2.2.2 zcn rfl H.out.2.2.1) rfl ⟨rfl,BE.out⟩
end Go.Proofs.Y
namespace Go.Hm
open Go Go.RowKit
def zsn(p:List Nat):List Nat:=low p.length 8++p
def zcu(s:List Nat)(L:List (List Nat)):List Nat:=s.length::(s++L.length::L.flatMap zsn)
def zbe(s:List Nat)(L:List (List Nat)):Option (List Nat):=if 1<=s.length/\s.length<=255/\L.length<=255 then some (zcu s L) else none
theorem z6c(p:List Nat):(zsn p).length=8+p.length:=by simp[zsn,zbg]
theorem qb1{p:List Nat}(h:∀x∈p,x<256):∀x∈zsn p,x<256:=by
 intro x hx;rcases qny.1 hx with hx|hx
 ·exact zg1 _ _ x hx
 ·exact h x hx
theorem qb2{L:List (List Nat)}(h:∀p∈L,∀x∈p,x<256):∀x∈L.flatMap zsn,x<256:=by intro x hx;obtain⟨p,hp,hx⟩:=qpe.1 hx;exact qb1 (h p hp) x hx
theorem zf5{s:List Nat}{L:List (List Nat)}{f:List Nat}(hs:∀x∈s,x<256)(hL:∀p∈L,∀x∈p,x<256)(h:zbe s L=some f):∀x∈f,x<256:=by
 unfold zbe at h;split at h
 ·rename_i hc
  obtain rfl:=qmh h;intro x hx;simp only[zcu,qof,qny] at hx;rcases hx with rfl|hx|rfl|hx
  ·omega
  ·exact hs x hx
  ·omega
  ·exact qb2 hL x hx
 ·cases h
theorem z6d(L:List (List Nat)):(L.flatMap zsn).length=8*L.length+(L.map List.length).sum:=by
 induction L with
 |nil=>rfl
 |cons p L ih=>rw[qp1,qni,ih,z6c,qnu,qnc,qp2];omega
theorem z2m(s:List Nat)(L:List (List Nat)):(zcu s L).length=2+s.length+8*L.length+(L.map List.length).sum:=by simp only[zcu,qnu,qni,z6d];omega
def zfk(s:List Nat)(L:List (List Nat)):List Int:=((zbe s L).map znk).getD (List.replicate 32 0)
theorem zks(s:List Nat)(L:List (List Nat)):(zfk s L).length=32:=by
 unfold zfk;cases zbe s L with
 |none=>simp
 |some f=>exact zgn _
abbrev zcv:=Option Addr × Nat × List Nat
def ze1(d:zcv):List Value:=[.slice d.1 d.2.2.length d.2.1]
def PartsIn(w:World)(D:List zcv):Prop:=∀d∈D,Reads w w.heap.size 1 d.1 d.2.2.length (zan .u8 d.2.2)/\d.2.2.length<=d.2.1/\d.2.1<=9223372036854775807
theorem PartsIn.later{w w':World}{D:List zcv}(h:PartsIn w D)(hb:New w w'):PartsIn w' D:=fun d hd=>⟨Reads.later (h d hd).1 hb,(h d hd).2⟩
theorem PartsIn.at_{w:World}{D:List zcv}(h:PartsIn w D){k:Nat}(hk:k<D.length):Reads w w.heap.size 1 (D.getD k (none,0,[])).1 (D.getD k (none,0,[])).2.2.length (zan .u8 (D.getD k (none,0,[])).2.2)/\(D.getD k (none,0,[])).2.2.length<=(D.getD k (none,0,[])).2.1/\(D.getD k (none,0,[])).2.1<=9223372036854775807:=by refine h _ ?_;rw[qoa,qmm hk];exact qm8 hk
def bytesOf(D:List zcv):List (List Nat):=D.map fun d=>d.2.2
theorem zc0(D:List zcv):(bytesOf D).length=D.length:=by simp[bytesOf]
theorem zi4(D:List zcv)(k:Nat):(bytesOf D).getD k []=(D.getD k (none,0,[])).2.2:=by unfold bytesOf;rw[qoa,qpf,qoa];cases D[k]? <;> rfl
structure RowsAt(w:World)(A:Option Addr)(n c:Nat)(D:List zcv):Prop where
 row:Reads w w.heap.size 1 A n (recs ze1 D)
 parts:PartsIn w D
 cap:n<=c
theorem RowsAt.later{w w':World}{A:Option Addr}{n c:Nat}{D:List zcv}(h:RowsAt w A n c D)(hb:New w w'):RowsAt w' A n c D:=⟨Reads.later h.row hb,h.parts.later hb,h.cap⟩
theorem RowsAt.len{w:World}{A:Option Addr}{n c:Nat}{D:List zcv}(h:RowsAt w A n c D):n=D.length:=by have:=h.row.1;rw[zau (sz:=1) (fun _=>rfl)] at this;omega
open Go Go.RowKit
theorem RowsAt.at_{w:World}{A:Option Addr}{n c:Nat}{D:List zcv}(h:RowsAt w A n c D){k:Nat}(hk:k<D.length):
 ∃ad,A=some ad/\ad.block<w.heap.size/\w.cell? (ad.add k)=some (.slice (D.getD k (none,0,[])).1 (D.getD k (none,0,[])).2.2.length (D.getD k (none,0,[])).2.1):=by
 obtain⟨ad,u,e,hb,hu,hc⟩:=h.row.at_ (k:=k) (by rw[h.len];exact hk);have:=zog (f:=ze1) (sz:=1) (fun _=>rfl) D (none,0,[]) k 0 hk (by omega);rw[qm0,qp4] at this;rw[this] at hu;obtain rfl:=qmh hu;exact⟨ad,e,hb,hc⟩
def zfl(L:List (List Nat)):Nat:=(L.map List.length).sum
theorem z6f(L:List (List Nat))(p:List Nat):zfl (L++[p])=zfl L+p.length:=by simp[zfl]
theorem zij(L:List (List Nat))(k:Nat):zfl (L.take k)<=zfl L:=by
 have e:zfl L=zfl (L.take k)+zfl (L.drop k):=by unfold zfl;rw[<-qp5,<-qp6,qpl]
 omega
theorem zoi{L:List (List Nat)}{k:Nat}(hk:k<L.length):zfl (L.take (k+1))=zfl (L.take k)+(L.getD k []).length:=by rw[zad _ k [] hk,z6f]
theorem qg1{L:List (List Nat)}{M:Nat}(h:∀p∈L,p.length<=M):zfl L<=L.length*M:=by
 induction L with
 |nil=>simp[zfl]
 |cons p L ih=>
  have h1:=ih fun q hq=>h q (by simp[hq])
  have h2:=h p (by simp);simp only[zfl,qnc,qp2,qnu,qoo] at*;omega
def qk3(L:List (List Nat)):Bool:=decide (L.length<=260/\zfl L<=1500)
theorem zgo{L:List (List Nat)}{k:Nat}(hk:k<L.length):L.getD k []∈L:=by rw[qoa,qmm hk];exact qm8 hk
end Go.Hm
namespace Go.Proofs.Y
open Go.RowKit Go.Hm
set_option maxRecDepth 100000 in
theorem qb4{w:World}{A:Option Addr}{n c:Nat}{D:List zcv}(h:RowsAt w A n c D)(hn:n<=9223372036854775806)(hl:∀p∈bytesOf D,p.length<=140737488351232):
 Calls Tryz.prog 8 #[.slice A n c] w (zdm (.bool (qk3 (bytesOf D))) w):=by
 obtain rfl:=h.len;have HR:=Hz h;have HL:=Hz hl;have HB:=Hz (zc0 D);clear h hl;go_enter Tryz.func8,Tryz.ntmps8
 go_wp2
 go_loop [3,4] (fun s i=>∃(k:Nat) (m:Int),k<=D.length/\i= .int .i64 (k:Int)/\s= .int .i64 m/\Hid (D.length<=260->m=(zfl ((bytesOf D).take k):Nat))) (fun _ i=>D.length-(intOf i).toNat)
 case atStart=>exact⟨0,0,by omega,rfl,rfl,Hz fun _=>by simp[zfl]⟩
 case round=>
  obtain⟨k,m,hk,rfl,rfl,HM⟩:=hrel;by_cases hlt:k<D.length
  ·obtain⟨ad,rfl,hb,hc⟩:=HR.out.at_ hlt
   have e1:=zi4 D k;generalize D.getD k (none,0,[])=d at*;have HM2:Hid (D.length<=260->wrap64 (m+(d.2.2.length:Int))=(zfl ((bytesOf D).take (k+1)):Nat)):=Hz fun h2=>by have h3:=HM.out h2;have h4:=zoi (L:=bytesOf D) (k:=k) (by rw[HB.out];exact hlt);rw[e1] at h4;have h5:=qg1 HL.out;have h6:=zij (bytesOf D) (k+1);have h7:=qms 140737488351232 h2;rw[HB.out] at h5;rw[h4,h3];unfold wrap64;rw[h4] at h6;omega
   clear e1;go_wp2
   go_round
   case rel=>exact⟨k+1,_,by omega,by go_num,rfl,HM2⟩
   case measure=>simp[intOf];omega
  ·obtain rfl:k=D.length:=by omega
   have hm:=HM.out;rw[qnn (by rw[HB.out];omega)] at hm;have E:Hid (qk3 (bytesOf D)=(decide (D.length<=260)&&decide (m<=1500))):=Hz (by
    unfold qk3;rw[HB.out];by_cases h2:D.length<=260
    ·rw[hm h2]
     simp only[h2,true_and,decide_true,qp7];exact decide_eq_decide.2 (by omega)
    ·simp[h2])
   clear hm HM;by_cases h2:D.length<=260
   ·have d1:decide (D.length<=260)=true:=by simpa using h2
    have d2:decide ((D.length:Int)<=260)=true:=by simp;omega
    go_wp2
    go_ret
    exact⟨by rw[E.out,d1];simp,rfl⟩
   ·have d1:decide (D.length<=260)=false:=by simpa using h2
    have d2:decide ((D.length:Int)<=260)=false:=by simp;omega
    go_wp2
    go_ret
    exact⟨by rw[E.out,d1];simp,rfl⟩
end Go.Proofs.Y
namespace Go.Hm
open Go Go.RowKit Go.Maps
abbrev DW:=DataW Unit
def z6g(p:Int × Int):Value:= .agg #[.int .i64 p.1,.int .i64 p.2]
def zoj(p:Int × Int):DW:= .agg [.lit (.int .i64 p.1),.lit (.int .i64 p.2)]
def qb8:Value->Option (DW × List MemPlace)
 | .agg ⟨[.int .i64 a,.int .i64 b]⟩=>some (zoj (a,b),[])
 |_=>none
theorem qb9(p:Int × Int):qb8 (z6g p)=some (zoj p,[]):=rfl
theorem z6h{v:Value}{z:DW × List MemPlace}(h:qb8 v=some z):∃p,v=z6g p/\z=(zoj p,[]):=by
 unfold qb8 at h;split at h
 ·rename_i a b
  exact⟨(a,b),rfl,(qmh h).symm⟩
 ·cases h
theorem z6i{p q:Int × Int}(h:zoj p=zoj q):p=q:=by simp only[zoj,DataW.agg.injEq,qmg,DataW.lit.injEq,Lit.int.injEq,true_and,and_true] at h;exact Prod.ext h.1 h.2
def zue(l:List Int):Value:= .agg (za7 .u8 l).toArray
theorem qca{l m:List Int}(h:zue l=zue m):l=m:=by simp only[zue,Value.agg.injEq,Array.mk.injEq,za7] at h;exact(List.map_inj_right (f:=Value.int .u8) (by simp)).1 h
section
variable{P:Program}{k e u:TypeId}
def MapF(P:Program)(k:TypeId)(w:World)(b n:Nat)(f:List Int->Option (Int × Int)):Prop:=
 ∃D:DW,w.ownsMap P k qb8 b n D/\IsMap D/\ ∀l kl,keyOf P k (zue l)=some kl-> ∀zd,D.atKey kl zd=((f l).map zoj).getD zd
theorem MapF.made(w:World):MapF P k (w.alloc (.map #[] 0)) w.heap.size 0 fun _=>none:=
 ⟨.map [],World.ownsMap_made _ _ _ _,isMap_empty,fun _ _ _ _=>rfl⟩
variable{w:World}{b n:Nat}{f:List Int->Option (Int × Int)}
theorem MapF.kept{w':World}{row:Option Nat}(h:MapF P k w b n f)(hg:w.grownBy w' row)(hne:some b≠row):MapF P k w' b n f:=by obtain⟨D,h1,h2,h3⟩:=h;exact⟨D,h1.kept hg hne,h2,h3⟩
theorem MapF.lt(h:MapF P k w b n f):b<w.heap.size:=by obtain⟨D,h1,_⟩:=h;exact h1.lt
theorem MapF.look{t:TypeId}(h:MapF P k w b n f)(K:Keyed P k)(ht:P.underlying t=some (.map k e))(hz:(zeroValue e).run P w= .ok (z6g (0,0)) w){l:List Int}(hkey:∃kl,keyOf P k (zue l)=some kl):
 (Instr.lookup t (.map (some b)) (zue l) true).run P w= .ok (.tuple #[z6g ((f l).getD (0,0)),.bool (f l).isSome]) w:=by
 obtain⟨D,⟨es,clock,hb,F,_,rfl⟩,h2,h3⟩:=h;obtain⟨kl,hkey⟩:=hkey;have h4:=h3 l kl hkey;rcases fit_look true K ht hz hb F hkey with⟨hrun,_,hat⟩|⟨e0,y,_,_,hrun,hRv,hat,_⟩
 ·cases hf:f l with
  |none=>exact hrun
  |some p=>
   rw[hf] at h4;have h5:=(hat .nil).symm.trans (h4 .nil);cases h5
 ·obtain⟨p,hp,rfl⟩:=z6h hRv
  rw[hp] at hrun;cases hf:f l with
  |none=>
   rw[hf] at h4;have h5:=(hat .nil).symm.trans (h4 .nil);cases h5
  |some q=>
   rw[hf] at h4;have h5:zoj p=zoj q:=(hat .nil).symm.trans (h4 .nil);rw[z6i h5] at hrun;exact hrun
theorem MapF.put{t:TypeId}(h:MapF P k w b n f)(K:Keyed P k)(ht:P.underlying t=some (.map k e))(hn:n<maxLen){l:List Int}(hkey:∃kl,keyOf P k (zue l)=some kl)(p:Int × Int):
 ∃w',(Instr.mapUpdate t (.map (some b)) (zue l) (z6g p)).run P w= .ok () w'/\MapF P k w' b (n+1) (fun m=>if m=l then some p else f m)/\w.grownBy w' (some b):=by
 obtain⟨D,h1,h2,h3⟩:=h;obtain⟨kl,hkey⟩:=hkey;obtain⟨w',hrun,ho,hg⟩:=h1.update K ht hn hkey (qb9 p);refine⟨w',hrun,⟨_,ho,h2.put _ _,fun m km hm zd=>?_⟩,hg⟩;by_cases he:m=l
 ·subst he
  rw[hm] at hkey;obtain rfl:=qmh hkey;show _=((if m=m then some p else f m).map zoj).getD zd;rw[if_pos rfl,atKey_put_same h2 (K.key hm)];rfl
 ·show _=((if m=l then some p else f m).map zoj).getD zd
  rw[if_neg he,atKey_put_other,h3 m km hm];intro hk;subst hk;exact he (qca (K.inj hm hkey))
end
open Go Go.RowKit
section
variable{P:Program}{o:Oper}{a:Act}{Q:Exit->Act->World->Prop}{K:Act->World->Prop}
theorem zj3{w:World}{t e:TypeId}{z:Value}{sz bytes:Nat}(E:ElT P t e z sz bytes)(s x:Operand)
 (ho:o.op= .call {callee:= .builtin .append,args:= #[s,x],argTypes:= #[t,t]})
 {W:World}{B base n m c:Nat}{v:Value}{xs news:List Value}{A:Option Addr}(hown:w.ownsRow base e sz v n xs)(hr:Reads w w.heap.size sz A m news)(hs:a.eval s=v)(hx:a.eval x= .slice A m c)
 (hb:Below B W w)(hbB:B<=base)(hbase:base<=w.heap.size)(h1:∀u∈news,u.oneCell'=true)
 (hn:(n+m)*bytes<=140737488355328)(hm:n+m<=maxLen)
 (h:∀A' c' w',n+m<=c'->c'<=maxLen->w'.ownsRow base e sz (.slice A' (n+m) c') (n+m) (xs++news)->w.grownBy w' v.ownBlock->Below B W w'->K (a.put o.dst (.slice A' (n+m) c')) w'):
 Oper.wp P o a w K Q:=by
 obtain⟨i,hi,hz0,hz1,hz2⟩:=info_parts E.hi;rcases A with _|ad
 ·have hm0:m=0:=by
   rcases qm9 m with h0|h0
   ·exact h0
   ·obtain⟨ad,h',_⟩:=hr.2 h0
    cases h'
  subst hm0;have hn0:news=[]:=qna (by have:=hr.1;omega);subst hn0;have hrun:∀ty,(Builtin.append_ #[t,t] ty #[v,.slice none 0 c]).run P w= .ok v w:=by
   intro ty;rcases hown.2 with⟨rfl,hx0⟩|⟨g,cap,cur,rfl,_,_,hnc,_⟩
   ·simp[Builtin.append_,run_underlying E.ht,sizeOf,typeInfo,hi,Builtin.lenOf,Builtin.firstCells]
   ·simp[Builtin.append_,run_underlying E.ht,sizeOf,typeInfo,hi,Builtin.lenOf,Builtin.firstCells,hnc,storeCells]
  obtain⟨A',c',rfl,hc1,hc2⟩:=zcw hown;unfold Oper.wp execOp;simp only[ho,resolve,invoke,builtin,Sem.run_bind,Sem.run_pure,Result.andThen_ok,qnb,qnc,qnd,hs,hx,hrun];exact h A' c' w hc1 hc2 (by simpa using hown) (World.grownBy.refl w _) hb
 ·have hl:news.length=m*sz:=hr.1
  have hcells:∀j u,news[j]? =some u->w.cell? (ad.add j)=some u:=by
   intro j u hu;rcases qm9 m with h0|h0
   ·subst h0
    have hn:news=[]:=qna (by omega);subst hn;simp at hu
   ·obtain⟨ad',h',_,hc⟩:=hr.2 h0
    injection h' with h';subst h';exact hc j u hu
  obtain⟨v',w',hr',hown',hg,_,_⟩:=run_append_own_at (P:=P) w base t o.type e i z sz bytes E.ht hi hz0 hz1 hz2 E.hz E.hs v n xs hown ad m c news hl hcells h1 hm hn hbase;obtain⟨A',c',rfl,hc1,hc2⟩:=zcw hown';unfold Oper.wp execOp;simp only[ho,resolve,invoke,builtin,Sem.run_bind,Sem.run_pure,Result.andThen_ok,qnb,qnc,qnd,hs,hx,hr'];exact h A' c' w' hc1 hc2 hown' hg (hb.grown hg (qml hbB hbase) (fun k hk=>by have:=(World.ownsRow.lt hown k hk).1;omega))
end
def zbi(v:Value):List Nat:=match v.ownBlock with|some g=>[g]|none=>[]
theorem Turns.row{w w':World}{v:Value}(h:w.grownBy w' v.ownBlock):Turns (zbi v) w w':=by
 unfold zbi;cases e:v.ownBlock with
 |none=>rw[e] at h;exact Turns.of_none h
 |some g=>rw[e] at h;exact Turns.of_far h (by simp)
theorem zj4{w:World}{base sz n:Nat}{e:TypeId}{v:Value}{xs:List Value}(h:w.ownsRow base e sz v n xs):∀x∈zbi v,base<=x/\x<w.heap.size:=by
 intro x hx;unfold zbi at hx;cases e:v.ownBlock with
 |none=>rw[e] at hx;simp at hx
 |some g=>rw[e] at hx;simp at hx;subst hx;exact World.ownsRow.lt h _ e
theorem zda{w:World}{base sz n:Nat}{e t:TypeId}{v:Value}{xs:List Value}{g:Nat}{cs:Array Value}(h:w.ownsRow base e sz v n xs)(hg:Blk w g t cs)(hne:e≠t):g∉zbi v:=by
 intro hx;unfold zbi at hx;cases e':v.ownBlock with
 |none=>rw[e'] at hx;simp at hx
 |some g'=>rw[e'] at hx;simp at hx;subst hx;exact zaj h hg hne e'
theorem zil{w w':World}{base sz n:Nat}{e:TypeId}{v:Value}{xs:List Value}{T:List Nat}(h:w.ownsRow base e sz v n xs)(k:Turns T w w')(hT:∀x∈T,v.ownBlock≠some x):w'.ownsRow base e sz v n xs:=by
 refine⟨h.1,?_⟩;rcases h.2 with hn|⟨g,cap,cur,rfl,hbg,hgg,rest⟩
 ·exact .inl hn
 ·refine .inr ⟨g,cap,cur,rfl,hbg,?_,rest⟩
  rw[k.block g (qmv.1 hgg).1 (fun hm=>hT g hm rfl)];exact hgg
theorem zj5{w:World}{base base2 sz sz2 n n2:Nat}{e e2:TypeId}{v v2:Value}{xs xs2:List Value}(h:w.ownsRow base e sz v n xs)(h2:w.ownsRow base2 e2 sz2 v2 n2 xs2)(hne:e≠e2):∀x∈zbi v2,v.ownBlock≠some x:=by
 intro x hx;unfold zbi at hx;cases e':v2.ownBlock with
 |none=>rw[e'] at hx;simp at hx
 |some g=>
  rw[e'] at hx;simp at hx;subst hx;rcases h2.2 with⟨rfl,_⟩|⟨g',cap,cur,rfl,_,hh,_⟩
  ·simp[Value.ownBlock] at e'
  ·have:g'=x:=by simpa[Value.ownBlock] using e'
   subst this;exact zaj h hh hne
open Go Go.RowKit
def zjs(t:Int)(a b:zab):Int:=if a.1||b.1 then z5l a.1 b.1 else if t=0\/t=1 then zid a.2.1 b.2.1 else if t=2 then qdo a.2.2.1 b.2.2.1 else if t=3 then cmpP a.2.2.2.1 a.2.2.2.2 b.2.2.2.1 b.2.2.2.2 else 0
theorem qj0{t:Int}{a b:zab}(h: ¬(t=3/\a.1=false/\b.1=false)):zjs t a b=qjx t a b:=by
 unfold zjs qjx;by_cases h1:(a.1||b.1)=true
 ·rw[if_pos h1,if_pos h1]
 ·rw[if_neg h1,if_neg h1]
  have h3: ¬t=3:=fun e=>h ⟨e,by simp_all,by simp_all⟩
  simp[h3]
def qh0(x y u v:Int):Prop:=(-2097152<=x/\x<=2097152)/\(-2097152<=y/\y<=2097152)/\(-2097152<=u/\u<=2097152)/\(-2097152<=v/\v<=2097152)
end Go.Hm
namespace Go.Proofs.Y
open Go.RowKit Go.Hm
set_option maxRecDepth 100000 in
theorem zvm{w:World}{t:Int}{a b:Bool}{n m:Int}{s r:List Nat}{x y x2 y2:Int}(hp:qh0 x y x2 y2):
 Calls Tryz.prog 144 #[.int .i64 t,.agg #[.bool a,.int .i64 n,.string (zae s),.int .i64 x,.int .i64 y],.agg #[.bool b,.int .i64 m,.string (zae r),.int .i64 x2,.int .i64 y2]] w (zal (.int .i64 (zjs t (a,n,s,x,y) (b,m,r,x2,y2))) w):=by
 by_cases h3:t=3/\a=false/\b=false
 ·obtain⟨rfl,rfl,rfl⟩:=h3
  have hO:zjs 3 (false,n,s,x,y) (false,m,r,x2,y2)=cmpP x y x2 y2:=by simp[zjs]
  rw[hO];have P:=Hz (fun(W:World)=>zvl (w:=W) hp.1 hp.2.1 hp.2.2.1 hp.2.2.2);have B0:=Blk.new w 75 #[.bool false,.int .i64 n,.string (zae s),.int .i64 x,.int .i64 y];have B1:=Blk.new (w.alloc (.cells #[.bool false,.int .i64 n,.string (zae s),.int .i64 x,.int .i64 y] 75)) 75 #[.bool false,.int .i64 m,.string (zae r),.int .i64 x2,.int .i64 y2];obtain⟨x0,x1,x2',x3,x4⟩:=zcs (B0.alloc (.cells #[.bool false,.int .i64 m,.string (zae r),.int .i64 x2,.int .i64 y2] 75));obtain⟨y0,y1,y2',y3,y4⟩:=zcs B1;clear B0 B1 hO hp;go_enter Tryz.func144,Tryz.ntmps144
  go_wp2_with (go_at_call 166;refine(P.out _).mono ?_;rintro e w' ⟨rfl,b1⟩)
  go_ret
  exact⟨rfl,New.trans (zye w _ _) b1⟩
 ·rw[qj0 h3]
  exact zys h3
end Go.Proofs.Y
namespace Go.Hm
open Go Go.RowKit
theorem qft:∀a b:List UInt8,Lib.compareBytes b a= -Lib.compareBytes a b
 | [],[]=>by simp[Lib.compareBytes]
 | [],_::_=>by simp[Lib.compareBytes]
 |_::_,[]=>by simp[Lib.compareBytes]
 |x::a,y::b=>by
  have ih:=qft a b;unfold Lib.compareBytes;by_cases h1:x<y
  ·have h2: ¬y<x:=fun h=>UInt8.lt_irrefl _ (UInt8.lt_trans h h1)
   rw[if_neg h2,if_pos h1,if_pos h1];rfl
  ·by_cases h2:y<x
   ·rw[if_pos h2,if_neg h1,if_pos h2]
   ·rw[if_neg h2,if_neg h1,if_neg h1,if_neg h2,ih]
theorem z8a:∀a b:List UInt8,Lib.compareBytes a b=0↔a=b
 | [],[]=>by simp[Lib.compareBytes]
 | [],_::_=>by simp[Lib.compareBytes]
 |_::_,[]=>by simp[Lib.compareBytes]
 |x::a,y::b=>by
  have ih:=z8a a b;unfold Lib.compareBytes;by_cases h1:x<y
  ·have hne:x≠y:=by rintro rfl;exact UInt8.lt_irrefl _ h1
   rw[if_pos h1];simp[hne]
  ·by_cases h2:y<x
   ·have hne:x≠y:=by rintro rfl;exact h1 h2
    rw[if_neg h1,if_pos h2];simp[hne]
   ·have he:x=y:=qra (qrb.1 h2) (qrb.1 h1)
    subst he;rw[if_neg h1,if_neg h1,ih];simp
theorem z02:∀a b c:List UInt8,Lib.compareBytes a b<=0->Lib.compareBytes b c<=0->Lib.compareBytes a c<=0
 | [],b,[]=>by simp[Lib.compareBytes]
 | [],b,_::_=>by simp[Lib.compareBytes]
 |_::_,[],c=>by simp[Lib.compareBytes]
 |_::_,_::_,[]=>by simp[Lib.compareBytes]
 |x::a,y::b,z::c=>by
  have ih:=z02 a b c;unfold Lib.compareBytes;intro h1 h2;by_cases xz:x<z
  ·rw[if_pos xz];decide
  ·rw[if_neg xz]
   by_cases xy:x<y
   ·have yz: ¬y<z:=fun h=>xz (UInt8.lt_trans xy h)
    rw[if_neg yz] at h2;by_cases zy:z<y
    ·rw[if_pos zy] at h2;omega
    ·have he:y=z:=qra (qrb.1 zy) (qrb.1 yz)
     exact absurd (he▸xy) xz
   ·rw[if_neg xy] at h1
    by_cases yx:y<x
    ·rw[if_pos yx] at h1;omega
    ·rw[if_neg yx] at h1
     have he:x=y:=qra (qrb.1 yx) (qrb.1 xy);subst he;rw[if_neg xz] at h2;by_cases zx:z<x
     ·rw[if_pos zx] at h2;omega
     ·rw[if_neg zx] at h2⊢
      exact ih h1 h2
theorem qdu{a b:Bool}(h:(a||b)=true):z5l b a= -z5l a b:=by cases a<;> cases b<;> simp_all[z5l]
theorem znr(t:Int)(a b:zab):zjs t b a= -zjs t a b:=by
 unfold zjs;by_cases h:(a.1||b.1)=true
 ·have h':(b.1||a.1)=true:=by rw[Bool.or_comm];exact h
  rw[if_pos h',if_pos h,qdu h]
 ·have h': ¬(b.1||a.1)=true:=by rw[Bool.or_comm];exact h
  rw[if_neg h',if_neg h,znq a.2.1,qdt a.2.2.2.1,qdo,qdo,qft];split
  ·rfl
  ·split
   ·rfl
   ·split
    ·rfl
    ·rfl
theorem zro:∀{a b:List Nat},(∀z∈a,z<256)->(∀z∈b,z<256)->a.map UInt8.ofNat=b.map UInt8.ofNat->a=b
 | [],[],_,_,_=>rfl
 | [],_::_,_,_,h=>by simp at h
 |_::_,[],_,_,h=>by simp at h
 |x::a,y::b,ha,hb,h=>by
  rw[qnc,qnc,qmg] at h;have e1:x=y:=by have:=congrArg UInt8.toNat h.1;rw[qn9,qn9,qn1 (ha x (by simp)),qn1 (hb y (by simp))] at this;exact this
  rw[e1,zro (fun z hz=>ha z (by simp[hz])) (fun z hz=>hb z (by simp[hz])) h.2]
theorem z8b{t:Int}{nu:Bool}{a b:zab}(ha:zaf a t nu=true)(hb:zaf b t nu=true)(fa:∀z∈a.2.2.1,z<256)(fb:∀z∈b.2.2.1,z<256):zjs t a b=0↔a=b:=by
 obtain⟨na,ia,sa,xa,ya⟩:=a;obtain⟨nb,ib,sb,xb,yb⟩:=b;simp only at fa fb;have ht:qdo sa sb=0↔sa=sb:=by rw[qdo,z8a];exact⟨zro fa fb,fun h=>by rw[h]⟩
 unfold zaf at ha hb;unfold zjs;cases na<;> cases nb
 ·simp only[Bool.or_self,qrc,if_false] at ha hb⊢
  by_cases h0:t=0
  ·subst h0
   simp at ha hb;simp[cmpI_zero,ha,hb]
  ·by_cases h1:t=1
   ·subst h1
    simp at ha hb;simp[cmpI_zero,ha,hb]
   ·by_cases h2:t=2
    ·subst h2
     simp at ha hb;simp[ht,ha,hb]
    ·by_cases h3:t=3
     ·subst h3
      simp at ha hb;simp[z78,ha,hb]
     ·simp[h0,h1,h2,h3] at ha
 ·simp[z5l]
 ·simp[z5l]
 ·simp at ha hb
  simp[z5l,ha,hb]
theorem zjg{t:Int}{a b c:zab}(h1:zjs t a b<=0)(h2:zjs t b c<=0):zjs t a c<=0:=by
 obtain⟨na,ia,sa,xa,ya⟩:=a;obtain⟨nb,ib,sb,xb,yb⟩:=b;obtain⟨nc,ic,sc,xc,yc⟩:=c;unfold zjs at*;cases na
 ·cases nb
  ·cases nc
   ·simp only[Bool.or_self,qrc,if_false] at h1 h2⊢
    split
    ·rename_i ht
     rw[if_pos ht,zo9] at h1 h2;rw[zo9];omega
    ·rename_i ht
     rw[if_neg ht] at h1 h2;split
     ·rename_i ht
      rw[if_pos ht,qdo] at h1 h2;exact z02 _ _ _ h1 h2
     ·rename_i ht
      rw[if_neg ht] at h1 h2;split
      ·rename_i ht
       rw[if_pos ht,z79] at h1 h2;rw[z79];generalize xa*xa+ya*ya=n1 at*;generalize xb*xb+yb*yb=n2 at*;generalize xc*xc+yc*yc=n3 at*;omega
      ·omega
   ·simp[z5l] at h2
  ·simp[z5l] at h1
 ·cases nc<;> simp[z5l]
theorem zl7{t:Int}{nu:Bool}{a:zab}(h:zaf a t nu=true):(-1048576<=a.2.2.2.1/\a.2.2.2.1<=1048576)/\ -1048576<=a.2.2.2.2/\a.2.2.2.2<=1048576:=by
 obtain⟨na,ia,sa,xa,ya⟩:=a;unfold zaf at h;show(-1048576<=xa/\xa<=1048576)/\ -1048576<=ya/\ya<=1048576;cases na
 ·simp only[qrc,if_false] at h
  by_cases h0:t=0
  ·subst h0;simp at h;omega
  ·by_cases h1:t=1
   ·subst h1;simp at h;omega
   ·by_cases h2:t=2
    ·subst h2;simp at h;omega
    ·by_cases h3:t=3
     ·subst h3;simp[inBox] at h;omega
     ·simp[h0,h1,h2,h3] at h
 ·simp at h;omega
open Go Go.RowKit
abbrev zdc:=Int × Bool × zab × zab
def zb0:zdc:=(0,false,za8,za8)
def zcb(s:zdc):List Value:= .int .i64 s.1:: .bool s.2.1::(za0 s.2.2.1++za0 s.2.2.2)
def nullsL(l:List zab):Nat:=(l.filter fun c=>c.1).length
structure IsStat(t:Int)(l:List zab)(s:zdc):Prop where
 nulls:s.1=(nullsL l:Int)
 has:s.2.1=true↔ ∃c∈l,c.1=false
 none:s.2.1=false->s.2.2.1=za8/\s.2.2.2=za8
 least:s.2.1=true->(s.2.2.1∈l/\s.2.2.1.1=false)/\ ∀c∈l,c.1=false->zjs t s.2.2.1 c<=0
 most:s.2.1=true->(s.2.2.2∈l/\s.2.2.2.1=false)/\ ∀c∈l,c.1=false->zjs t c s.2.2.2<=0
theorem zvn(t:Int)(c:zab):zjs t c c=0:=by have:=znr t c c;omega
theorem zth(a b:List zab):nullsL (a++b)=nullsL a+nullsL b:=by unfold nullsL;rw[List.filter_append,qni]
theorem ziu(l:List zab):nullsL l<=l.length:=List.length_filter_le _ _
def zj9(c:zab):zdc:=if c.1 then(1,false,za8,za8) else(0,true,c,c)
theorem zrp(t:Int):IsStat t [] zb0:=⟨rfl,by simp[zb0],fun _=>⟨rfl,rfl⟩,fun h=>by simp[zb0] at h,fun h=>by simp[zb0] at h⟩
theorem zrq(t:Int)(c:zab):IsStat t [c] (zj9 c):=by
 have h0:=zvn t c;unfold zj9;cases hc:c.1 with
 |true=>
  rw[if_pos rfl];exact⟨by simp[nullsL,hc],by simp[hc],fun _=>⟨rfl,rfl⟩,fun h=>by simp at h,fun h=>by simp at h⟩
 |false=>
  rw[if_neg (by simp)];refine⟨by simp[nullsL,hc],by simp[hc],fun h=>by simp at h,fun _=>⟨⟨by simp,hc⟩,fun d hd _=>?_⟩,fun _=>⟨⟨by simp,hc⟩,fun d hd _=>?_⟩⟩
  ·rw[qnz.1 hd]
   show zjs t c c<=0;omega
  ·rw[qnz.1 hd]
   show zjs t c c<=0;omega
def zm1(t:Int)(a b:zdc):zdc:=
 if a.2.1 then(a.1+b.1,true,if b.2.1&&decide (zjs t b.2.2.1 a.2.2.1<0) then b.2.2.1 else a.2.2.1,if b.2.1&&decide (0<zjs t b.2.2.2 a.2.2.2) then b.2.2.2 else a.2.2.2)
 else if b.2.1 then(a.1+b.1,true,b.2.2.1,b.2.2.2) else(a.1+b.1,false,za8,za8)
theorem IsStat.merge{t:Int}{a b:List zab}{x y:zdc}(h:IsStat t a x)(k:IsStat t b y):IsStat t (a++b) (zm1 t x y):=by
 obtain⟨xn,xh,x1,x2⟩:=x;obtain⟨yn,yh,y1,y2⟩:=y;obtain⟨h1,h2,h3,h4,h5⟩:=h;obtain⟨k1,k2,k3,k4,k5⟩:=k;dsimp only at*;have hn:xn+yn=(nullsL (a++b):Int):=by rw[zth];omega
 have hex:(∃c∈a++b,c.1=false)↔(xh=true\/yh=true):=by
  rw[h2,k2];constructor
  ·rintro⟨c,hc,e⟩
   rcases qny.1 hc with hc|hc
   ·exact .inl ⟨c,hc,e⟩
   ·exact .inr ⟨c,hc,e⟩
  ·rintro(⟨c,hc,e⟩|⟨c,hc,e⟩)
   ·exact⟨c,qrd _ hc,e⟩
   ·exact⟨c,qre _ hc,e⟩
 unfold zm1;dsimp only;cases xh with
 |true=>
  rw[if_pos rfl];obtain⟨⟨p1,p2⟩,p3⟩:=h4 rfl;obtain⟨⟨q1,q2⟩,q3⟩:=h5 rfl;cases yh with
  |false=>
   have hno:∀c∈b,c.1=false->False:=fun c hc e=>by have:=k2.2 ⟨c,hc,e⟩;simp at this
   simp only[Bool.false_and,qrc,if_false];refine⟨hn,?_,?_,?_,?_⟩
   ·rw[hex];simp
   ·intro h;simp at h
   ·intro _
    exact⟨⟨qrd _ p1,p2⟩,fun c hc e=>by
     rcases qny.1 hc with hc|hc
     ·exact p3 c hc e
     ·exact(hno c hc e).elim⟩
   ·intro _
    exact⟨⟨qrd _ q1,q2⟩,fun c hc e=>by
     rcases qny.1 hc with hc|hc
     ·exact q3 c hc e
     ·exact(hno c hc e).elim⟩
  |true=>
   obtain⟨⟨u1,u2⟩,u3⟩:=k4 rfl;obtain⟨⟨v1,v2⟩,v3⟩:=k5 rfl;simp only[qp7,decide_eq_true_eq];refine⟨hn,?_,?_,?_,?_⟩
   ·rw[hex];simp
   ·intro h;simp at h
   ·intro _
    dsimp only;by_cases hlt:zjs t y1 x1<0
    ·rw[if_pos hlt]
     exact⟨⟨qre _ u1,u2⟩,fun c hc e=>by
      rcases qny.1 hc with hc|hc
      ·exact zjg (by omega) (p3 c hc e)
      ·exact u3 c hc e⟩
    ·rw[if_neg hlt]
     have hg:zjs t x1 y1<=0:=by rw[znr];omega
     exact⟨⟨qrd _ p1,p2⟩,fun c hc e=>by
      rcases qny.1 hc with hc|hc
      ·exact p3 c hc e
      ·exact zjg hg (u3 c hc e)⟩
   ·intro _
    dsimp only;by_cases hlt:0<zjs t y2 x2
    ·rw[if_pos hlt]
     have hg:zjs t x2 y2<=0:=by rw[znr];omega
     exact⟨⟨qre _ v1,v2⟩,fun c hc e=>by
      rcases qny.1 hc with hc|hc
      ·exact zjg (q3 c hc e) hg
      ·exact v3 c hc e⟩
    ·rw[if_neg hlt]
     exact⟨⟨qrd _ q1,q2⟩,fun c hc e=>by
      rcases qny.1 hc with hc|hc
      ·exact q3 c hc e
      ·exact zjg (v3 c hc e) (by omega)⟩
 |false=>
  have hno:∀c∈a,c.1=false->False:=fun c hc e=>by have:=h2.2 ⟨c,hc,e⟩;simp at this
  rw[if_neg (by simp)];cases yh with
  |false=>
   rw[if_neg (by simp)];exact⟨hn,by rw[hex];simp,fun _=>⟨rfl,rfl⟩,fun h=>by simp at h,fun h=>by simp at h⟩
  |true=>
   rw[if_pos rfl];obtain⟨⟨u1,u2⟩,u3⟩:=k4 rfl;obtain⟨⟨v1,v2⟩,v3⟩:=k5 rfl;refine⟨hn,by rw[hex];simp,fun h=>by simp at h,?_,?_⟩
   ·intro _
    exact⟨⟨qre _ u1,u2⟩,fun c hc e=>by
     rcases qny.1 hc with hc|hc
     ·exact(hno c hc e).elim
     ·exact u3 c hc e⟩
   ·intro _
    exact⟨⟨qre _ v1,v2⟩,fun c hc e=>by
     rcases qny.1 hc with hc|hc
     ·exact(hno c hc e).elim
     ·exact v3 c hc e⟩
theorem IsStat.uniq{t:Int}{l:List zab}(hr:∀c∈l,zaf c t true=true)(h8:∀c∈l,∀z∈c.2.2.1,z<256){x y:zdc}(h:IsStat t l x)(k:IsStat t l y):x=y:=by
 obtain⟨xn,xh,x1,x2⟩:=x;obtain⟨yn,yh,y1,y2⟩:=y;obtain⟨h1,h2,h3,h4,h5⟩:=h;obtain⟨k1,k2,k3,k4,k5⟩:=k;dsimp only at*;have hh:xh=yh:=by rw[qm6,h2,k2]
 subst hh;have key:∀{a b:zab},a∈l->b∈l->zjs t a b<=0->zjs t b a<=0->a=b:=fun {a b} ha hb p q=>by rw[znr] at q;exact(z8b (hr a ha) (hr b hb) (h8 a ha) (h8 b hb)).1 (by omega)
 rw[show xn=yn by omega];cases xh with
 |false=>
  rw[(h3 rfl).1,(h3 rfl).2,(k3 rfl).1,(k3 rfl).2]
 |true=>
  obtain⟨⟨p1,p2⟩,p3⟩:=h4 rfl;obtain⟨⟨q1,q2⟩,q3⟩:=h5 rfl;obtain⟨⟨u1,u2⟩,u3⟩:=k4 rfl;obtain⟨⟨v1,v2⟩,v3⟩:=k5 rfl;rw[key p1 u1 (p3 _ u1 u2) (u3 _ p1 p2),key q1 v1 (v3 _ q1 q2) (q3 _ v1 v2)]
def zcc(t:Int)(s:zdc):Bool:=
 if t<0\/3<t\/s.1<0\/65536<s.1 then false
 else if s.2.1 then zaf s.2.2.1 t false&&(zaf s.2.2.2 t false&&decide (zjs t s.2.2.1 s.2.2.2<=0))
 else decide (s.2.2.1=za8)&&decide (s.2.2.2=za8)
theorem zpa{c:zab}{t:Int}(h:zaf c t true=true)(hc:c.1=false):zaf c t false=true:=by unfold zaf at h⊢;rw[hc] at h⊢;simpa using h
theorem IsStat.right{t:Int}{l:List zab}{s:zdc}(h:IsStat t l s)(hr:∀c∈l,zaf c t true=true)(ht:0<=t/\t<=3)(hl:l.length<=65536):zcc t s=true:=by
 unfold zcc;have hn:=ziu l;have:=h.nulls;rw[if_neg (by omega)];cases hh:s.2.1 with
 |false=>
  obtain⟨e1,e2⟩:=h.none hh;simp[e1,e2]
 |true=>
  obtain⟨⟨p1,p2⟩,p3⟩:=h.least hh;obtain⟨⟨q1,q2⟩,q3⟩:=h.most hh;simp[zpa (hr _ p1) p2,zpa (hr _ q1) q2,p3 _ q1 q2]
open Go Go.RowKit
def zcg(s:zdc):Value:= .agg (zcb s).toArray
end Go.Hm
namespace Go.Proofs.Y
open Go.RowKit Go.Hm
set_option maxRecDepth 100000 in
theorem z3m{w:World}(c:zab):Calls Tryz.prog 130 #[zc2 c] w (zal (zcg (zj9 c)) w):=by
 obtain⟨b,n,s,x,y⟩:=c;cases b with
 |true=>
  show Calls Tryz.prog 130 #[.agg #[.bool true,.int .i64 n,.string (zae s),.int .i64 x,.int .i64 y]] w (zal (zcg (1,false,za8,za8)) w);go_enter Tryz.func130,Tryz.ntmps130
  go_wp2
  exact bodyPost_ret (v:=zcg (1,false,za8,za8)) (by simp[results,Tryz.results130,go_sem,zcg,zcb,za0,za8,show zae []=⟨#[]⟩ from rfl]) rfl ⟨rfl,zye w _ _⟩
 |false=>
  show Calls Tryz.prog 130 #[.agg #[.bool false,.int .i64 n,.string (zae s),.int .i64 x,.int .i64 y]] w (zal (zcg (0,true,(false,n,s,x,y),(false,n,s,x,y))) w);have B0:=Blk.new w 75 #[.bool false,.int .i64 n,.string (zae s),.int .i64 x,.int .i64 y];obtain⟨x0,x1,x2,x3,x4⟩:=zcs (B0.alloc (.cells #[.int .i64 0,.bool false,.bool false,.int .i64 0,.string ⟨#[]⟩,.int .i64 0,.int .i64 0,.bool false,.int .i64 0,.string ⟨#[]⟩,.int .i64 0,.int .i64 0] 133));clear B0;go_enter Tryz.func130,Tryz.ntmps130
  go_wp2
  exact bodyPost_ret (v:=zcg (0,true,(false,n,s,x,y),(false,n,s,x,y))) (by simp[results,Tryz.results130,go_sem,zcg,zcb,za0]) rfl ⟨rfl,zye w _ _⟩
end Go.Proofs.Y
