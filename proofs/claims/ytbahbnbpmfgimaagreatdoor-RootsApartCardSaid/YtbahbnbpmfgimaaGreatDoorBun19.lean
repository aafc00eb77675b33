/- Merged. -/
import Derived.Test.YtbahbnbpmfgimaaGreatDoorBun18
set_option maxHeartbeats 2000000
namespace Go.Hm
open Go Go.RowKit
def zat:List Int:=List.replicate 32 0
theorem z5a{P:Program}{t:TypeId}(ht:P.underlying t=some (.slice (P.elem t)))(hs:∀w,(sizeOf (P.elem t)).run P w= .ok 1 w)(A:Option Addr)(n c k:Nat)(hk:k<=n)(w:World):
 (Instr.sliceAt t (.slice A n c) (some (.int .i64 (k:Int))) none none).run P w= .ok (.slice (if c=k then A else A.map (·.add k)) (n-k) (c-k)) w:=by
 rw[run_sliceAt_slice w t _ _ _ _ ht,run_slice_l w t A n c ht .i64 (k:Int) (by omega) (by omega),hs];simp[Result.andThen,sliced]
theorem qaq{P:Program}{t:TypeId}(ht:P.underlying t=some (.slice (P.elem t)))(hs:∀w,(sizeOf (P.elem t)).run P w= .ok 1 w)(A:Option Addr)(n c k m:Nat)(hk:k<=m)(hc:m<=c)(w:World):
 (Instr.sliceAt t (.slice A n c) (some (.int .i64 (k:Int))) (some (.int .i64 (m:Int))) none).run P w= .ok (.slice (if c=k then A else A.map (·.add k)) (m-k) (c-k)) w:=by
 rw[run_sliceAt_slice w t _ _ _ _ ht,run_slice_lh w t A n c ht .i64 .i64 (k:Int) (m:Int) (by omega) (by omega) (by omega),hs];simp[Result.andThen,sliced]
theorem qfl{P:Program}{t:TypeId}(ht:P.underlying t=some (.slice (P.elem t)))(hs:∀w,(sizeOf (P.elem t)).run P w= .ok 1 w)(A:Option Addr)(n c m:Nat)(hc:m<=c)(w:World):
 (Instr.sliceAt t (.slice A n c) none (some (.int .i64 (m:Int))) none).run P w= .ok (.slice A m c) w:=by
 rw[run_sliceAt_slice w t _ _ _ _ ht,run_slice_h w t A n c ht .i64 (m:Int) (by omega) (by omega),hs];have e:∀a:Addr,a.add 0=a:=zfy;cases A<;> simp[Result.andThen,sliced,e]
end Go.Hm
namespace Go.Proofs.Y
open Go.RowKit Go.Hm
theorem sB:Tryz.prog.underlying 24=some (.slice (Tryz.prog.elem 24)):=by kernel_rfl
theorem zB:∀w,(sizeOf (Tryz.prog.elem 24)).run Tryz.prog w= .ok 1 w:=fun w=>by
 have h:(Tryz.prog.info? (Tryz.prog.elem 24)).map (·.size)=some 1:=by kernel_rfl
 cases hq:Tryz.prog.info? (Tryz.prog.elem 24) with
 |none=>rw[hq] at h;cases h
 |some i=>
  rw[hq] at h;have:i.size=1:=by simpa using h
  simp[sizeOf,typeInfo,hq,this]
theorem qar:Tryz.prog.underlying 101=some (.array 64 5):=by kernel_rfl
theorem qeb:Tryz.prog.underlying 98=some (.array 8 97):=by kernel_rfl
theorem zcd:Tryz.prog.underlying 35=some (.array 32 5):=by kernel_rfl
theorem qj7{l:List Nat}(h:l.length=64):(Tryz.prog.info? 101).map (·.size)=some (zao .u8 l).length:=by
 rw[zaa,h]
 kernel_rfl
theorem i8w(s:S8):(Tryz.prog.info? 98).map (·.size)=some (zbu s).size:=by
 rw[show(zbu s).size=8 from rfl]
 kernel_rfl
theorem z99{l:List Int}(h:l.length=32):(Tryz.prog.info? 35).map (·.size)=some (za0 .u8 l).toArray.size:=by
 rw[show(za0 .u8 l).toArray.size=32 by simp[za0,h]]
 kernel_rfl
set_option maxRecDepth 100000 in
theorem zlw{w:World}{A:Option Addr}{n c:Nat}{l:List Nat}(h:Reads w w.heap.size 1 A n (zao .u8 l))(h8:∀x∈l,x<256)(hc:n<=c)(hn:n<=10000000)(hC:ConstIn w):
 Calls Tryz.prog 25 #[.slice A n c] w (zal (.agg (za0 .u8 (sumI l)).toArray) w):=by
 obtain rfl:=h.len;obtain⟨r,hr⟩:∃r,r=l.length%64:=⟨_,rfl⟩;obtain⟨wh,hwh⟩:∃r,r=l.length-l.length%64:=⟨_,rfl⟩;have e1:(l.length:Int)%64=(r:Int):=by omega
 have e2:(l.length:Int).tmod 64=(r:Int):=by rw[Int.tmod_eq_emod_of_nonneg (by omega)];omega
 have e3:(l.length:Int)-(r:Int)=(wh:Int):=by omega
 have hw64:wh%64=0:=by omega
 have hwl:wh<=l.length:=by omega
 have HR:=Hz h;have HC:=Hz hC;have HH:=Hz h8;have HW64:=Hz hw64;have HM8:=Hz (qfk h8);have HML:=Hz (zzf l);have HMM:=Hz (qap l);have HPL:=Hz (znh l.length);clear h hC h8 hr hwh hw64;go_enter Tryz.func25,Tryz.ntmps25
 go_wp2_with fail
 obtain⟨W0,hW0⟩:∃W,W=w.alloc (.cells (za0 .u8 zat).toArray 35):=⟨_,rfl⟩;have b0:New w W0:=by rw[hW0];exact(Below.refl _ _).alloc (Nat.le_refl _) _
 have D0:Blk W0 w.heap.size 35 (za0 .u8 zat).toArray:=by rw[hW0];exact Blk.new _ _ _
 refine(z43).mono ?_;rintro e w1 ⟨rfl,b1⟩;have b1:New W0 w1:=by rw[hW0];exact b1
 have D1:=D0.below b1 D0.lt;have b01:=New.trans b0 b1;have HB1:=Hz b01;have HD1:=Hz D1;clear hW0 b0 D0 b1 D1 b01;go_wp2_with (first|(refine wpList_store_row rfl 98 (.tmp 3) (.tmp 9) rfl w1.heap.size (zbu zjt) rfl rfl _ _ (heap_alloc_new _ _) (i8w _) rfl (zi2 _) ?_;rw[zbh])|fail)
 obtain⟨W2,hW2⟩:∃W,W=w1.alloc (.cells (zbu zjt) 98):=⟨_,rfl⟩;have c2:New w1 W2:=by rw[hW2];exact(Below.refl _ _).alloc (Nat.le_refl _) _
 have G2:Blk W2 w1.heap.size 98 (zbu (zgv (zfj l) 0)):=by rw[hW2];exact Blk.new _ _ _
 have D2:=Hz (HD1.out.below c2 HD1.out.lt);have B2:=Hz (New.trans HB1.out c2);have hG:w.heap.size<w1.heap.size:=HD1.out.lt;have HG2:=Hz G2;rw[<-hW2];generalize w1.heap.size=G at*;clear hW2 c2 G2 HB1 HD1 e1 e2 e3;go_loopw [5] (fun i wr=>∃k a:Nat,Hid (a=64*k)/\a<=wh/\i= .int .i64 (a:Int)/\Hid (Blk wr G 98 (zbu (zgv (zfj l) k)))/\Hid (Blk wr w.heap.size 35 (za0 .u8 zat).toArray)/\Hid (New w wr)) (fun i _=>wh-(intOf i).toNat)
 case atStart=>exact⟨0,0,Hz rfl,by omega,rfl,HG2,D2,B2⟩
 case round=>
  clear HG2 D2 B2;obtain⟨k,a,HA,ha,rfl,S,D,b⟩:=hrel;by_cases hlt:a<wh
  ·obtain⟨a2,ha2⟩:∃x,x=a+64:=⟨_,rfl⟩
   have hle:a2<=wh:=by have:=HA.out;have:=HW64.out;omega
   have i2:IntKind.i64.wrap ((a:Int)+64)=(a2:Int):=by rw[IntKind.wrap_i64];omega
   have SL:=Hz (fun W:World=>qaq sB zB A l.length c a a2 (by omega) (by omega) W);have hb:=z45 (l:=l) (k:=k) (by rw[<-HA.out];omega);have hb64:(zt9 (zfj l) k).length=64:=zze (by rw[<-HA.out,HML.out];omega);have hb8:=z44 (k:=k) HM8.out;rw[<-HA.out] at hb;have hcut:=fun(W:World) (hW:New w W)=>((Reads.later HR.out hW).cut (k:=a) (cap:=c) (by omega) hc).take (k:=64) (by omega)
   have CELL:=Hz (fun(W:World) (hW:New w W)=>show∃ad,(if c=a then A else A.map (·.add a))=some ad/\ ∀j v,(zao .u8 (zt9 (zfj l) k))[j]? =some v->W.cell? (ad.add j)=some v by obtain⟨ad,h1,_,h3⟩:=(hcut W hW).2 (by omega);rw[Nat.mul_one,Nat.mul_one] at*;rw[zd6,zen,<-hb] at h3;exact⟨ad,h1,h3⟩)
   have HZ:=Hz (show a2-a=64 by omega);generalize(if c=a then A else A.map (·.add a))=AA at*;have SL2:=Hz (fun W:World=>(show(Instr.sliceAt 24 (.slice A l.length c) (some (.int .i64 (a:Int))) (some (.int .i64 (a2:Int))) none).run Tryz.prog W= .ok (.slice AA 64 (c-a)) W by have:=SL.out W;rwa[HZ.out] at this));have HB64:=Hz hb64;have HB8:=Hz hb8;have CP:=Hz (fun(W:World) (hW:New w W)=>zmq (w:=W) (zgv (zfj l) k) (zzd _ _) (zt9 (zfj l) k) hb64 hb8 (HC.out.new hW));have hst:z1o (zgv (zfj l) k) (zt9 (zfj l) k)=zgv (zfj l) (k+1):=rfl;rw[hst] at CP;clear hb hb64 hb8 hcut hst SL;obtain⟨ad,rfl,_⟩:=CELL.out wr b.out;have CL:=Hz (fun(W:World) (hW:New w W)=>show∀j v,(zao .u8 (zt9 (zfj l) k))[j]? =some v->W.cell? (ad.add j)=some v by obtain⟨ad2,h1,h2⟩:=CELL.out W hW;obtain rfl:=Option.some.inj h1;exact h2)
   have HA2:=Hz ha2;clear CELL ha2;go_wp2
   refine zcs New 9 [(0,0),(1,1),(1,2),(1,3),(1,4),(1,5),(1,6),(0,7),(2,8),(2,9)]
    New.refl New.trans (by kernel_rfl) (by kernel_rfl) (by kernel_rfl) (by kernel_rfl) ?_
   have hU:=New.trans b.out (New.drew wr);refine zct rfl rfl (v:= .agg (zbu (zgv (zfj l) k))) (fun W hW=>zdu rfl (S.out.below (New.trans (New.drew wr) hW) S.out.lt) qeb rfl (i8w _)) ?_;simp only[Act.put,List.setIfInBounds_toArray,List.set_cons_zero,List.set_cons_succ];iterate 4 (
    refine zb1 rfl rfl (v:=?_) (fun W=>?_) ?_;rotate_left
    ·go_simp<;> with_reducible rfl
    simp only[Act.put,List.setIfInBounds_toArray,List.set_cons_zero,List.set_cons_succ])
   refine zb1 rfl rfl (v:= .slice (some ad) 64 (c-a)) (fun W=>zlv (SL2.out W)) ?_;simp only[Act.put,List.setIfInBounds_toArray,List.set_cons_zero,List.set_cons_succ];refine zb1 rfl rfl (v:= .pointer (some ad)) (fun W=>zms rfl qar (Nat.le_refl _)) ?_;simp only[Act.put,List.setIfInBounds_toArray,List.set_cons_zero,List.set_cons_succ];refine zct rfl rfl (v:= .agg (zao .u8 (zt9 (zfj l) k)).toArray) (fun W hW=>zmr rfl (CL.out W (New.trans hU hW)) qar rfl (qj7 HB64.out)) ?_;simp only[Act.put,List.setIfInBounds_toArray,List.set_cons_zero,List.set_cons_succ];refine zbf rfl rfl (fun K hK=>?_);go_simp
   (with_reducible refine(CP.out _ hU).mono ?_)
   rintro e9 w9 ⟨rfl,c9⟩;refine hK _ _ (.inr (.inr c9)) ?_;clear hK;have hN:=New.trans (New.drew wr) c9;have S9:=S.out.below hN S.out.lt;have D9:=D.out.below hN D.out.lt;have b9:=New.trans hU c9;refine zbf rfl rfl (fun K hK=>?_);refine wp_store_row 98 (.tmp 3) (.tmp 29) rfl G (zbu (zgv (zfj l) (k+1))) rfl rfl _ _ (zaz S9) (i8w _) rfl (zi2 _) ?_;refine hK _ _ (.inr (.inl rfl)) ?_;clear hK;refine zf2 ?_;have hF:=zbo (g:=G) w9 (zbu (zgv (zfj l) (k+1)));have S10:=Hz (zbg S9 (zbu (zgv (zfj l) (k+1))));have D10:=Hz (D9.grown hF (by simp;omega));have B10:=Hz (New.far b9 hF (by omega));have HA3:=Hz (show a2=64*(k+1) by rw[HA2.out,HA.out];omega);have e4:(a:Int)+64=(a2:Int):=by have:=HA2.out;omega
   clear S9 D9 b9 hN hU hF i2 CP CL SL2 c9;go_wp2
   go_roundw
   case rel=>exact⟨k+1,a2,HA3,hle,rfl,S10,D10,B10⟩
   case measure=>simp[intOf];omega
  ·have haw:a=wh:=by omega
   have HK:=Hz (show wh=64*k by rw[<-haw];exact HA.out);subst haw;have SL:=Hz (fun W:World=>z5a sB zB A l.length c a hwl W);have hcut:=(Reads.later HR.out b.out).cut (k:=a) (cap:=c) hwl hc;rw[Nat.mul_one,zd6] at hcut;generalize(if c=a then A else A.map (·.add a))=A3 at*;have hPO:qfi (l.length:Int)=zt7 l.length:=by unfold qfi;rw[if_pos (by omega),Int.toNat_natCast]
   have hpl:(zt7 l.length).length<=72:=by rw[znh];unfold zf1;omega
   have PD:=Hz (fun W:World=>qfj (w:=W) (l.length:Int));rw[hPO] at PD;have hdl:(l.drop a).length=l.length-a:=List.length_drop;have hnl:(zfj l).drop a=l.drop a++zt7 l.length:=by unfold zfj;rw[List.drop_append_of_le_length hwl]
   have HNL:=Hz hnl;have HCUT:=Hz hcut;have z0:=b.out.size;have HPL2:=Hz hpl;have HDL:=Hz hdl;clear hcut hPO hnl hpl hdl HPL;go_wp2_with (first
    |(refine zmt rfl 24 (.tmp 30) (some (.tmp 31)) none none rfl (SL.out wr) ?_)
    |(refine zam elB rfl (.const (.slice none 0 0)) (.tmp 32) rfl (W:=w) (B:=w.heap.size) (base:=w.heap.size) (l:=[]) Own.nil_ HCUT.out rfl rfl b.out (Nat.le_refl _) z0 (by omega) (by simp only[maxLen];omega) ?_
      intro A8 c8 w8 _ _ o8 g8 b8 _))
   have S8:=Hz (S.out.grown g8 (by simp[Value.ownBlock]));have D8:=Hz (D.out.grown g8 (by simp[Value.ownBlock]));rw[List.nil_append,Nat.zero_add] at o8;have O8:=Hz o8;have B8:=Hz b8;clear g8 o8 b8 z0 S D;refine(PD.out _).mono ?_;rintro e w9 ⟨A9,n9,c9,rfl,o9,b9⟩;have r9:=o9.reads;obtain rfl:=r9.len;have o89:=O8.out.later b9;have S9:=Hz (S8.out.below b9 S8.out.lt);have D9:=Hz (D8.out.below b9 D8.out.lt);have b09:=New.trans B8.out b9;have z9:=b09.size;have hsum:l.length-a+(zt7 l.length).length<=10000100:=by have:=HPL2.out;omega
   clear o9 PD SL HCUT O8 B8 S8 D8 b9
   go_wp2_with (refine zam elB rfl (.tmp 33) (.tmp 36) rfl (W:=w) (B:=w.heap.size) (base:=w.heap.size) o89 r9 rfl rfl b09 (Nat.le_refl _) z9 (by omega) (by simp only[maxLen];omega) ?_
                intro A10 c10 w10 hc10 _ o10 g10 b10 _)
   have S10:=Hz (S9.out.push o89 g10 (by decide));have D10:=Hz (D9.out.push o89 g10 (by decide));rw[<-HNL.out,show(zfj l).drop a=(zfj l).drop (64*k) by rw[HK.out]] at o10;have T10:=Hz (TR.of_own o10);have B10:=Hz b10;have HM:=Hz (show l.length-a+(zt7 l.length).length=(zfj l).length-64*k by rw[HML.out,<-HK.out];omega);have HKL:=Hz (show 64*k<=(zfj l).length by rw[HML.out,<-HK.out];omega);have hs2:l.length-a+(zt7 l.length).length<=c10:=by omega
   have hcm:c10<=maxLen:=by assumption
   generalize l.length-a+(zt7 l.length).length=m10 at*;clear o89 r9 g10 b09 b10 z9 o10 S9 D9 HNL hsum hwl HPL2 HDL;have HM2:=Hz (show m10=(zfj l).length-64*k from HM.out);clear HM HA HK;go_loopw [6] (fun v wr=>∃(k m c:Nat) (A:Option Addr),Hid (m=(zfj l).length-64*k)/\Hid (64*k<=(zfj l).length)/\v= .slice A m c/\m<=c/\Hid (TR wr 5 A m (zao .u8 ((zfj l).drop (64*k))))/\Hid (Blk wr G 98 (zbu (zgv (zfj l) k)))/\Hid (Blk wr w.heap.size 35 (za0 .u8 zat).toArray)/\Hid (New w wr)) (fun v _=>lenOf v)
   case atStart=>exact⟨k,m10,c10,A10,HM2,HKL,rfl,hs2,T10,S10,D10,B10⟩
   case round=>
    clear HM2 HKL T10 S10 D10 B10;obtain⟨k,m,c,A,HM,HKL,rfl,hmc,T,S,D,b⟩:=hrel;by_cases hlt:64<=m
    ·have hm2:64*k+64<=(zfj l).length:=by have:=HM.out;have:=HKL.out;omega
     have hb64:(zt9 (zfj l) k).length=64:=zze hm2;have hb8:=z44 (k:=k) HM8.out;have SLH:=Hz (fun W:World=>show(Instr.sliceAt 24 (.slice A m c) none (some (.int .i64 64)) none).run Tryz.prog W= .ok (.slice A 64 c) W from qfl sB zB A m c 64 (by omega) W);have SLL:=Hz (fun W:World=>show(Instr.sliceAt 24 (.slice A m c) (some (.int .i64 64)) none none).run Tryz.prog W= .ok (.slice (if c=64 then A else A.map (·.add 64)) (m-64) (c-64)) W from z5a sB zB A m c 64 hlt W);have hcut:=T.out.cut (k:=64) (cap:=c) hlt hmc;rw[zd6,List.drop_drop,show 64*k+64=64*(k+1) by omega] at hcut;generalize(if c=64 then A else A.map (·.add 64))=A' at*;have HCUT:=Hz hcut;obtain⟨ad,rfl,_⟩:=T.out.1.2 (by omega);have CL:=Hz (fun(W:World) (hW:New wr W)=>show∀j v,(zao .u8 (zt9 (zfj l) k))[j]? =some v->W.cell? (ad.add j)=some v by have h2:=((T.out.below hW).1.take (k:=64) hlt);rw[Nat.mul_one,zen] at h2;obtain⟨ad2,e2,_,h3⟩:=h2.2 (by omega);obtain rfl:=Option.some.inj e2;exact h3)
     have HB64:=Hz hb64;have CP:=Hz (fun(W:World) (hW:New w W)=>zmq (w:=W) (zgv (zfj l) k) (zzd _ _) (zt9 (zfj l) k) hb64 hb8 (HC.out.new hW));have hst:z1o (zgv (zfj l) k) (zt9 (zfj l) k)=zgv (zfj l) (k+1):=rfl;rw[hst] at CP;have HM3:=Hz (show m-64=(zfj l).length-64*(k+1) by have:=HM.out;omega);have HKL3:=Hz (show 64*(k+1)<=(zfj l).length by omega);clear hb64 hb8 hcut hst hm2 HM HKL;go_wp2
     refine zcs New 6 [(0,0),(1,1),(1,2),(1,3),(0,4),(2,5),(2,6)]
      New.refl New.trans (by kernel_rfl) (by kernel_rfl) (by kernel_rfl) (by kernel_rfl) ?_
     have hU:=New.trans b.out (New.drew wr);refine zct rfl rfl (v:= .agg (zbu (zgv (zfj l) k))) (fun W hW=>zdu rfl (S.out.below (New.trans (New.drew wr) hW) S.out.lt) qeb rfl (i8w _)) ?_;simp only[Act.put,List.setIfInBounds_toArray,List.set_cons_zero,List.set_cons_succ];refine zb1 rfl rfl (v:=?_) (fun W=>?_) ?_;rotate_left
     ·go_simp<;> with_reducible rfl
     simp only[Act.put,List.setIfInBounds_toArray,List.set_cons_zero,List.set_cons_succ];refine zb1 rfl rfl (v:= .slice (some ad) 64 c) (fun W=>zlv (SLH.out W)) ?_;simp only[Act.put,List.setIfInBounds_toArray,List.set_cons_zero,List.set_cons_succ];refine zb1 rfl rfl (v:= .pointer (some ad)) (fun W=>zms rfl qar (Nat.le_refl _)) ?_;simp only[Act.put,List.setIfInBounds_toArray,List.set_cons_zero,List.set_cons_succ];refine zct rfl rfl (v:= .agg (zao .u8 (zt9 (zfj l) k)).toArray) (fun W hW=>zmr rfl (CL.out W (New.trans (New.drew wr) hW)) qar rfl (qj7 HB64.out)) ?_;simp only[Act.put,List.setIfInBounds_toArray,List.set_cons_zero,List.set_cons_succ];refine zbf rfl rfl (fun K hK=>?_);go_simp
     (with_reducible refine(CP.out _ hU).mono ?_)
     rintro e9 w9 ⟨rfl,c9⟩;refine hK _ _ (.inr (.inr c9)) ?_;clear hK;have hN:=New.trans (New.drew wr) c9;have S9:=S.out.below hN S.out.lt;have D9:=D.out.below hN D.out.lt;have T9:=HCUT.out.below hN;have b9:=New.trans hU c9;refine zbf rfl rfl (fun K hK=>?_);refine wp_store_row 98 (.tmp 3) (.tmp 46) rfl G (zbu (zgv (zfj l) (k+1))) rfl rfl _ _ (zaz S9) (i8w _) rfl (zi2 _) ?_;refine hK _ _ (.inr (.inl rfl)) ?_;clear hK;refine zf2 ?_;have hF:=zbo (g:=G) w9 (zbu (zgv (zfj l) (k+1)));have S10:=Hz (zbg S9 (zbu (zgv (zfj l) (k+1))));have D10:=Hz (D9.grown hF (by simp;omega));have T10:=Hz (T9.keep hF S9 (by decide));have B10:=Hz (New.far b9 hF (by omega));clear S9 D9 T9 b9 hN hU hF CP CL SLH c9 HCUT;go_wp2_with (refine zmt rfl 24 (.tmp 47) (some (.const (.int .i64 64))) none none rfl (SLL.out _) ?_)
     go_roundw
     case rel=>exact⟨k+1,m-64,c-64,A',HM3,HKL3,rfl,by omega,T10,S10,D10,B10⟩
     case measure=>simp[lenOf];omega
    ·have hk:zgv (zfj l) k=zua l:=by
      unfold zua;congr 1
      have:=HM.out;have:=HKL.out;have:=HMM.out;omega
     rw[hk] at S;clear hk T HM HKL;obtain⟨W5,hW5⟩:∃W,W=wr.alloc (.cells (za0 .u8 zat).toArray 35):=⟨_,rfl⟩;have c5:New wr W5:=by rw[hW5];exact(Below.refl _ _).alloc (Nat.le_refl _) _
     have E5:Blk W5 wr.heap.size 35 (za0 .u8 (zsd ((zud (zua l)).take 0))).toArray:=by rw[hW5];exact Blk.new _ _ _
     have S5:=Hz (S.out.below c5 S.out.lt);have D5:=Hz (D.out.below c5 D.out.lt);have B5:=Hz (New.trans b.out c5);have HE5:=Hz E5;have hGE:G<wr.heap.size:=S.out.lt;have HW5:=Hz (show wr.alloc (.cells (za0 .u8 zat).toArray 35)=W5 from hW5.symm);clear c5 E5 S D b hW5;go_wp2
     have hW:=HW5.out;rw[show(za0 .u8 zat).toArray= #[.int .u8 0,.int .u8 0,.int .u8 0,.int .u8 0,.int .u8 0,.int .u8 0,.int .u8 0,.int .u8 0,.int .u8 0,.int .u8 0,.int .u8 0,.int .u8 0,.int .u8 0,.int .u8 0,.int .u8 0,.int .u8 0,.int .u8 0,.int .u8 0,.int .u8 0,.int .u8 0,.int .u8 0,.int .u8 0,.int .u8 0,.int .u8 0,.int .u8 0,.int .u8 0,.int .u8 0,.int .u8 0,.int .u8 0,.int .u8 0,.int .u8 0,.int .u8 0] from rfl] at hW;rw[hW];clear hW HW5;have hE0:w.heap.size<wr.heap.size:=by have:=HE5.out.lt;omega
     generalize wr.heap.size=E at*;go_loopw [49] (fun i wr=>∃k:Nat,k<=32/\i= .int .i64 (k:Int)/\Hid (Blk wr E 35 (za0 .u8 (zsd ((zud (zua l)).take k))).toArray)/\Hid (Blk wr G 98 (zbu (zua l)))/\Hid (Blk wr w.heap.size 35 (za0 .u8 zat).toArray)/\Hid (New w wr)) (fun i _=>32-(intOf i).toNat)
     case atStart=>exact⟨0,by omega,rfl,HE5,S5,D5,B5⟩
     case round=>
      clear HE5 S5 D5 B5;obtain⟨k,hk,rfl,T,S,D,b⟩:=hrel;by_cases hlk:k<32
      ·obtain⟨q,hq⟩:∃x,x=k/4:=⟨_,rfl⟩
       obtain⟨r4,hr4⟩:∃x,x=k%4:=⟨_,rfl⟩;obtain⟨sh,hsh⟩:∃x,x=24-r4*8:=⟨_,rfl⟩;have i1:(k:Int)/4=(q:Int):=by omega
       have i2:(k:Int).tdiv 4=(q:Int):=by rw[Int.tdiv_eq_ediv_of_nonneg (by omega)];omega
       have i3:(k:Int)%4=(r4:Int):=by omega
       have i4:(k:Int).tmod 4=(r4:Int):=by rw[Int.tmod_eq_emod_of_nonneg (by omega)];omega
       have i5:(24:Int)-(r4:Int)*8=(sh:Int):=by omega
       have j1:(q:Int)<8:=by omega
       have j2:(k:Int)<32:=by omega
       have s1:=S.out;rw[zuc] at s1;have c1:=zfm (i:=q) s1 (by simp[zub];omega);obtain⟨y,hy⟩:∃y,y=qhv (zua l) k:=⟨_,rfl⟩;have v1:(zub (zua l)).getD q 0/2^sh%256=y:=by rw[hy,hsh,hr4,hq];rfl
       have htk:((zud (zua l)).take k).length=k:=by rw[List.length_take,zgj];omega
       have c2:=zfm (i:=k) T.out (by rw[z48 (by rw[htk];omega)];exact hlk);have f2:=T.out.frozen k;have t3:=zsc T.out (i:=k) y;have hset:=z49 (l:=(zud (zua l)).take k) (by rw[htk];exact hlk) y;rw[htk,hy,<-z47 hlk,<-hy] at hset;rw[hset] at t3;have hF:Far E wr (wr.setCell ⟨E,k,none⟩ (.int .u8 y)):=zw4 _ _;have T3:=Hz t3;have S3:=Hz (S.out.grown hF (by simp;omega));have D3:=Hz (D.out.grown hF (by simp;omega));have B3:=Hz (New.far b.out hF (by omega));generalize(zub (zua l)).getD q 0=x at*;have hs24:sh<=24:=by omega
       clear hq hr4 hsh s1 hy htk t3 hset hF T S D b;go_wp2
       go_roundw
       case rel=>exact⟨k+1,by omega,by go_num,T3,S3,D3,B3⟩
       case measure=>simp[intOf];omega
      ·obtain rfl:k=32:=by omega
       have t3:=T.out;rw[List.take_of_length_le (by rw[zgj];omega),z1q (zgj _)] at t3;have hz:(za0 .u8 zat).toArray.size=(za0 .u8 (zud (zua l))).toArray.size:=by simp[za0,zat,zgj]
       have H:=Hz (And.intro (zaz t3) (And.intro (zaz D.out) (And.intro (z99 (zgj (zua l))) (And.intro hz (And.intro (zeo .u8 (zud (zua l))) (zbg D.out (za0 .u8 (zud (zua l))).toArray))))));have bE:=New.far b.out (zbo (g:=w.heap.size) wr (za0 .u8 (zud (zua l))).toArray) (Nat.le_refl _);have BE:=Hz bE;have hS:zud (zua l)=sumI l:=rfl;rw[hS] at H BE;generalize(za0 .u8 (sumI l)).toArray=cs at*;clear t3 hz bE hS T S D b;go_wp2_with (first
        |(refine wpList_load_row rfl 35 (.tmp 7) rfl E rfl _ cs _ _ H.out.1 zcd rfl H.out.2.2.1 ?_)
        |(refine wpList_store_row rfl 35 (.tmp 2) (.tmp 65) rfl w.heap.size cs rfl rfl _ _ H.out.2.1 H.out.2.2.1 H.out.2.2.2.1 H.out.2.2.2.2.1 ?_))
       exact bodyPost_ret (results_cell_row rfl _ _ w.heap.size _ cs (0,0) _ rfl H.out.2.2.2.2.2 zcd rfl H.out.2.2.1) rfl ⟨rfl,BE.out⟩
end Go.Proofs.Y
namespace Go.Hm
open Go Go.RowKit
def zif(p:List Nat):List Nat:=low p.length 8++p
def zbv(s:List Nat)(L:List (List Nat)):List Nat:=s.length::(s++L.length::L.flatMap zif)
def za4(s:List Nat)(L:List (List Nat)):Option (List Nat):=if 1<=s.length/\s.length<=255/\L.length<=255 then some (zbv s L) else none
def z5f(b:List Nat):Option (List Nat × List Nat):=
 if 8<=b.length/\num (b.take 8)<=b.length-8 then some ((b.drop 8).take (num (b.take 8)),b.drop (8+num (b.take 8))) else none
def zzi:Nat->List Nat->Option (List (List Nat) × List Nat)
 |0,b=>some ([],b)
 |k+1,b=>(z5f b).bind fun p=>(zzi k p.2).map fun q=>(p.1::q.1,q.2)
def qec(b:List Nat):Option (List Nat × List (List Nat)):=
 if 2<=b.length/\b.getD 0 0≠0/\2+b.getD 0 0<=b.length then
  (zzi (b.getD (1+b.getD 0 0) 0) (b.drop (2+b.getD 0 0))).bind fun q=>if q.2=[] then some ((b.drop 1).take (b.getD 0 0),q.1) else none
 else none
theorem zob(p:List Nat):(zif p).length=8+p.length:=by simp[zif,za6]
theorem qau{p:List Nat}(h:∀x∈p,x<256):∀x∈zif p,x<256:=by
 intro x hx;rcases List.mem_append.1 hx with hx|hx
 ·exact zg0 _ _ x hx
 ·exact h x hx
theorem qav{L:List (List Nat)}(h:∀p∈L,∀x∈p,x<256):∀x∈L.flatMap zif,x<256:=by intro x hx;obtain⟨p,hp,hx⟩:=List.mem_flatMap.1 hx;exact qau (h p hp) x hx
theorem zf3{s:List Nat}{L:List (List Nat)}{f:List Nat}(hs:∀x∈s,x<256)(hL:∀p∈L,∀x∈p,x<256)(h:za4 s L=some f):∀x∈f,x<256:=by
 unfold za4 at h;split at h
 ·rename_i hc
  obtain rfl:=Option.some.inj h;intro x hx;simp only[zbv,List.mem_cons,List.mem_append] at hx;rcases hx with rfl|hx|rfl|hx
  ·omega
  ·exact hs x hx
  ·omega
  ·exact qav hL x hx
 ·cases h
theorem z5g(L:List (List Nat)):(L.flatMap zif).length=8*L.length+(L.map List.length).sum:=by
 induction L with
 |nil=>rfl
 |cons p L ih=>rw[List.flatMap_cons,List.length_append,ih,zob,List.length_cons,List.map_cons,List.sum_cons];omega
theorem zlx(s:List Nat)(L:List (List Nat)):(zbv s L).length=2+s.length+8*L.length+(L.map List.length).sum:=by simp only[zbv,List.length_cons,List.length_append,z5g];omega
theorem z1r{p r:List Nat}(hp:p.length<18446744073709551616):z5f (zif p++r)=some (p,r):=by
 have h1:(zif p++r).take 8=low p.length 8:=by rw[zif,List.append_assoc,List.take_append_of_le_length (by rw[za6];omega),List.take_of_length_le (by rw[za6];omega)]
 have h2:num (low p.length 8)=p.length:=zhk (by omega);have h3:(zif p++r).drop 8=p++r:=by rw[zif,List.append_assoc,List.drop_append,za6,List.drop_of_length_le (by rw[za6];omega)];simp
 have h4:(zif p++r).drop (8+p.length)=r:=by rw[<-List.drop_drop,h3];simp
 unfold z5f;rw[h1,h2,if_pos ⟨by rw[List.length_append,zob];omega,by rw[List.length_append,zob];omega⟩,h3,h4];simp
theorem z1s{L:List (List Nat)}(h:∀p∈L,p.length<18446744073709551616)(r:List Nat):zzi L.length (L.flatMap zif++r)=some (L,r):=by
 induction L with
 |nil=>rfl
 |cons p L ih=>
  rw[List.length_cons,zzi,List.flatMap_cons,List.append_assoc,z1r (h p (by simp)),Option.bind_some,ih fun q hq=>h q (by simp[hq])];rfl
theorem zoc{s:List Nat}{L:List (List Nat)}{f:List Nat}(hL:∀p∈L,p.length<18446744073709551616)(h:za4 s L=some f):qec f=some (s,L):=by
 unfold za4 at h;split at h
 ·rename_i hc
  obtain rfl:=Option.some.inj h;have h0:(zbv s L).getD 0 0=s.length:=rfl;have h1:(zbv s L).getD (1+s.length) 0=L.length:=by rw[Nat.add_comm];simp[zbv,List.getD_eq_getElem?_getD]
  have h2:(zbv s L).drop (2+s.length)=L.flatMap zif:=by rw[show 2+s.length=s.length+1+1 by omega];simp[zbv,List.drop_append]
  have h3:((zbv s L).drop 1).take s.length=s:=by simp[zbv]
  have hb:=z1s hL [];rw[List.append_nil] at hb;unfold qec;rw[h0,h1,h2,h3,if_pos ⟨by rw[zlx];omega,by omega,by rw[zlx];omega⟩,hb];rfl
 ·cases h
theorem zod{s t:List Nat}{L M:List (List Nat)}{f g:List Nat}(hL:∀p∈L,p.length<18446744073709551616)(hM:∀p∈M,p.length<18446744073709551616)(h:za4 s L=some f)(k:za4 t M=some g):f=g↔s=t/\L=M:=by
 constructor
 ·rintro rfl
  have h1:=zoc hL h;rw[zoc hM k] at h1;simp only[Option.some.injEq,Prod.mk.injEq] at h1;exact⟨h1.1.symm,h1.2.symm⟩
 ·rintro⟨rfl,rfl⟩
  rw[h] at k;exact Option.some.inj k
def zee(s:List Nat)(L:List (List Nat)):List Int:=((za4 s L).map sumI).getD (List.replicate 32 0)
theorem zkl(s:List Nat)(L:List (List Nat)):(zee s L).length=32:=by
 unfold zee;cases za4 s L with
 |none=>simp
 |some f=>exact zgj _
def zcu(A B:List (List Nat)):Option (List Nat × List Nat):=A.findSome? fun x=>(B.find? fun y=>decide (x≠y/\sumI x=sumI y)).map fun y=>(x,y)
abbrev zdd:=Option Addr × Nat × List Nat
def zfo(d:zdd):List Value:=[.slice d.1 d.2.2.length d.2.1]
def PartsIn(w:World)(D:List zdd):Prop:=∀d∈D,Reads w w.heap.size 1 d.1 d.2.2.length (zao .u8 d.2.2)/\d.2.2.length<=d.2.1/\d.2.1<=9223372036854775807
theorem PartsIn.later{w w':World}{D:List zdd}(h:PartsIn w D)(hb:New w w'):PartsIn w' D:=fun d hd=>⟨Reads.later (h d hd).1 hb,(h d hd).2⟩
theorem PartsIn.at_{w:World}{D:List zdd}(h:PartsIn w D){k:Nat}(hk:k<D.length):Reads w w.heap.size 1 (D.getD k (none,0,[])).1 (D.getD k (none,0,[])).2.2.length (zao .u8 (D.getD k (none,0,[])).2.2)/\(D.getD k (none,0,[])).2.2.length<=(D.getD k (none,0,[])).2.1/\(D.getD k (none,0,[])).2.1<=9223372036854775807:=by refine h _ ?_;rw[List.getD_eq_getElem?_getD,List.getElem?_eq_getElem hk];exact List.getElem_mem hk
def bytesOf(D:List zdd):List (List Nat):=D.map fun d=>d.2.2
theorem zdm(D:List zdd):(bytesOf D).length=D.length:=by simp[bytesOf]
theorem zeh(D:List zdd)(k:Nat):(bytesOf D).getD k []=(D.getD k (none,0,[])).2.2:=by unfold bytesOf;rw[List.getD_eq_getElem?_getD,List.getElem?_map,List.getD_eq_getElem?_getD];cases D[k]? <;> rfl
structure RowsAt(w:World)(A:Option Addr)(n c:Nat)(D:List zdd):Prop where
 row:Reads w w.heap.size 1 A n (recs zfo D)
 parts:PartsIn w D
 cap:n<=c
theorem RowsAt.later{w w':World}{A:Option Addr}{n c:Nat}{D:List zdd}(h:RowsAt w A n c D)(hb:New w w'):RowsAt w' A n c D:=⟨Reads.later h.row hb,h.parts.later hb,h.cap⟩
theorem RowsAt.len{w:World}{A:Option Addr}{n c:Nat}{D:List zdd}(h:RowsAt w A n c D):n=D.length:=by have:=h.row.1;rw[zau (sz:=1) (fun _=>rfl)] at this;omega
open Go Go.RowKit
def zcv(B:List (List Nat)):Nat->List Int->Option (Int × Int)
 |0,_=>none
 |k+1,d=>
  if d=sumI (B.getD k []) then
   match zcv B k d with
   |none=>some ((k:Int),-1)
   |some p=>if p.2= -1/\B.getD p.1.toNat []≠B.getD k [] then some (p.1,(k:Int)) else some p
  else zcv B k d
def qed(B:List (List Nat))(k:Nat)(d:List Int):Option (Int × Int)->Prop
 |none=>∀i,i<k->sumI (B.getD i [])≠d
 |some p=>∃a,a<k/\p.1=(a:Int)/\sumI (B.getD a [])=d/\(∀i,i<a->sumI (B.getD i [])≠d)/\
  ((p.2= -1/\ ∀i,i<k->sumI (B.getD i [])=d->B.getD i []=B.getD a [])\/
    ∃b,b<k/\p.2=(b:Int)/\sumI (B.getD b [])=d/\B.getD b []≠B.getD a []/\ ∀i,i<b->sumI (B.getD i [])=d->B.getD i []=B.getD a [])
theorem zoe(B:List (List Nat))(k:Nat)(d:List Int):qed B k d (zcv B k d):=by
 induction k with
 |zero=>intro i hi;omega
 |succ k ih=>
  rw[zcv];by_cases hd:d=sumI (B.getD k [])
  ·rw[if_pos hd]
   cases hp:zcv B k d with
   |none=>
    rw[hp] at ih;refine⟨k,by omega,rfl,hd.symm,ih,.inl ⟨rfl,fun i hi he=>?_⟩⟩;by_cases hik:i=k
    ·rw[hik]
    ·exact absurd he (ih i (by omega))
   |some p=>
    rw[hp] at ih;obtain⟨a,ha,h1,h2,h3,h4⟩:=ih;show qed B (k+1) d (if _ then _ else _);have hat:p.1.toNat=a:=by rw[h1];rfl
    rw[hat];by_cases hc:p.2= -1/\B.getD a []≠B.getD k []
    ·rw[if_pos hc]
     refine⟨a,by omega,h1,h2,h3,.inr ⟨k,by omega,rfl,hd.symm,fun e=>hc.2 e.symm,fun i hi he=>?_⟩⟩;rcases h4 with⟨_,h5⟩|⟨b,hb,hb2,_⟩
     ·exact h5 i hi he
     ·rw[hb2] at hc;omega
    ·rw[if_neg hc]
     refine⟨a,by omega,h1,h2,h3,?_⟩;rcases h4 with⟨h5,h6⟩|⟨b,hb,h5,h6,h7,h8⟩
     ·refine .inl ⟨h5,fun i hi he=>?_⟩
      by_cases hik:i=k
      ·rw[hik]
       by_cases heq:B.getD a []=B.getD k []
       ·exact heq.symm
       ·exact absurd ⟨h5,heq⟩ hc
      ·exact h6 i (by omega) he
     ·exact .inr ⟨b,by omega,h5,h6,h7,h8⟩
  ·rw[if_neg hd]
   cases hp:zcv B k d with
   |none=>
    rw[hp] at ih;intro i hi;by_cases hik:i=k
    ·rw[hik]
     exact fun e=>hd e.symm
    ·exact ih i (by omega)
   |some p=>
    rw[hp] at ih;obtain⟨a,ha,h1,h2,h3,h4⟩:=ih;refine⟨a,by omega,h1,h2,h3,?_⟩;rcases h4 with⟨h5,h6⟩|⟨b,hb,h5,h6,h7,h8⟩
    ·refine .inl ⟨h5,fun i hi he=>?_⟩
     by_cases hik:i=k
     ·rw[hik] at he
      exact absurd he.symm hd
     ·exact h6 i (by omega) he
    ·exact .inr ⟨b,by omega,h5,h6,h7,h8⟩
theorem z5h{α:Type}{B:List α}{d:α}{p:α->Bool}{i:Nat}(hi:i<B.length)(hp:p (B.getD i d)=true)(hn:∀j,j<i->p (B.getD j d)=false):B.find? p=some (B.getD i d):=by
 induction B generalizing i with
 |nil=>simp at hi
 |cons x B ih=>
  cases i with
  |zero=>rw[List.find?_cons_of_pos (by simpa using hp)];rfl
  |succ i=>
   have h0:p x=false:=hn 0 (by omega);rw[List.find?_cons_of_neg (by simp[h0])];exact ih (by simpa using hi) hp fun j hj=>hn (j+1) (by omega)
theorem z5i{α:Type}{B:List α}{d:α}{p:α->Bool}(hn:∀j,j<B.length->p (B.getD j d)=false):B.find? p=none:=by rw[List.find?_eq_none];intro x hx;obtain⟨i,hi,rfl⟩:=List.getElem_of_mem hx;have:=hn i hi;rw[List.getD_eq_getElem?_getD,List.getElem?_eq_getElem hi,Option.getD_some] at this;simp[this]
theorem z1t(B:List (List Nat))(x:List Nat):
 (B.find? fun y=>decide (x≠y/\sumI x=sumI y))=(match zcv B B.length (sumI x) with
  |none=>none
  |some p=>if x≠B.getD p.1.toNat [] then some (B.getD p.1.toNat []) else if p.2≠ -1 then some (B.getD p.2.toNat []) else none):=by
 have h:=zoe B B.length (sumI x);cases hp:zcv B B.length (sumI x) with
 |none=>
  rw[hp] at h;exact z5i (d:=[]) fun j hj=>decide_eq_false fun hc=>h j hj hc.2.symm
 |some p=>
  rw[hp] at h;obtain⟨a,ha,h1,h2,h3,h4⟩:=h;have hat:p.1.toNat=a:=by rw[h1];rfl
  simp only[hat];by_cases hx:x≠B.getD a []
  ·rw[if_pos hx]
   exact z5h ha (decide_eq_true ⟨hx,h2.symm⟩) fun j hj=>decide_eq_false fun hc=>h3 j hj hc.2.symm
  ·rw[if_neg hx]
   have hx:x=B.getD a []:=Classical.not_not.1 hx;rcases h4 with⟨h5,h6⟩|⟨b,hb,h5,h6,h7,h8⟩
   ·rw[if_neg (by rw[h5];simp)]
    exact z5i (d:=[]) fun j hj=>decide_eq_false fun hc=>hc.1 (by rw[h6 j hj hc.2.symm];exact hx)
   ·rw[if_pos (by rw[h5];omega),h5,Int.toNat_natCast]
    exact z5h hb (decide_eq_true ⟨by rw[hx];exact fun e=>h7 e.symm,h6.symm⟩) fun j hj=>decide_eq_false fun hc=>hc.1 (by rw[h8 j hj hc.2.symm];exact hx)
open Go
theorem z8c(b:Bool):decide (boolN b=1)=b:=by cases b<;> decide
def z8d(s:List Nat)(p q:Nat × St):zbc × St:=((s,(p.1:Int),decide (q.1=1)),if 1<q.1 then none else q.2)
theorem z0q(S:St):ztn S=z8d (zer ((lenS 100 S).1:Int) (lenS 100 S).2).1 (zcc (zer ((lenS 100 S).1:Int) (lenS 100 S).2).2) (zcc (zcc (zer ((lenS 100 S).1:Int) (lenS 100 S).2).2).2):=rfl
theorem qc2(c:zbc)(r:List Nat)(h1:c.1.length<=100)(h2:0<=c.2.1):ztn (some (z26 c++r))=(c,some r):=by
 obtain⟨nm,t,u⟩:=c;simp only at h1 h2;obtain⟨t,rfl⟩:=Int.eq_ofNat_of_zero_le h2;have e0:z26 (nm,(t:Int),u)++r=vp nm.length++(nm++(t::boolN u::r)):=by simp[z26]
 have e1:=zdv nm.length (nm++(t::boolN u::r)) (m:=100) (by omega) (by omega);rw[z0q,e0,e1];simp only;rw[zos];have e2:zcc (some (t::boolN u::r))=(t,some (boolN u::r)):=rfl;have e3:zcc (some (boolN u::r))=(boolN u,some r):=rfl;simp only[e2,e3];unfold z8d;simp only;rw[if_neg (by cases u<;> decide),z8c]
theorem zvu:∀(l:List zbc) (r:List Nat),(∀c∈l,c.1.length<=100/\0<=c.2.1)->zel l.length (some (zkd l++r))=(l,some r)
 | [],r,_=>rfl
 |c::l,r,h=>by
  have hc:=h c (by simp);have e:zkd (c::l)++r=z26 c++(zkd l++r):=by simp[zkd]
  rw[e,List.length_cons,zel,qc2 c _ hc.1 hc.2,zvu l r (fun x hx=>h x (by simp[hx]))]
theorem qc3(l:List zbc)(r:List Nat)(h:zcy l=0):getC (some (vp l.length++zkd l++r))=(l,some r):=by obtain⟨h1,h2,_⟩:=(zek l).1 h;unfold getC;rw[List.append_assoc,zdv l.length (zkd l++r) (m:=64) (by omega) (by omega)];simp only;rw[zvu l r (fun c hc=>⟨(h2 c hc).2.1,(h2 c hc).2.2.1⟩)];rw[if_neg (by simp[h])]
theorem zrm{S:St}{b:Nat}{r:List Nat}(h:zcc S=(b,some r)):S=some (b::r):=by
 unfold zcc at h;split at h
 ·simp only[Prod.mk.injEq,Option.some.injEq] at h
  rw[h.1,h.2]
 ·simp at h
theorem z8e{S:St}{c:zbc}{r:List Nat}(hS:S.ok)(h:ztn S=(c,some r)):S=some (z26 c++r):=by
 rw[z0q] at h;rcases zdf 100 S hS with h0|⟨N,r1,h0,hN,_,h1⟩
 ·rw[h0] at h
  simp[z2a,zl3,z8d] at h
 ·rw[h1] at h
  simp only at h;rcases ze4 (N:Int) (some r1) with h2|⟨l,hl,_,h3,h2⟩
  ·rw[h2] at h
   simp[zl3,z8d] at h
  ·rw[h2] at h
   injection hl with hl;subst hl;simp only[Int.toNat_natCast] at h;generalize hb1:zcc (some (r1.drop N))=B1 at*;obtain⟨t,S3⟩:=B1;simp only at h;generalize hb2:zcc S3=B2 at*;obtain⟨u,S4⟩:=B2;unfold z8d at h;simp only[Prod.mk.injEq] at h;obtain⟨hc,hr⟩:=h;split at hr
   ·cases hr
   ·rename_i hu
    subst hr;have e2:=zrm hb2;subst e2;have e1:=zrm hb1;injection e1 with e1;rw[h0];subst hc;have hlen:(r1.take N).length=N:=by rw[List.length_take];omega
    have hbu:boolN (decide (u=1))=u:=by
     have:u=0\/u=1:=by omega
     rcases this with rfl|rfl<;> rfl
    unfold z26;simp only[hlen,Int.toNat_natCast,hbu];rw[List.append_assoc,List.append_assoc];congr 2
    rw[show [t,u]++r=r1.drop N by rw[e1];rfl,List.take_append_drop]
theorem zrn:∀(n:Nat) {S:St} {l:List zbc} {r:List Nat},S.ok->zel n S=(l,some r)->S=some (zkd l++r)
 |0,S,l,r,_,h=>by
  simp only[zel,Prod.mk.injEq] at h;obtain⟨rfl,rfl⟩:=h;rfl
 |n+1,S,l,r,hS,h=>by
  rw[zel] at h;have hok:=zyh hS;generalize hc:ztn S=R at*;obtain⟨c,S1⟩:=R;simp only at h hok;generalize hd:zel n S1=R2 at*;obtain⟨l2,S2⟩:=R2;simp only[Prod.mk.injEq] at h;obtain⟨rfl,rfl⟩:=h;have e:=zrn n hok hd;subst e;rw[z8e hS hc];simp[zkd]
theorem zha{S:St}{l:List zbc}{r:List Nat}(hS:S.ok)(h:getC S=(l,some r)):zcy l=0/\S=some (vp l.length++zkd l++r):=by
 unfold getC at h;rcases zdf 64 S hS with h0|⟨N,r1,h0,hN,_,h1⟩
 ·rw[h0] at h
  simp[zel] at h
 ·rw[h1] at h
  simp only at h;split at h
  ·simp at h
  ·rename_i hn
   have hok:St.ok (some r1):=St.ok_some fun x hx=>hS _ h0 x (by simp[hx])
   have e:=zrn N hok h;injection e with e;have hl:l.length=N:=by rw[<-zlk N (some r1),h]
   rw[h] at hn;refine⟨?_,?_⟩
   ·by_cases hk:zcy l=0
    ·exact hk
    ·exact absurd (.inr hk) hn
   ·rw[h0,hl,e,List.append_assoc]
theorem z8f{S:St}{l:List zbc}(h:getC S=(l,none)):l=[]:=by
 unfold getC at h;split at h
 ·simp at h;exact h
 ·rename_i hn
  rw[h] at hn;simp at hn
theorem z8g(n:Nat):∀x∈vp n,x<256:=by
 induction n using Nat.strongRecOn with
 |_ n ih=>
  intro x hx;by_cases hn:n<128
  ·rw[zfz hn] at hx
   simp at hx;omega
  ·rw[zf0 hn,List.mem_cons] at hx
   rcases hx with rfl|hx
   ·omega
   ·exact ih (n/128) (by omega) x hx
theorem z8h(l:List zbc)(h:∀x∈l,(∀z∈x.1,z<256)/\0<=x.2.1/\x.2.1<=3):∀x∈vp l.length++zkd l,x<256:=by
 intro x hx;rcases List.mem_append.1 hx with hx|hx
 ·exact z8g _ x hx
 ·unfold zkd at hx
  obtain⟨y,hy,hx⟩:=List.mem_flatMap.1 hx;obtain⟨h1,h2,h3⟩:=h y hy;unfold z26 at hx;simp only[List.mem_append,List.mem_cons,List.not_mem_nil,or_false] at hx;rcases hx with(hx|hx)|hx|hx
  ·exact z8g _ x hx
  ·exact h1 x hx
  ·omega
  ·subst hx;cases y.2.2<;> decide
end Go.Hm
