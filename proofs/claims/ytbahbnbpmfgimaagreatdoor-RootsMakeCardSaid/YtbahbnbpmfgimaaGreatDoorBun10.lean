import Derived.Test.YtbahbnbpmfgimaaGreatDoorBun9
set_option maxHeartbeats 2000000
set_option maxRecDepth 100000
namespace Go.Proofs.Y
open Go.RowKit Go.Hm
theorem zsq{w:World}(s:S8)(hs:OkS s)(B:List Nat)(hB:B.length=64)(h8:∀x∈B,x<256):
 Calls Tryz.prog 123 #[.agg (za2 s),.agg (zah .u8 B).toArray] w (zak (.agg (za2 (zsp s B))) w):=by
 obtain⟨W0,hW0⟩:∃W,W=(((w.alloc (.cells (za2 s) 98)).alloc (.cells (zah .u8 B).toArray 101)).alloc (.cells (za2 (0,0,0,0,0,0,0,0)) 98)).alloc (.cells (zap .u32 kI).toArray 148):=⟨_,rfl⟩;have e1:(w.alloc (.cells (za2 s) 98)).heap.size=w.heap.size+1:=by simp
 have e2:((w.alloc (.cells (za2 s) 98)).alloc (.cells (zah .u8 B).toArray 101)).heap.size=w.heap.size+1+1:=by simp
 have b0:New w W0:=by rw[hW0];exact((((qq8 _ _).alloc (ql6 _) _).alloc (by simp) _).alloc (by simp;omega) _).alloc (by simp;omega) _
 have A0:Blk W0 w.heap.size 98 (za2 s):=by rw[hW0];exact(((qrv _ _ _).alloc _).alloc _).alloc _
 have P0:Blk W0 (w.heap.size+1) 101 (zah .u8 B).toArray:=by rw[hW0,<-e1];exact((qrv _ _ _).alloc _).alloc _
 have R0:Blk W0 (w.heap.size+1+1) 98 (za2 (0,0,0,0,0,0,0,0)):=by rw[hW0,<-e2];exact(qrv _ _ _).alloc _
 have e3:(((w.alloc (.cells (za2 s) 98)).alloc (.cells (zah .u8 B).toArray 101)).alloc (.cells (za2 (0,0,0,0,0,0,0,0)) 98)).heap.size=w.heap.size+1+1+1:=by simp
 have K0:Blk W0 (w.heap.size+1+1+1) 148 (zap .u32 kI).toArray:=by rw[hW0,<-e3];exact qrv _ _ _
 have hsz:(zah .u8 B).toArray.size=64:=by simp[zah,hB]
 have hi1:(Tryz.prog.info? 101).map (·.size)=some (zah .u8 B).toArray.size:=by rw[hsz];kernel_rfl
 have L1:=qrf (qok (zaf P0) hi1);have SC:=qrf (fun W:World=>z5j (w:=W) B hB h8);obtain⟨KC,hKC⟩:∃K,K=(#[.int .u32 1116352408,.int .u32 1899447441,.int .u32 3049323471,.int .u32 3921009573,.int .u32 961987163,.int .u32 1508970993,.int .u32 2453635748,.int .u32 2870763221,.int .u32 3624381080,.int .u32 310598401,.int .u32 607225278,.int .u32 1426881987,.int .u32 1925078388,.int .u32 2162078206,.int .u32 2614888103,.int .u32 3248222580,.int .u32 3835390401,.int .u32 4022224774,.int .u32 264347078,.int .u32 604807628,.int .u32 770255983,.int .u32 1249150122,.int .u32 1555081692,.int .u32 1996064986,.int .u32 2554220882,.int .u32 2821834349,.int .u32 2952996808,.int .u32 3210313671,.int .u32 3336571891,.int .u32 3584528711,.int .u32 113926993,.int .u32 338241895,.int .u32 666307205,.int .u32 773529912,.int .u32 1294757372,.int .u32 1396182291,.int .u32 1695183700,.int .u32 1986661051,.int .u32 2177026350,.int .u32 2456956037,.int .u32 2730485921,.int .u32 2820302411,.int .u32 3259730800,.int .u32 3345764771,.int .u32 3516065817,.int .u32 3600352804,.int .u32 4094571909,.int .u32 275423344,.int .u32 430227734,.int .u32 506948616,.int .u32 659060556,.int .u32 883997877,.int .u32 958139571,.int .u32 1322822218,.int .u32 1537002063,.int .u32 1747873779,.int .u32 1955562222,.int .u32 2024104815,.int .u32 2227730452,.int .u32 2361852424,.int .u32 2428436474,.int .u32 2756734187,.int .u32 3204031479,.int .u32 3329325298]:Array Value):=⟨_,rfl⟩;have HKC:=qrf hKC;have HW:=qrf (show W0=(((w.alloc (.cells #[.int .u32 s.1,.int .u32 s.2.1,.int .u32 s.2.2.1,.int .u32 s.2.2.2.1,.int .u32 s.2.2.2.2.1,.int .u32 s.2.2.2.2.2.1,.int .u32 s.2.2.2.2.2.2.1,.int .u32 s.2.2.2.2.2.2.2] 98)).alloc (.cells (zah .u8 B).toArray 101)).alloc (.cells #[.int .u32 0,.int .u32 0,.int .u32 0,.int .u32 0,.int .u32 0,.int .u32 0,.int .u32 0,.int .u32 0] 98)).alloc (.cells KC 148) from(by rw[hKC];exact hW0));have HN:=qrf (show((((w.alloc (.cells #[.int .u32 s.1,.int .u32 s.2.1,.int .u32 s.2.2.1,.int .u32 s.2.2.2.1,.int .u32 s.2.2.2.2.1,.int .u32 s.2.2.2.2.2.1,.int .u32 s.2.2.2.2.2.2.1,.int .u32 s.2.2.2.2.2.2.2] 98)).alloc (.cells (zah .u8 B).toArray 101)).alloc (.cells #[.int .u32 0,.int .u32 0,.int .u32 0,.int .u32 0,.int .u32 0,.int .u32 0,.int .u32 0,.int .u32 0] 98)).alloc (.cells #[.int .u32 0,.int .u32 0,.int .u32 0,.int .u32 0,.int .u32 0,.int .u32 0,.int .u32 0,.int .u32 0,.int .u32 0,.int .u32 0,.int .u32 0,.int .u32 0,.int .u32 0,.int .u32 0,.int .u32 0,.int .u32 0,.int .u32 0,.int .u32 0,.int .u32 0,.int .u32 0,.int .u32 0,.int .u32 0,.int .u32 0,.int .u32 0,.int .u32 0,.int .u32 0,.int .u32 0,.int .u32 0,.int .u32 0,.int .u32 0,.int .u32 0,.int .u32 0,.int .u32 0,.int .u32 0,.int .u32 0,.int .u32 0,.int .u32 0,.int .u32 0,.int .u32 0,.int .u32 0,.int .u32 0,.int .u32 0,.int .u32 0,.int .u32 0,.int .u32 0,.int .u32 0,.int .u32 0,.int .u32 0,.int .u32 0,.int .u32 0,.int .u32 0,.int .u32 0,.int .u32 0,.int .u32 0,.int .u32 0,.int .u32 0,.int .u32 0,.int .u32 0,.int .u32 0,.int .u32 0,.int .u32 0,.int .u32 0,.int .u32 0,.int .u32 0] 148)).heap[w.heap.size+1+1+1]? =some (.cells #[.int .u32 0,.int .u32 0,.int .u32 0,.int .u32 0,.int .u32 0,.int .u32 0,.int .u32 0,.int .u32 0,.int .u32 0,.int .u32 0,.int .u32 0,.int .u32 0,.int .u32 0,.int .u32 0,.int .u32 0,.int .u32 0,.int .u32 0,.int .u32 0,.int .u32 0,.int .u32 0,.int .u32 0,.int .u32 0,.int .u32 0,.int .u32 0,.int .u32 0,.int .u32 0,.int .u32 0,.int .u32 0,.int .u32 0,.int .u32 0,.int .u32 0,.int .u32 0,.int .u32 0,.int .u32 0,.int .u32 0,.int .u32 0,.int .u32 0,.int .u32 0,.int .u32 0,.int .u32 0,.int .u32 0,.int .u32 0,.int .u32 0,.int .u32 0,.int .u32 0,.int .u32 0,.int .u32 0,.int .u32 0,.int .u32 0,.int .u32 0,.int .u32 0,.int .u32 0,.int .u32 0,.int .u32 0,.int .u32 0,.int .u32 0,.int .u32 0,.int .u32 0,.int .u32 0,.int .u32 0,.int .u32 0,.int .u32 0,.int .u32 0,.int .u32 0] 148) by have h:=heap_alloc_new (((w.alloc (.cells #[.int .u32 s.1,.int .u32 s.2.1,.int .u32 s.2.2.1,.int .u32 s.2.2.2.1,.int .u32 s.2.2.2.2.1,.int .u32 s.2.2.2.2.2.1,.int .u32 s.2.2.2.2.2.2.1,.int .u32 s.2.2.2.2.2.2.2] 98)).alloc (.cells (zah .u8 B).toArray 101)).alloc (.cells #[.int .u32 0,.int .u32 0,.int .u32 0,.int .u32 0,.int .u32 0,.int .u32 0,.int .u32 0,.int .u32 0] 98)) (.cells #[.int .u32 0,.int .u32 0,.int .u32 0,.int .u32 0,.int .u32 0,.int .u32 0,.int .u32 0,.int .u32 0,.int .u32 0,.int .u32 0,.int .u32 0,.int .u32 0,.int .u32 0,.int .u32 0,.int .u32 0,.int .u32 0,.int .u32 0,.int .u32 0,.int .u32 0,.int .u32 0,.int .u32 0,.int .u32 0,.int .u32 0,.int .u32 0,.int .u32 0,.int .u32 0,.int .u32 0,.int .u32 0,.int .u32 0,.int .u32 0,.int .u32 0,.int .u32 0,.int .u32 0,.int .u32 0,.int .u32 0,.int .u32 0,.int .u32 0,.int .u32 0,.int .u32 0,.int .u32 0,.int .u32 0,.int .u32 0,.int .u32 0,.int .u32 0,.int .u32 0,.int .u32 0,.int .u32 0,.int .u32 0,.int .u32 0,.int .u32 0,.int .u32 0,.int .u32 0,.int .u32 0,.int .u32 0,.int .u32 0,.int .u32 0,.int .u32 0,.int .u32 0,.int .u32 0,.int .u32 0,.int .u32 0,.int .u32 0,.int .u32 0,.int .u32 0] 148);simp only[World.alloc,qoh] at h⊢;exact h);have HSR:=qrf (fun cs:Array Value=>show((((w.alloc (.cells #[.int .u32 s.1,.int .u32 s.2.1,.int .u32 s.2.2.1,.int .u32 s.2.2.2.1,.int .u32 s.2.2.2.2.1,.int .u32 s.2.2.2.2.2.1,.int .u32 s.2.2.2.2.2.2.1,.int .u32 s.2.2.2.2.2.2.2] 98)).alloc (.cells (zah .u8 B).toArray 101)).alloc (.cells #[.int .u32 0,.int .u32 0,.int .u32 0,.int .u32 0,.int .u32 0,.int .u32 0,.int .u32 0,.int .u32 0] 98)).alloc (.cells #[.int .u32 0,.int .u32 0,.int .u32 0,.int .u32 0,.int .u32 0,.int .u32 0,.int .u32 0,.int .u32 0,.int .u32 0,.int .u32 0,.int .u32 0,.int .u32 0,.int .u32 0,.int .u32 0,.int .u32 0,.int .u32 0,.int .u32 0,.int .u32 0,.int .u32 0,.int .u32 0,.int .u32 0,.int .u32 0,.int .u32 0,.int .u32 0,.int .u32 0,.int .u32 0,.int .u32 0,.int .u32 0,.int .u32 0,.int .u32 0,.int .u32 0,.int .u32 0,.int .u32 0,.int .u32 0,.int .u32 0,.int .u32 0,.int .u32 0,.int .u32 0,.int .u32 0,.int .u32 0,.int .u32 0,.int .u32 0,.int .u32 0,.int .u32 0,.int .u32 0,.int .u32 0,.int .u32 0,.int .u32 0,.int .u32 0,.int .u32 0,.int .u32 0,.int .u32 0,.int .u32 0,.int .u32 0,.int .u32 0,.int .u32 0,.int .u32 0,.int .u32 0,.int .u32 0,.int .u32 0,.int .u32 0,.int .u32 0,.int .u32 0,.int .u32 0] 148)).setRow (w.heap.size+1+1+1) cs=(((w.alloc (.cells #[.int .u32 s.1,.int .u32 s.2.1,.int .u32 s.2.2.1,.int .u32 s.2.2.2.1,.int .u32 s.2.2.2.2.1,.int .u32 s.2.2.2.2.2.1,.int .u32 s.2.2.2.2.2.2.1,.int .u32 s.2.2.2.2.2.2.2] 98)).alloc (.cells (zah .u8 B).toArray 101)).alloc (.cells #[.int .u32 0,.int .u32 0,.int .u32 0,.int .u32 0,.int .u32 0,.int .u32 0,.int .u32 0,.int .u32 0] 98)).alloc (.cells cs 148) by have h:=zbb (((w.alloc (.cells #[.int .u32 s.1,.int .u32 s.2.1,.int .u32 s.2.2.1,.int .u32 s.2.2.2.1,.int .u32 s.2.2.2.2.1,.int .u32 s.2.2.2.2.2.1,.int .u32 s.2.2.2.2.2.2.1,.int .u32 s.2.2.2.2.2.2.2] 98)).alloc (.cells (zah .u8 B).toArray 101)).alloc (.cells #[.int .u32 0,.int .u32 0,.int .u32 0,.int .u32 0,.int .u32 0,.int .u32 0,.int .u32 0,.int .u32 0] 98)) 148 #[.int .u32 0,.int .u32 0,.int .u32 0,.int .u32 0,.int .u32 0,.int .u32 0,.int .u32 0,.int .u32 0,.int .u32 0,.int .u32 0,.int .u32 0,.int .u32 0,.int .u32 0,.int .u32 0,.int .u32 0,.int .u32 0,.int .u32 0,.int .u32 0,.int .u32 0,.int .u32 0,.int .u32 0,.int .u32 0,.int .u32 0,.int .u32 0,.int .u32 0,.int .u32 0,.int .u32 0,.int .u32 0,.int .u32 0,.int .u32 0,.int .u32 0,.int .u32 0,.int .u32 0,.int .u32 0,.int .u32 0,.int .u32 0,.int .u32 0,.int .u32 0,.int .u32 0,.int .u32 0,.int .u32 0,.int .u32 0,.int .u32 0,.int .u32 0,.int .u32 0,.int .u32 0,.int .u32 0,.int .u32 0,.int .u32 0,.int .u32 0,.int .u32 0,.int .u32 0,.int .u32 0,.int .u32 0,.int .u32 0,.int .u32 0,.int .u32 0,.int .u32 0,.int .u32 0,.int .u32 0,.int .u32 0,.int .u32 0,.int .u32 0,.int .u32 0] cs;simp only[World.alloc,qoh] at h⊢;exact h);have HA:=qrf A0;have HP:=qrf P0;have HR:=qrf R0;have HB:=qrf b0;have HK:=qrf K0;clear hW0 hKC e1 e2 e3 A0 P0 R0 K0 b0 hi1 hsz;have HS:=qrf hs;have h0:=L1.out;rw[HW.out] at h0;have L0:=qrf h0;have hcs:(zap .u32 (zbk B)).toArray.size=64:=by simp[zap,zi7]
 have hi2:(Tryz.prog.info? 148).map (·.size)=some (zap .u32 (zbk B)).toArray.size:=by rw[hcs];kernel_rfl
 have CS:=qrf (qok hcs (qok hi2 (zcs .u32 (zbk B))));have SU:=qrf (zzr B h8);have SL:=qrf (zi7 B);rw[show(.agg (za2 s):Value)= .agg #[.int .u32 s.1,.int .u32 s.2.1,.int .u32 s.2.2.1,.int .u32 s.2.2.2.1,.int .u32 s.2.2.2.2.1,.int .u32 s.2.2.2.2.2.1,.int .u32 s.2.2.2.2.2.2.1,.int .u32 s.2.2.2.2.2.2.2] from rfl];clear L1 h0 hcs hi2 hB h8 hs;go_enter Tryz.func123,Tryz.ntmps123
 go_wp2_with (first
  |(refine wpList_store_row rfl 148 (.tmp 5) (.tmp 18) rfl (w.heap.size+1+1+1) _ rfl rfl _ _ HN.out (by kernel_rfl) rfl (by kernel_rfl) ?_;rw[HSR.out,<-HKC.out])
  |refine wpList_load_row rfl 101 (.tmp 3) rfl (w.heap.size+1) rfl _ (zah .u8 B).toArray _ _ L0.out.1 (show Tryz.prog.underlying 101=some (.array 64 5) by kernel_rfl) rfl L0.out.2 ?_)
 rw[<-HW.out];refine(SC.out _).mono ?_;rintro e w1 ⟨rfl,b1⟩;clear SC HW L0 HP;go_wp2_with (refine wpList_store_row rfl 148 (.tmp 6) (.tmp 20) rfl w1.heap.size (zap .u32 (zbk B)).toArray rfl rfl _ _ (heap_alloc_new _ _) CS.out.2.1 (by rw[CS.out.1];rfl) CS.out.2.2 ?_;rw[zbb])
 obtain⟨W2,hW2⟩:∃W,W=w1.alloc (.cells (zap .u32 (zbk B)).toArray 148):=⟨_,rfl⟩;have b2:New W0 W2:=by rw[hW2];exact qr0 b1 ((qq8 _ _).alloc (ql6 _) _)
 have C2:Blk W2 w1.heap.size 148 (zap .u32 (zbk B)).toArray:=by rw[hW2];exact qrv _ _ _
 rw[<-hW2];have F:=qrf (fun(W:World) (hW:New W2 W)=>qe0 (HA.out.below (qr0 b2 hW) HA.out.lt));have FK:=qrf (fun(t:Nat) (ht:t<64) (W:World) (hW:New W2 W)=>qok (zcr (i:=t) (HK.out.below (qr0 b2 hW) HK.out.lt) (show t<kI.length from ht)) (zcr (i:=t) (C2.below hW C2.lt) (by rw[SL.out];exact ht)));have HR2:=qrf (HR.out.below b2 HR.out.lt);have HB2:=qrf (qr0 HB.out b2);generalize hgc:w1.heap.size=gc at*;clear hgc hW2 b1 b2 C2 HA HR HB HK CS;refine zaw New [(true,0),(true,1),(true,2),(true,3),(true,4),(true,5),(true,6),(true,7),(true,8),(true,9),(true,10),(true,11)]
  qrz qr0 (by kernel_rfl) (by kernel_rfl) (by kernel_rfl) (by kernel_rfl) ?_
 iterate 12 (
  refine zaj rfl rfl (v:=?_) (fun W hW=>?_) ?_;rotate_left
  ·obtain⟨x0,x1,x2,x3,x4,x5,x6,x7⟩:=F.out W (qr0 (qr1 W2) hW)
   go_simp<;> with_reducible rfl
  simp only[Act.put,qoi,qn8,qoj])
 refine zda ?_;go_wp2
 have hD:New W2 W2.drew:=qr1 W2;refine zaw New [(true,0),(true,1),(true,2),(true,3),(true,4),(true,5),(true,6),(true,7),(true,8),(true,9),(true,10),(true,11)]
  qrz qr0 (by kernel_rfl) (by kernel_rfl) (by kernel_rfl) (by kernel_rfl) ?_
 iterate 12 (
  refine zaj rfl rfl (v:=?_) (fun W hW=>?_) ?_;rotate_left
  ·obtain⟨x0,x1,x2,x3,x4,x5,x6,x7⟩:=F.out W (qr0 (qr0 hD (qr1 _)) hW)
   go_simp<;> with_reducible rfl
  simp only[Act.put,qoi,qn8,qoj])
 refine zda ?_;go_wp2
 go_loopw [7,8,9,10,11,12,13,14,15] (fun a b c d e f g i k wr=>∃t:Nat,t<=64/\k= .int .i64 (t:Int)/\a= .int .u32 (zcw (zbk B) s t).1/\b= .int .u32 (zcw (zbk B) s t).2.1/\c= .int .u32 (zcw (zbk B) s t).2.2.1/\d= .int .u32 (zcw (zbk B) s t).2.2.2.1/\e= .int .u32 (zcw (zbk B) s t).2.2.2.2.1/\f= .int .u32 (zcw (zbk B) s t).2.2.2.2.2.1/\g= .int .u32 (zcw (zbk B) s t).2.2.2.2.2.2.1/\i= .int .u32 (zcw (zbk B) s t).2.2.2.2.2.2.2/\New W2 wr) (fun _ _ _ _ _ _ _ _ k _=>64-(intOf k).toNat)
 case atStart=>exact⟨0,by omega,rfl,rfl,rfl,rfl,rfl,rfl,rfl,rfl,rfl,qr0 (qr1 _) (qr1 _)⟩
 case round=>
  obtain⟨t,ht,rfl,rfl,rfl,rfl,rfl,rfl,rfl,rfl,rfl,b⟩:=hrel;by_cases hlt:t<64
  ·have hok:=zuk (W:=zbk B) HS.out t
   have hst:zcw (zbk B) s (t+1)=z5c (kI.getD t 0) ((zbk B).getD t 0) (zcw (zbk B) s t):=rfl;have F2:=qrf (FK.out t hlt);have HST:=qrf hst;generalize hr:zcw (zbk B) s t=r at*;have HRR:=qrf hr;generalize kI.getD t 0=kt at*;generalize(zbk B).getD t 0=wt at*;obtain⟨a,b',c,d,e,f,g,i⟩:=r;obtain⟨ua,ub,uc,ud,ue,uf,ug,ui⟩:=hok;simp only at ua ue HST⊢;have Te6:=qrf (fun W:World=>show Calls Tryz.prog 140 #[.int .u32 e,.int .u64 6] W (zak (.int .u32 (rot e 6)) W) from(zej e 6 (by omega)).mono fun _ _ h=>⟨h.1,h.2▸qrz _⟩);have Te11:=qrf (fun W:World=>show Calls Tryz.prog 140 #[.int .u32 e,.int .u64 11] W (zak (.int .u32 (rot e 11)) W) from(zej e 11 (by omega)).mono fun _ _ h=>⟨h.1,h.2▸qrz _⟩);have Te25:=qrf (fun W:World=>show Calls Tryz.prog 140 #[.int .u32 e,.int .u64 25] W (zak (.int .u32 (rot e 25)) W) from(zej e 25 (by omega)).mono fun _ _ h=>⟨h.1,h.2▸qrz _⟩);have Ta2:=qrf (fun W:World=>show Calls Tryz.prog 140 #[.int .u32 a,.int .u64 2] W (zak (.int .u32 (rot a 2)) W) from(zej a 2 (by omega)).mono fun _ _ h=>⟨h.1,h.2▸qrz _⟩);have Ta13:=qrf (fun W:World=>show Calls Tryz.prog 140 #[.int .u32 a,.int .u64 13] W (zak (.int .u32 (rot a 13)) W) from(zej a 13 (by omega)).mono fun _ _ h=>⟨h.1,h.2▸qrz _⟩);have Ta22:=qrf (fun W:World=>show Calls Tryz.prog 140 #[.int .u32 a,.int .u64 22] W (zak (.int .u32 (rot a 22)) W) from(zej a 22 (by omega)).mono fun _ _ h=>⟨h.1,h.2▸qrz _⟩);have jt:(t:Int)<64:=by omega
   clear ua ub uc ud ue uf ug ui hst hr HRR;have hpI:pI e f g i kt wt=IntKind.u32.wrap (IntKind.u32.wrap (IntKind.u32.wrap (IntKind.u32.wrap (i+bits .xor .u32 (bits .xor .u32 (rot e 6) (rot e 11)) (rot e 25))+bits .xor .u32 (bits .and .u32 e f) (bits .and .u32 (bits .xor .u32 (if IntKind.u32.signed=true then-1 else IntKind.u32.max) e) g))+kt)+wt):=rfl;have hqI:qI a b' c=(bits .xor .u32 (bits .xor .u32 (rot a 2) (rot a 13)) (rot a 22)+bits .xor .u32 (bits .xor .u32 (bits .and .u32 a b') (bits .and .u32 a c)) (bits .and .u32 b' c))%4294967296:=rfl;generalize rot e 6=r6 at*;generalize rot e 11=r11 at*;generalize rot e 25=r25 at*;generalize rot a 2=r2 at*;generalize rot a 13=r13 at*;generalize rot a 22=r22 at*;obtain⟨x1,q1⟩:∃x,bits .xor .u32 r6 r11=x:=⟨_,rfl⟩;obtain⟨x2,q2⟩:∃x,bits .xor .u32 x1 r25=x:=⟨_,rfl⟩;obtain⟨x3,q3⟩:∃x,IntKind.u32.wrap (i+x2)=x:=⟨_,rfl⟩;obtain⟨y1,q4⟩:∃x,bits .and .u32 e f=x:=⟨_,rfl⟩;obtain⟨y2,q5⟩:∃x,bits .xor .u32 (if IntKind.u32.signed=true then-1 else IntKind.u32.max) e=x:=⟨_,rfl⟩;obtain⟨y3,q6⟩:∃x,bits .and .u32 y2 g=x:=⟨_,rfl⟩;obtain⟨y4,q7⟩:∃x,bits .xor .u32 y1 y3=x:=⟨_,rfl⟩;obtain⟨x4,q8⟩:∃x,IntKind.u32.wrap (x3+y4)=x:=⟨_,rfl⟩;obtain⟨x5,q9⟩:∃x,IntKind.u32.wrap (x4+kt)=x:=⟨_,rfl⟩;obtain⟨p,q10⟩:∃x,IntKind.u32.wrap (x5+wt)=x:=⟨_,rfl⟩;rw[q1,q2,q3,q4,q5,q6,q7,q8,q9,q10] at hpI;obtain⟨z1,v1⟩:∃x,bits .xor .u32 r2 r13=x:=⟨_,rfl⟩;obtain⟨z2,v2⟩:∃x,bits .xor .u32 z1 r22=x:=⟨_,rfl⟩;obtain⟨z3,v3⟩:∃x,bits .and .u32 a b'=x:=⟨_,rfl⟩;obtain⟨z4,v4⟩:∃x,bits .and .u32 a c=x:=⟨_,rfl⟩;obtain⟨z5,v5⟩:∃x,bits .xor .u32 z3 z4=x:=⟨_,rfl⟩;obtain⟨z6,v6⟩:∃x,bits .and .u32 b' c=x:=⟨_,rfl⟩;obtain⟨z7,v7⟩:∃x,bits .xor .u32 z5 z6=x:=⟨_,rfl⟩;rw[v1,v2,v3,v4,v5,v6,v7] at hqI;have hst2:=HST.out;rw[show z5c kt wt (a,b',c,d,e,f,g,i)=((pI e f g i kt wt+qI a b' c)%4294967296,a,b',c,(d+pI e f g i kt wt)%4294967296,e,f,g) from rfl,hpI,hqI] at hst2;have HST2:=qrf hst2;have QP:=qrf (qok q1 (qok q2 (qok q3 (qok q4 (qok q5 (qok q6 (qok q7 (qok q8 (qok q9 q10)))))))));have QV:=qrf (qok v1 (qok v2 (qok v3 (qok v4 (qok v5 (qok v6 v7))))));clear hst2 hpI hqI HST q1 q2 q3 q4 q5 q6 q7 q8 q9 q10 v1 v2 v3 v4 v5 v6 v7;go_wp2_with fail
   refine zaw New [(true,0),(true,1),(true,3),(true,6),(true,10),(true,11),(true,12),(true,13),(true,14),(true,15),(true,16),(true,17),(true,19),(true,20),(true,21),(true,23),(true,24),(true,25),(false,2),(false,4),(true,5),(false,7),(true,8),(true,9),(true,18),(true,22),(true,26),(true,27)]
    qrz qr0 (by kernel_rfl) (by kernel_rfl) (by kernel_rfl) (by kernel_rfl) ?_
   have hU:=qr0 b (qr1 wr);repeat(first
    |(refine zaj rfl rfl (v:=?_) (fun W hW=>?_) ?_;rotate_left;(obtain⟨o0,o1⟩:=F2.out W (qr0 hU hW);obtain⟨q1,q2,q3,q4,q5,q6,q7,q8,q9,q10⟩:=QP.out;go_simp<;> with_reducible rfl);simp only[Act.put,qoi,qn8,qoj])
    |(refine za6 rfl rfl (fun K hK=>?_);go_simp
      first
      |(with_reducible refine(Te6.out _).mono ?_)
      |(with_reducible refine(Te11.out _).mono ?_)
      |(with_reducible refine(Te25.out _).mono ?_)
      rintro e9 w9 ⟨rfl,c9⟩;refine hK _ _ c9 ?_;clear hK;replace hU:=qr0 hU c9))
   refine zda ?_;go_wp2_with fail
   (with_reducible refine(Ta2.out _).mono ?_)
   rintro e9 w2 ⟨rfl,c2⟩;replace hU:=qr0 hU c2;go_wp2_with fail
   (with_reducible refine(Ta13.out _).mono ?_)
   rintro e9 w3 ⟨rfl,c3⟩;replace hU:=qr0 hU c3;obtain⟨v1,v2,v3,v4,v5,v6,v7⟩:=QV.out;go_wp2_with fail
   (with_reducible refine(Ta22.out _).mono ?_)
   rintro e9 w4 ⟨rfl,c4⟩;replace hU:=qr0 hU c4;clear Te6 Te11 Te25 Ta2 Ta13 Ta22 F2 c2 c3 c4 QP QV;go_wp2
   go_roundw
   case rel=>
    refine⟨t+1,by omega,by go_num,?_⟩;rw[HST2.out];exact⟨rfl,rfl,rfl,rfl,rfl,rfl,rfl,rfl,hU⟩
   case measure=>simp[intOf];omega
  ·have ht64:t=64:=by omega
   have HT:=qrf (show z16 s (zcw (zbk B) s t)=zsp s B by rw[ht64];rfl);obtain⟨x0,x1,x2,x3,x4,x5,x6,x7⟩:=F.out wr b;have R3:=qrf (HR2.out.below b HR2.out.lt);have bE:=qr6 (qr0 HB2.out b) (za3 (g:=w.heap.size+1+1) wr (za2 (z16 s (zcw (zbk B) s t)))) (by omega);have BE:=qrf bE;generalize zcw (zbk B) s t=r at*;have hsz:(Tryz.prog.info? 98).map (·.size)=some (za2 (z16 s r)).size:=by rw[show(za2 (z16 s r)).size=8 from rfl];kernel_rfl
   have HSZ:=qrf hsz;clear ht64 hsz bE FK F HS SU SL;go_wp2_with (refine wpList_store_row rfl 98 (.tmp 4) (.tmp 132) rfl (w.heap.size+1+1) (za2 (z16 s r)) rfl rfl _ _ (zaf R3.out) HSZ.out rfl (zfe _) ?_)
   exact bodyPost_ret (results_cell_row rfl _ _ (w.heap.size+1+1) _ (za2 (z16 s r)) (0,0) _ rfl (zaf (zau R3.out _)) (show Tryz.prog.underlying 98=some (.array 8 97) by kernel_rfl) rfl HSZ.out) rfl ⟨by rw[HT.out],BE.out⟩
def CurS(w:World)(g:Nat)(S:St):Prop:=Cur w g (S.getD []) S.isNone
section
variable{w w':World}{g:Nat}{S:St}
theorem CurS.lt(h:CurS w g S):g<w.heap.size:=Cur.lt h
theorem CurS.below(h:CurS w g S)(hb:Below w.heap.size w w'):CurS w' g S:=Cur.below h hb
theorem CurS.keep{g':Nat}{t:TypeId}{cs:Array Value}(h:CurS w g S)(hg:w.grownBy w' (some g'))(hT:Blk w g' t cs)(hne:g≠g')(ht:5≠t):CurS w' g S:=Cur.keep h hg hT hne ht
theorem CurS.blk(h:CurS w g S):∃cs,Blk w g 180 cs:=Cur.blk h
theorem CurS.push{e:TypeId}{base:Nat}{v:Value}{xs:List Value}(h:CurS w g S)(o:Own w base e v xs)(hg:w.grownBy w' v.ownBlock)(he1:e≠180)(he2:5≠e):CurS w' g S:=by
 cases hv:v.ownBlock with
 |none=>
  rw[hv] at hg;exact h.below ((qsb (T:=[]) hg).new (by simp))
 |some g'=>
  obtain⟨cs,hB⟩:=o.row g' hv;rw[hv] at hg;obtain⟨cs2,hC⟩:=h.blk;exact h.keep hg hB (fun e'=>by subst e';exact qrx hB hC he1 rfl) he2
theorem CurS.ok(h:CurS w g S):S.ok:=by intro l e;subst e;exact Cur.lt8 h
theorem CurS.of{l:List Nat}(h:Cur w g l false):CurS w g (some l):=h
theorem CurS.len(h:CurS w g S):(S.getD []).length<=9223372036854775807:=by have:=Cur.len h;unfold maxLen at this;omega
end
def z7i(e0:Ending)(g:Nat)(S:St)(w:World)(e:Ending)(w':World):Prop:=e=e0/\CurS w' g S/\w.grownBy w' (some g)
theorem zpf{w:World}{g:Nat}{S:St}(h:CurS w g S):Calls Tryz.prog 116 #[.pointer (some ⟨g,0,none⟩)] w (z7i (.returned (.tuple #[])) g none w):=zh2 h
theorem qe6{w:World}{g:Nat}{S:St}(h:CurS w g S):Calls Tryz.prog 98 #[.pointer (some ⟨g,0,none⟩)] w (zs5 S.isNone w):=zj9 h
theorem zlf{w:World}{g:Nat}{S:St}(h:CurS w g S):Calls Tryz.prog 100 #[.pointer (some ⟨g,0,none⟩)] w (zs5 (qca S) w):=by
 have:=qgn h;have e:qca S=(!S.isNone&&(S.getD []).isEmpty):=by
  cases S with
  |none=>rfl
  |some l=>cases l<;> simp[qca]
 rw[e];exact this
theorem qki{w:World}{g:Nat}{S:St}(h:CurS w g S):Calls Tryz.prog 168 #[.pointer (some ⟨g,0,none⟩)] w (zs4 (S.getD []) w):=qby h
theorem zix{w:World}{g:Nat}{S:St}(h:CurS w g S):Calls Tryz.prog 137 #[.pointer (some ⟨g,0,none⟩)] w (z7i (.returned (.int .u8 ((zcn S).1:Int))) g (zcn S).2 w):=by
 cases S with
 |none=>exact zn0 h (.inl rfl)
 |some l=>
  cases l with
  |nil=>exact zn0 h (.inr (by simp))
  |cons b r=>exact z0b h
def qkj(x:List Nat)(g:Nat)(S:St)(w:World)(e:Ending)(w':World):Prop:=
 ∃A n c,e= .returned (.slice A n c)/\n=x.length/\Own w' w.heap.size 5 (.slice A n c) (zah .u8 x)/\CurS w' g S/\w.grownBy w' (some g)
theorem zpg{w:World}{g:Nat}{n:Int}{S:St}(h:CurS w g S)(h0: -9223372036854775808<=n)(h1:n<=140737488355328):Calls Tryz.prog 136 #[.pointer (some ⟨g,0,none⟩),.int .i64 n] w (qkj (ze6 n S).1 g (ze6 n S).2 w):=by
 rcases zfi n S with hc|⟨l,rfl,h2,h3,hc⟩
 ·rw[hc]
  have hb:S.isNone=true\/n<0\/((S.getD []).length:Int)<n:=by
   unfold ze6 at hc;cases S with
   |none=>exact .inl rfl
   |some l=>
    simp only at hc;split at hc
    ·simp at hc
    ·rename_i hh
     simp only[qnq];omega
  refine(qb2 h hb h0 (by omega)).mono ?_;rintro e w' ⟨rfl,k1,k2⟩;exact⟨none,0,0,rfl,rfl,qru,k1,k2⟩
 ·rw[hc]
  obtain⟨m,rfl⟩:=qn1 h2;simp only[qmt];have hm:m<=l.length:=by omega
  refine(z6r (l:=l) (n:=m) h hm (by omega)).mono ?_;rintro e w' ⟨A,c,rfl,k1,k2,k3⟩;exact⟨A,m,c,rfl,by rw[ql2];omega,k1,k2,k3⟩
theorem z0k{w:World}{g:Nat}{S:St}(h:CurS w g S):Calls Tryz.prog 117 #[.pointer (some ⟨g,0,none⟩)] w (z7i (.returned (.int .u64 ((zqr S).1:Int))) g (zqr S).2 w):=by
 rcases hc:zqr S with⟨v,T⟩;have hok:=h.ok;cases S with
 |none=>
  simp only[zqr,qlk] at hc;obtain⟨rfl,rfl⟩:=hc;exact z7h h (.inl rfl)
 |some l=>
  simp only[zqr] at hc;split at hc
  ·rename_i N r hg
   obtain⟨h1,h2⟩:=zxx (hok l rfl) hg;simp only[qlk] at hc;obtain⟨rfl,rfl⟩:=hc;subst h1;exact zx7 h h2
  ·rename_i hg
   simp only[qlk] at hc;obtain⟨rfl,rfl⟩:=hc;exact z7h h (.inr (qgs hg))
theorem zeb{w:World}{g:Nat}{m:Int}{S:St}(h:CurS w g S)(hm0: -9223372036854775808<=m)(hm:m<=9223372036854775807):Calls Tryz.prog 97 #[.pointer (some ⟨g,0,none⟩),.int .i64 m] w (z7i (.returned (.int .i64 ((lenS m S).1:Int))) g (lenS m S).2 w):=by
 have hok:=h.ok;by_cases hg:∃N r,S=some (vp N++r)/\(N:Int)<=m
 ·obtain⟨N,r,rfl,hN⟩:=hg
  rw[zea N r hN hm];exact qg4 h hN hm
 ·have e:lenS m S=(0,none):=by
   rcases zdq m S hok with h1|⟨N,r,h1,h2,_,_⟩
   ·exact h1
   ·exact absurd ⟨N,r,h1,h2⟩ hg
  rw[e];refine qiy h ?_ hm0 hm;cases S with
  |none=>exact .inl rfl
  |some l=>
   refine .inr fun N r hl=>?_
   simp only[qnq] at hl;subst hl;rcases Int.lt_or_le m N with h1|h1
   ·exact h1
   ·exact absurd ⟨N,r,rfl,h1⟩ hg
end Go.Proofs.Y
namespace Go.Hm
open Go Go.RowKit
def eqC(a b:zab):Bool:=a.1==b.1&&(a.2.1==b.2.1&&((zai a.2.2.1).toList==(zai b.2.2.1).toList&&(a.2.2.2.1==b.2.2.2.1&&a.2.2.2.2==b.2.2.2.2)))
theorem qfa{a b:zab}(ha:∀z∈a.2.2.1,z<256)(hb:∀z∈b.2.2.1,z<256):eqC a b=decide (a=b):=by obtain⟨a0,a1,a2,a3,a4⟩:=a;obtain⟨b0,b1,b2,b3,b4⟩:=b;unfold eqC;dsimp only at*;rw[zi6 ha hb,qmj];simp
def eqS(a b:zdl):Bool:=a.1==b.1&&(a.2.1==b.2.1&&(eqC a.2.2.1 b.2.2.1&&eqC a.2.2.2 b.2.2.2))
theorem qi9{a b:zdl}(h1:∀z∈a.2.2.1.2.2.1,z<256)(h2:∀z∈a.2.2.2.2.2.1,z<256)(h3:∀z∈b.2.2.1.2.2.1,z<256)(h4:∀z∈b.2.2.2.2.2.1,z<256):eqS a b=true↔a=b:=by obtain⟨n,c,p,q⟩:=a;obtain⟨m,d,r,s⟩:=b;unfold eqS;dsimp only at*;rw[qfa h1 h3,qfa h2 h4];simp
end Go.Hm
namespace Go.Proofs.Y
open Go.RowKit Go.Hm
theorem z3d{n n':Int}{b b':Bool}{p q p' q':zab}(W:World):
 (binOp .eql 133 (zcp (n,b,p,q)) (zcp (n',b',p',q'))).run Tryz.prog W= .ok (.bool (eqS (n,b,p,q) (n',b',p',q'))) W:=by
 obtain⟨p1,p2,p3,p4,p5⟩:=p;obtain⟨q1,q2,q3,q4,q5⟩:=q;obtain⟨r1,r2,r3,r4,r5⟩:=p';obtain⟨s1,s2,s3,s4,s5⟩:=q';show(binOp .eql 133 (.agg #[.int .i64 n,.bool b,.bool p1,.int .i64 p2,.string (zai p3),.int .i64 p4,.int .i64 p5,.bool q1,.int .i64 q2,.string (zai q3),.int .i64 q4,.int .i64 q5]) (.agg #[.int .i64 n',.bool b',.bool r1,.int .i64 r2,.string (zai r3),.int .i64 r4,.int .i64 r5,.bool s1,.int .i64 s2,.string (zai s3),.int .i64 s4,.int .i64 s5])).run Tryz.prog W=_;go_simp
 unfold eqS eqC
 repeat' split
 all_goals simp_all
end Go.Proofs.Y
namespace Go.Hm
open Go Go.RowKit
def zpv(l:List zbi):Prop:=l.length<=64/\(∀x∈l,0<x.1.length/\x.1.length<=100/\0<=x.2.1/\x.2.1<=3)/\(l.map (·.1)).Nodup
theorem zrz:∀(l a:List zbi),zgy a l=0↔(∀x∈l,0<x.1.length/\x.1.length<=100/\0<=x.2.1/\x.2.1<=3)/\(l.map (·.1)).Nodup/\ ∀x∈l,x.1∉a.map (·.1)
 | [],a=>by simp[zgy]
 |c::l,a=>by
  have key:zlm a c.1 c.2.1=0↔(0<c.1.length/\c.1.length<=100/\0<=c.2.1/\c.2.1<=3)/\c.1∉a.map (·.1):=by
   unfold zlm;by_cases h:zmp a c.1
   ·rw[if_pos h]
    refine⟨fun hh=>by omega,fun hh=>?_⟩;rcases h with h|h|h
    ·omega
    ·omega
    ·exact absurd h hh.2
   ·rw[if_neg h]
    by_cases h2:0<=c.2.1/\c.2.1<=3
    ·rw[if_pos h2]
     refine⟨fun _=>⟨⟨?_,?_,h2.1,h2.2⟩,fun hh=>h (.inr (.inr hh))⟩,fun _=>rfl⟩
     ·have: ¬c.1.length=0:=fun hh=>h (.inl hh)
      omega
     ·have: ¬100<c.1.length:=fun hh=>h (.inr (.inl hh))
      omega
    ·rw[if_neg h2]
     exact⟨fun hh=>by omega,fun hh=>by omega⟩
  have ih:=zrz l (a++[c]);have e:zgy a (c::l)=0↔zlm a c.1 c.2.1=0/\zgy (a++[c]) l=0:=by
   rw[zgy];split
   ·rename_i h;exact⟨fun hh=>⟨h,hh⟩,fun hh=>hh.2⟩
   ·rename_i h;exact⟨fun hh=>absurd hh h,fun hh=>absurd hh.1 h⟩
  rw[e,key,ih];simp only[List.forall_mem_cons,qmp,List.nodup_cons,qpj,qmq,qnd,qne];constructor
  ·rintro⟨⟨h1,h2⟩,h3,h4,h5⟩
   refine⟨⟨h1,h3⟩,⟨fun hh=>?_,h4⟩,h2,fun x hx hh=>h5 x hx (.inl hh)⟩;obtain⟨x,hx,hxe⟩:=qly.1 hh;exact h5 x hx (.inr hxe)
  ·rintro⟨⟨h1,h3⟩,⟨h4,h5⟩,h2,h6⟩
   refine⟨⟨h1,h2⟩,h3,h5,fun x hx hh=>?_⟩;rcases hh with hh|hh
   ·exact h6 x hx hh
   ·exact h4 (qly.2 ⟨x,hx,hh⟩)
theorem zez(l:List zbi):zc7 l=0↔zpv l:=by
 unfold zc7 zpv;split
 ·exact⟨fun hh=>by omega,fun hh=>by omega⟩
 ·rename_i h
  rw[zrz];simp only[qmq,qpt,not_false_eq_true,implies_true,and_true];exact⟨fun hh=>⟨by omega,hh⟩,fun hh=>hh.2⟩
open Go Go.RowKit
def boolN(b:Bool):Nat:=if b then 1 else 0
def z3o(c:zbi):List Nat:=vp c.1.length++c.1++[c.2.1.toNat,boolN c.2.2]
def zkl(l:List zbi):List Nat:=l.flatMap z3o
theorem qdk:zkl []=[]:=rfl
theorem z8q(l:List zbi)(c:zbi):zkl (l++[c])=zkl l++(vp c.1.length++c.1++[c.2.1.toNat,boolN c.2.2]):=by simp[zkl,z3o]
theorem z8r(l:List zbi)(c:zbi):zkl (c::l)=(vp c.1.length++c.1++[c.2.1.toNat,boolN c.2.2])++zkl l:=by simp[zkl,z3o]
theorem z06(l:List zbi)(h:∀x∈l,x.1.length<=100):(zkl l).length<=112*l.length:=by
 induction l with
 |nil=>simp[zkl]
 |cons c l ih=>
  have h1:=ih fun x hx=>h x (by simp[hx])
  have h2:=h c (by simp);have h3:=zas (n:=c.1.length) (by omega);rw[z8r];simp only[qmv,qm9,qpg] at*;omega
def putC(b:List Nat)(l:List zbi):List Nat:=if zc7 l=0 then b++vp l.length++zkl l else b
end Go.Hm
namespace Go.Proofs.Y
open Go.RowKit Go.Hm
theorem qdl(b:Bool)(w:World):Calls Tryz.prog 112 #[.bool b] w (zcv (.int .u8 ((boolN b:Nat):Int)) w):=by
 cases b;all_goals
  go_enter Tryz.func112,Tryz.ntmps112
  go_wp2
  go_ret
  exact⟨rfl,rfl⟩
theorem qdm{w:World}{A A2:Option Addr}{n c n2 c2:Nat}{b:List Nat}{L:List zbi}(h:Reads w w.heap.size 1 A n (zah .u8 b))(hn:n<=140737488300000)(h2:Reads w w.heap.size 3 A2 n2 (recs zl3 L))(hL:∀x∈L,(∀z∈x.1,z<256)/\x.1.length<=140737488351232)(hc:n2<=c2)(hn2:n2<=4611686018427387903):
 Calls Tryz.prog 88 #[.slice A n c,.slice A2 n2 c2] w (zcb (putC b L) w):=by
 have P0:=qrf (zn8 (c:=c2) h2 hL hc hn2);obtain rfl:=h2.lenC;by_cases hk:zc7 L=0
 ·rw[hk] at P0
  have HO:=qrf (show putC b L=b++vp L.length++zkl L by rw[putC,if_pos hk]);obtain⟨m1,m2,_⟩:=(zez L).1 hk;generalize putC b L=O at*;have M2:=qrf m2;have HLL:=qrf hL;have vl:=zas (n:=L.length) (by omega);have VL:=qrf vl;have hln:=h.len;have LN:=qrf hln;clear hk m2 hL hln;go_enter Tryz.func88,Tryz.ntmps88
  go_wp2_with fail
  refine P0.out.mono ?_;rintro e w1 ⟨rfl,b1⟩;have P1:=qrf (zc9 A n c b L.length w1 (qsg h b1) (by omega) (by omega));go_wp2_with fail
  refine P1.out.mono ?_;rintro e w2 ⟨A3,n3,c3,rfl,k3,b2⟩;have b02:=qr0 b1 b2;have Z1:=b1.size;clear P0 P1 b1 vl;go_wp2
  go_loopw [5,20] (fun v i wr=>∃(k:Nat) (A:Option Addr) (m c5:Nat),i= .int .i64 (k:Int)/\k<=L.length/\v= .slice A m c5/\Own wr w.heap.size 5 (.slice A m c5) (zah .u8 (b++vp L.length++zkl (L.take k)))/\New w wr) (fun _ i _=>L.length-(intOf i).toNat)
  case atStart=>exact⟨0,_,_,_,rfl,by omega,rfl,by rw[qmw,qdk,qmg];exact k3.base_le Z1,b02⟩
  case round=>
   obtain⟨k,A5,m5,c5,rfl,hk,rfl,o5,b5⟩:=hrel;have z5:=b5.size;by_cases hlt:k<L.length
   ·obtain⟨ad,rfl,hbk,d0,d1,d2⟩:=(qsg h2 b5).colT hlt
    have hx:(L.getD k ([],0,false))∈L:=by rw[qnp,qlx hlt];exact qml hlt
    obtain⟨x1,x2,x3,x4⟩:=M2.out _ hx;have y1:=(HLL.out _ hx).1;have T:=zae L k ([],0,false) hlt;have q5:m5<=n+7200:=by have l:=o5.len;have l2:=z06 (L.take k) (fun x hx=>(M2.out x (qmu hx)).2.1);rw[zaa,qmv,qmv] at l;rw[ql2] at l2;have:=VL.out;have:=LN.out;omega
    have HT:=qrf (show b++vp L.length++zkl (L.take (k+1))=b++vp L.length++zkl (L.take k)++vp (L.getD k ([],0,false)).1.length++(L.getD k ([],0,false)).1++[(L.getD k ([],0,false)).2.1.toNat,boolN (L.getD k ([],0,false)).2.2] by rw[T,z8q];simp);clear T hx;generalize(L.getD k ([],0,false)).1=s2 at*;generalize(L.getD k ([],0,false)).2.1=t2 at*;generalize(L.getD k ([],0,false)).2.2=n2 at*;obtain⟨t2,rfl⟩:=qn1 x3;rw[qmt] at HT;have zs:=zbt s2;have vs:=zas (n:=s2.length) (by omega);have VS:=qrf vs;have Y1:=qrf y1;have hiz:(k:Int)<(L.length:Int):=by omega
    obtain⟨W1,hW1⟩:∃W,W=wr.alloc (.cells #[.string (zai s2),.int .i64 (t2:Int),.bool n2] 71):=⟨_,rfl⟩;have b51:New w W1:=by rw[hW1];exact Below.alloc b5 b5.size _
    have Y:Blk W1 wr.heap.size 71 #[.string (zai s2),.int .i64 (t2:Int),.bool n2]:=by rw[hW1];exact qrv _ _ _
    have o51:Own W1 w.heap.size 5 (.slice A5 m5 c5) (zah .u8 (b++vp L.length++zkl (L.take k))):=by rw[hW1];exact o5.alloc _
    have hg7:wr.heap.size<W1.heap.size:=Y.lt;obtain⟨p0,p1,p2⟩:=zar Y;have P6:=qrf (zc9 none 0 0 [] s2.length W1 qrs (by omega) (by omega));rw[hW1] at p0 p1 p2;rw[hW1] at P6;clear y1 o5;have HY:=qrf Y;have HW1:=qrf hW1;clear Y vs hW1;go_wp2_with fail
    refine P6.out.mono ?_;rintro e w7 ⟨A7,n7,c7,rfl,k7,b7⟩;rw[<-HW1.out] at b7 k7;rw[qmx] at k7;have b07:=qr0 b51 b7;have o7:=o51.later b7;have Y7:=HY.out.below b7 HY.out.lt;have q7:n7<=10:=by have:=k7.len;rw[zaa] at this;have:=VS.out;omega
    have r7:=k7.reads;have z7:=b07.size;clear b7 k7 P6 p0 p1 p2 o51;go_wp2_with (first
     |(refine zal elB rfl (.tmp 24) (.tmp 29) rfl (W:=w) (B:=w.heap.size) o7 r7 rfl rfl b07 (ql6 _) z7 (by omega) (by simp only[maxLen];omega) ?_
       intro A8 c8 w8 _ _ o8 g8 b08 _;have Y8:=Y7.push o7 g8 (by decide);obtain⟨p0,p1,p2⟩:=zar Y8;have HY8:=qrf Y8;have z8:=b08.size;clear Y8)
     |(refine zdo elB qa0 rfl (.tmp 31) (.tmp 33) rfl (W:=w) (B:=w.heap.size) o8 Y1.out rfl rfl b08 (ql6 _) z8 (by omega) ?_
       intro A9 c9 w9 _ _ o9 g9 b09;have HY9:=qrf (HY8.out.push o8 g9 (by decide));have z9:=b09.size;clear p0 p1 p2))
    have HC:=qrf (fun(W:World) (hW:w9.grownBy W (Value.ownBlock (.slice A9 (m5+n7+s2.length) c9)))=>zar (HY9.out.grown hW (fun e=>o9.blk_ne HY9.out (by decide) e.symm)));refine zaw (fun x y=>x.grownBy y (Value.ownBlock (.slice A9 (m5+n7+s2.length) c9))) [(true,0),(true,1),(true,2),(true,3),(true,4),(true,5),(false,6),(false,7),(false,8),(true,9)]
     (fun x=>qlp x _) qlq (by kernel_rfl) (by kernel_rfl) (by kernel_rfl) (by kernel_rfl) ?_
    have e8:IntKind.u8.wrap (t2:Int)=(t2:Int):=by rw[qrg];omega
    have MK:=qrf (fun W=>qdl n2 W);generalize hmk:boolN n2=mk at*;have o10:Own (w9.alloc (.cells #[.int .u8 (t2:Int),.int .u8 (mk:Int)] 5)).drew w.heap.size 5 (.slice A9 (m5+n7+s2.length) c9) (zah .u8 (b++vp L.length++zkl (L.take k)++vp s2.length++s2)):=o9.alloc _;have r10:Reads (w9.alloc (.cells #[.int .u8 (t2:Int),.int .u8 (mk:Int)] 5)).drew (w9.alloc (.cells #[.int .u8 (t2:Int),.int .u8 (mk:Int)] 5)).drew.heap.size 1 (some ⟨w9.heap.size,0,none⟩) 2 (zah .u8 [t2,mk]):=qsf w9 5 #[.int .u8 (t2:Int),.int .u8 (mk:Int)] 2 (zah .u8 [t2,mk]) rfl rfl;repeat(first
     |(refine za6 rfl rfl (fun K hK=>?_);go_simp
       (with_reducible refine(MK.out _).mono ?_)
       rintro e w11 ⟨rfl,rfl⟩;refine hK _ _ (qlp _ _) ?_;clear hK)
     |(refine zaj rfl rfl (v:=?_) (fun W hW=>?_) ?_;rotate_left;(obtain⟨p0,p1,p2⟩:=HC.out W (qlq z2d hW);go_simp<;> with_reducible rfl);simp only[Act.put,qoi,qn8,qoj]))
    refine za6 rfl rfl (fun K hK=>?_);go_simp
    refine hK _ _ (qra w9.drew _ _) ?_;clear hK;refine za6 rfl rfl (fun K hK=>?_);have b10:Below w.heap.size w (w9.alloc (.cells #[.int .u8 (t2:Int),.int .u8 (mk:Int)] 5)).drew:=(b09.alloc z9 _).drew;refine zkr elB (.tmp 35) (.tmp 42) rfl (W:=w) (B:=w.heap.size) o10 r10 (by omega) rfl rfl b10 (ql6 _) b10.size (zct _ _) (by rw[<-o10.len];omega) (by rw[<-o10.len];simp only[maxLen];omega) ?_;intro A11 c11 w11 _ _ o11 g11 b11;refine hK _ _ g11 ?_;clear hK;rw[<-zdw,<-o10.len] at o11;rw[<-o10.len];refine zaj rfl rfl (v:=?_) (fun W hW=>?_) ?_;rotate_left
    ·go_simp<;> with_reducible rfl
    simp only[Act.put,qoi,qn8,qoj];refine zda ?_;go_wp2
    go_roundw
    case rel=>exact⟨k+1,_,_,_,by go_num,by omega,rfl,by rw[HT.out];exact o11,b11⟩
    case measure=>simp[intOf];omega
   ·obtain rfl:k=L.length:=by omega
    rw[qp1] at o5;go_wp2
    go_ret
    exact⟨_,_,_,rfl,by rw[HO.out];exact o5,b5⟩
 ·have HO:=qrf (show putC b L=b by rw[putC,if_neg hk])
  generalize putC b L=O at*;generalize zc7 L=ck at*;have e1:(ck != 0)=true:=by simpa using hk
  clear hk;go_enter Tryz.func88,Tryz.ntmps88
  go_wp2_with fail
  refine P0.out.mono ?_;rintro e w1 ⟨rfl,b1⟩;have P1:=qrf (zhk (c:=c) (qsg h b1) (by omega));clear P0;go_wp2_with fail
  refine P1.out.mono ?_;rintro e w2 ⟨A3,n3,c3,rfl,k3,b2⟩;have Z1:=b1.size;go_wp2
  go_ret
  exact⟨_,_,_,rfl,by rw[HO.out];exact k3.base_le Z1,qr0 b1 b2⟩
end Go.Proofs.Y
