import Derived.Test.YtbahbnbpmfgimaaGreatDoorBun6
import Derived.Test.YtbahbnbpmfgimaaGreatDoorBun7
set_option maxHeartbeats 4000000
set_option maxRecDepth 100000
namespace Go.Proofs.Y
open Go.RowKit Go.Hm
theorem zcr{w:World}{g:Nat}{ty:TypeId}{l:List Int}{k:IntKind}{i:Nat}(h:Blk w g ty (zap k l).toArray)(hi:i<l.length):w.cell? ⟨g,i,none⟩=some (.int k (l.getD i 0)):=by rw[h.cell];simpa using zoj k l i hi
theorem zhc{w:World}{g:Nat}{ty:TypeId}{l:List Nat}{k:IntKind}{i:Nat}(h:Blk w g ty (zah k l).toArray)(hi:i<l.length):w.cell? ⟨g,i,none⟩=some (.int k ((l.getD i 0:Nat):Int)):=by rw[h.cell];simpa using zxf k l i hi
theorem zi8{w:World}{g:Nat}{ty:TypeId}{l:List Int}{k:IntKind}{i:Nat}(h:Blk w g ty (zap k l).toArray)(x:Int):Blk (w.setCell ⟨g,i,none⟩ (.int k x)) g ty (zap k (l.set i x)).toArray:=by have:=h.set_ i (.int k x);simpa[zap,List.map_set] using this
theorem zau{w:World}{g:Nat}{ty:TypeId}{old:Array Value}(h:Blk w g ty old)(cs:Array Value):Blk (w.setRow g cs) g ty cs:=by unfold Blk at h⊢;simp[World.setRow,Array.getElem?_modify,h]
theorem za3{g:Nat}(w:World)(cs:Array Value):Far g w (w.setRow g cs):=
 ⟨rfl,rfl,rfl,by simp[World.setRow],fun k _ hne=>by simp[World.setRow,Array.getElem?_modify];intro e;subst e;exact absurd rfl hne⟩
theorem zj6{g i:Nat}(u:Value)(w:World):Far g w (w.setCell ⟨g,i,none⟩ u):=
 ⟨rfl,rfl,rfl,by simp[World.setCell],fun k _ hne=>qq7 _ _ _ _ (by rintro rfl;exact hne rfl)⟩
theorem zaf{w:World}{g:Nat}{ty:TypeId}{cs:Array Value}(h:Blk w g ty cs):w.heap[g]? =some (.cells cs ty (0,0)):=h
theorem zcs(k:IntKind)(l:List Int):(zap k l).toArray.all (·.oneCell')=true:=by rw[List.all_toArray,qog];intro u hu;simp only[zap,qly] at hu;obtain⟨z,_,rfl⟩:=hu;rfl
def zev:List Int:=List.replicate 64 0
theorem z5f{w:World}(B:List Nat)(hB:B.length=64)(h8:∀x∈B,x<256):
 Calls Tryz.prog 79 #[.agg (zah .u8 B).toArray] w (zak (.agg (zap .u32 (zbk B)).toArray) w):=by
 have hWL:(zdh B).length=16:=by simp[zdh]
 have HWL:=qrf hWL;clear hWL;go_enter Tryz.func79,Tryz.ntmps79
 go_wp2
 go_loopw [10] (fun i wr=>∃k:Nat,k<=16/\i= .int .i64 (k:Int)/\Hid (Blk wr (w.heap.size+1+1) 148 (zap .u32 (zl2 ((zdh B).take k))).toArray)/\Hid (Blk wr w.heap.size 101 (zah .u8 B).toArray)/\Hid (Blk wr (w.heap.size+1) 148 (zap .u32 zev).toArray)/\New w wr) (fun i _=>16-(intOf i).toNat)
 case atStart=>
  refine⟨0,by omega,rfl,qrf ?_,qrf ?_,qrf ?_,?_⟩
  ·have h:=qrv ((w.alloc (.cells (zah .u8 B).toArray 101)).alloc (.cells (zap .u32 zev).toArray 148)) 148 (zap .u32 zev).toArray
   simp only[World.alloc,qoh] at h;exact h
  ·exact((qrv w _ _).alloc _).alloc _
  ·have h:=(qrv (w.alloc (.cells (zah .u8 B).toArray 101)) 148 (zap .u32 zev).toArray).alloc (.cells (zap .u32 zev).toArray 148)
   simp only[World.alloc,qoh] at h;exact h
  ·exact(((qq8 _ _).alloc (ql6 _) _).alloc (by simp) _).alloc (by simp;omega) _
 case round=>
  obtain⟨k,hk,rfl,T,P,Z,b⟩:=hrel;by_cases hlt:k<16
  ·obtain⟨a,ha⟩:∃a,a=4*k:=⟨_,rfl⟩
   obtain⟨a1,ha1⟩:∃a,a=4*k+1:=⟨_,rfl⟩;obtain⟨a2,ha2⟩:∃a,a=4*k+2:=⟨_,rfl⟩;obtain⟨a3,ha3⟩:∃a,a=4*k+3:=⟨_,rfl⟩;have i0:IntKind.i64.wrap (4*(k:Int))=(a:Int):=by rw[qrl];omega
   have i1:IntKind.i64.wrap ((a:Int)+1)=(a1:Int):=by rw[qrl];omega
   have i2:IntKind.i64.wrap ((a:Int)+2)=(a2:Int):=by rw[qrl];omega
   have i3:IntKind.i64.wrap ((a:Int)+3)=(a3:Int):=by rw[qrl];omega
   have j0:(a:Int)<64:=by omega
   have j1:(a1:Int)<64:=by omega
   have j2:(a2:Int)<64:=by omega
   have j3:(a3:Int)<64:=by omega
   have hx0:=ze3 B a h8;have hx1:=ze3 B a1 h8;have hx2:=ze3 B a2 h8;have hx3:=ze3 B a3 h8;have hst:=zoq (B:=B) hlt;rw[<-ha1,<-ha2,<-ha3,<-ha] at hst;have hor:=qfy hx0 hx1 hx2 hx3;have hset:=zkn (l:=(zdh B).take k) (by rw[ql2,HWL.out];omega) (zqu (B.getD a 0) (B.getD a1 0) (B.getD a2 0) (B.getD a3 0));rw[<-hst,ql2,HWL.out,ql3 (by omega)] at hset;have F:=qrf (fun(W:World) (hW:Far (w.heap.size+1+1) wr W)=>show W.cell? ⟨w.heap.size,a,none⟩=some (.int .u8 ((B.getD a 0:Nat):Int))/\W.cell? ⟨w.heap.size,a1,none⟩=some (.int .u8 ((B.getD a1 0:Nat):Int))/\W.cell? ⟨w.heap.size,a2,none⟩=some (.int .u8 ((B.getD a2 0:Nat):Int))/\W.cell? ⟨w.heap.size,a3,none⟩=some (.int .u8 ((B.getD a3 0:Nat):Int)) by have P2:=P.out.grown hW (by simp;omega);exact⟨zhc P2 (by omega),zhc P2 (by omega),zhc P2 (by omega),zhc P2 (by omega)⟩)
   generalize B.getD a 0=x0 at*;generalize B.getD a1 0=x1 at*;generalize B.getD a2 0=x2 at*;generalize B.getD a3 0=x3 at*;have HSET:=qrf hset;have HOR:=qrf hor;have hk64:(k:Int)<64:=by omega
   have HT:=qrf (znv (l:=(zdh B).take k) (by rw[ql2,HWL.out];omega));clear ha ha1 ha2 ha3 hst hset hor hx0 hx1 hx2 hx3;go_wp2
   refine zaw (Far (w.heap.size+1+1)) [(true,0),(true,1),(true,2),(true,3),(true,4),(true,5),(true,6),(true,7),(true,8),(true,9),(true,10),(true,11),(true,12),(true,13),(true,14),(true,15),(true,16),(true,17),(true,18),(true,19),(true,20),(true,21),(true,22),(true,23),(true,24),(true,25),(true,26),(true,27),(true,28),(true,29),(true,30),(false,31)]
    (qr2 _) qr3 (by kernel_rfl) (by kernel_rfl) (by kernel_rfl) (by kernel_rfl) ?_
   iterate 31 (
    refine zaj rfl rfl (v:=?_) (fun W hW=>?_) ?_;rotate_left
    ·obtain⟨y0,y1,y2,y3⟩:=F.out W (qr3 (Far.drew _ wr) hW)
     go_simp<;> with_reducible rfl
    simp only[Act.put,qoi,qn8,qoj])
   rw[HOR.out];have T2:Blk wr.drew (w.heap.size+1+1) 148 (zap .u32 (zl2 ((zdh B).take k))).toArray:=T.out;have z0:=zcr (i:=k) T2 (by rw[HT.out];omega);have f0:=T2.frozen k;have hF:Far (w.heap.size+1+1) wr.drew (wr.drew.setCell ⟨w.heap.size+1+1,k,none⟩ (.int .u32 (zqu x0 x1 x2 x3))):=zj6 _ _;have T3:=qrf (zi8 T2 (i:=k) (zqu x0 x1 x2 x3));clear T2;refine za6 rfl rfl (fun K hK=>?_);go_simp
   refine hK _ _ hF ?_;clear hK z0 f0;refine zda ?_;rw[HSET.out] at T3;have hF2:=qr3 (Far.drew _ wr) hF;have P3:=qrf (P.out.grown hF2 (by simp;omega));have Z3:=qrf (Z.out.grown hF2 (by simp));have b3:=qr6 b hF2 (by omega);clear F HSET HOR HT hF hF2 i0 i1 i2 i3 j0 j1 j2 j3;go_wp2
   go_roundw
   case rel=>exact⟨k+1,by omega,by go_num,T3,P3,Z3,b3⟩
   case measure=>simp[intOf];omega
  ·have hT:=T.out
   rw[qm0 (by rw[HWL.out];omega)] at hT;have HT0:Hid (Blk wr (w.heap.size+1+1) 148 (zap .u32 (zl2 (zay B 0))).toArray):=qrf hT;clear hT T;go_wp2
   go_loopw [5] (fun i wr=>∃t j:Nat,Hid (t=16+j)/\16<=t/\t<=64/\i= .int .i64 (t:Int)/\Hid (Blk wr (w.heap.size+1+1) 148 (zap .u32 (zl2 (zay B j))).toArray)/\Hid (Blk wr (w.heap.size+1) 148 (zap .u32 zev).toArray)/\New w wr) (fun i _=>64-(intOf i).toNat)
   case atStart=>exact⟨16,0,qrf rfl,by omega,by omega,rfl,HT0,Z,b⟩
   case round=>
    clear P Z b HT0;obtain⟨t,j,HTJ,ht1,ht2,rfl,T,Z,b⟩:=hrel;by_cases hlt:t<64
    ·obtain⟨b15,hb15⟩:∃a,a=t-15:=⟨_,rfl⟩
     obtain⟨b2,hb2⟩:∃a,a=t-2:=⟨_,rfl⟩;obtain⟨b16,hb16⟩:∃a,a=t-16:=⟨_,rfl⟩;obtain⟨b7,hb7⟩:∃a,a=t-7:=⟨_,rfl⟩;have i15:IntKind.i64.wrap ((t:Int)-15)=(b15:Int):=by rw[qrl];omega
     have i2:IntKind.i64.wrap ((t:Int)-2)=(b2:Int):=by rw[qrl];omega
     have i16:IntKind.i64.wrap ((t:Int)-16)=(b16:Int):=by rw[qrl];omega
     have i7:IntKind.i64.wrap ((t:Int)-7)=(b7:Int):=by rw[qrl];omega
     have j15:(b15:Int)<64:=by omega
     have j2:(b2:Int)<64:=by omega
     have j16:(b16:Int)<64:=by omega
     have j7:(b7:Int)<64:=by omega
     have jt:(t:Int)<64:=by omega
     have hlen:(zay B j).length=t:=by rw[zhb,HTJ.out]
     have hplen:(zl2 (zay B j)).length=64:=znv (by omega);have hU:=zzp B h8 j;have hset:=zkn (l:=zay B j) (by omega) (zop (zay B j));rw[hlen,show zay B j++[zop (zay B j)]=zay B (j+1) from rfl] at hset;have hnext:zop (zay B j)=IntKind.u32.wrap (IntKind.u32.wrap (IntKind.u32.wrap ((zay B j).getD b16 0+bits .xor .u32 (bits .xor .u32 (rot ((zay B j).getD b15 0) 7) (rot ((zay B j).getD b15 0) 18)) ((zay B j).getD b15 0/8))+(zay B j).getD b7 0)
      +bits .xor .u32 (bits .xor .u32 (rot ((zay B j).getD b2 0) 17) (rot ((zay B j).getD b2 0) 19)) ((zay B j).getD b2 0/1024)):=by
      unfold zop;rw[hlen,<-hb15,<-hb2,<-hb16,<-hb7]
     have F:=qrf (fun(W:World) (hW:Far (w.heap.size+1+1) wr W) (hN:New wr W)=>show W.cell? ⟨w.heap.size+1+1,b15,none⟩=some (.int .u32 ((zay B j).getD b15 0))/\W.cell? ⟨w.heap.size+1+1,b2,none⟩=some (.int .u32 ((zay B j).getD b2 0))/\W.cell? ⟨w.heap.size+1+1,b16,none⟩=some (.int .u32 ((zay B j).getD b16 0))/\W.cell? ⟨w.heap.size+1+1,b7,none⟩=some (.int .u32 ((zay B j).getD b7 0)) by have T2:=T.out.below hN T.out.lt;have c15:=zcr (i:=b15) T2 (by omega);have c2:=zcr (i:=b2) T2 (by omega);have c16:=zcr (i:=b16) T2 (by omega);have c7:=zcr (i:=b7) T2 (by omega);rw[zzq (by omega)] at c15 c2 c16 c7;exact⟨c15,c2,c16,c7⟩)
     have hux:=qez (k:=b15) hU;have huy:=qez (k:=b2) hU;generalize zop (zay B j)=nx at*;generalize(zay B j).getD b15 0=x at*;generalize(zay B j).getD b2 0=y at*;generalize(zay B j).getD b16 0=v at*;generalize(zay B j).getD b7 0=u at*;have T7:=qrf (fun W:World=>show Calls Tryz.prog 80 #[.int .u32 x,.int .i64 7] W (DrewPost (.int .u32 (rot x 7)) W) from zfk x 7 hux (by omega));have T18:=qrf (fun W:World=>show Calls Tryz.prog 80 #[.int .u32 x,.int .i64 18] W (DrewPost (.int .u32 (rot x 18)) W) from zfk x 18 hux (by omega));have T17:=qrf (fun W:World=>show Calls Tryz.prog 80 #[.int .u32 y,.int .i64 17] W (DrewPost (.int .u32 (rot y 17)) W) from zfk y 17 huy (by omega));have T19:=qrf (fun W:World=>show Calls Tryz.prog 80 #[.int .u32 y,.int .i64 19] W (DrewPost (.int .u32 (rot y 19)) W) from zfk y 19 huy (by omega));have HSET:=qrf hset;have HNEXT:=qrf hnext;have HLEN:=qrf hplen;clear hset hnext hplen hlen hux huy hU hb15 hb2 hb16 hb7;generalize rot x 7=r7 at*;generalize rot x 18=r18 at*;generalize rot y 17=r17 at*;generalize rot y 19=r19 at*;go_wp2
     refine zaw New [(true,0),(true,1),(true,2),(true,3),(true,4),(true,5),(true,6),(true,7),(true,8),(true,9)]
      qrz qr0 (by kernel_rfl) (by kernel_rfl) (by kernel_rfl) (by kernel_rfl) ?_
     have hN:=qr1 wr;iterate 10 (
      refine zaj rfl rfl (v:=?_) (fun W hW=>?_) ?_;rotate_left
      ·obtain⟨y0,y1,y2,y3⟩:=F.out W (qr4 (qr0 hN hW)) (qr0 hN hW)
       go_simp<;> with_reducible rfl
      simp only[Act.put,qoi,qn8,qoj])
     refine zda ?_;go_wp2_with fail
     (with_reducible refine(T7.out _).mono ?_)
     rintro e w2 ⟨rfl,k2,rfl⟩;replace hN:=qr0 hN (zha _ k2);go_wp2_with fail
     (with_reducible refine(T18.out _).mono ?_)
     rintro e w2 ⟨rfl,k3,rfl⟩;replace hN:=qr0 hN (zha _ k3);go_wp2_with fail
     (with_reducible refine(T17.out _).mono ?_)
     rintro e w2 ⟨rfl,k4,rfl⟩;replace hN:=qr0 hN (zha _ k4);go_wp2_with fail
     (with_reducible refine(T19.out _).mono ?_)
     rintro e w2 ⟨rfl,k5,rfl⟩;replace hN:=qr0 hN (zha _ k5);go_wp2_with fail
     refine zcf New 15 [(1,0),(1,1),(1,2),(1,3),(0,4),(1,5),(1,6),(1,7),(1,8),(1,9),(0,10),(1,11),(1,12),(1,13),(1,14),(2,15)]
      qrz qr0 (by kernel_rfl) (by kernel_rfl) (by kernel_rfl) (by kernel_rfl) ?_
     obtain⟨V,hV⟩:∃V,V=(wr.drewN (1+k2+k3+k4+k5)).drew:=⟨_,rfl⟩;have hN2:New wr V:=by rw[hV];exact qr0 (zha _ _) (qr1 _)
     have TD:Blk V (w.heap.size+1+1) 148 (zap .u32 (zl2 (zay B j))).toArray:=by rw[hV];exact T.out
     have ZD:Blk V (w.heap.size+1) 148 (zap .u32 zev).toArray:=by rw[hV];exact Z.out
     rw[<-hV];have HTD:=qrf TD;have HZD:=qrf ZD;clear hV TD ZD hN;repeat(first
      |(refine zb2 rfl rfl (v:=?_) (fun W=>?_) ?_;rotate_left;(go_simp<;> with_reducible rfl);simp only[Act.put,qoi,qn8,qoj])
      |(refine zco rfl rfl (v:=?_) (fun W hW=>?_) ?_;rotate_left;(obtain⟨y0,y1,y2,y3⟩:=F.out W (qr4 (qr0 hN2 hW)) (qr0 hN2 hW);go_simp<;> with_reducible rfl);simp only[Act.put,qoi,qn8,qoj]))
     rw[<-HNEXT.out];have z0:=zcr (i:=t) HTD.out (by rw[HLEN.out];omega);have f0:=HTD.out.frozen t;have hF:Far (w.heap.size+1+1) V (V.setCell ⟨w.heap.size+1+1,t,none⟩ (.int .u32 nx)):=zj6 _ _;have T3:=qrf (zi8 HTD.out (i:=t) nx);rw[HSET.out] at T3;have Z3:=qrf (HZD.out.grown hF (by simp));have b3:=qr6 (qr0 b hN2) hF (by omega);refine zbl rfl rfl (fun K hK=>?_);go_simp
     refine hK _ _ (.inr (.inl rfl)) ?_;clear hK z0 f0 hF;refine zfd ?_;have HTJ2:=qrf (show t+1=16+(j+1) by rw[HTJ.out];omega);clear F HSET HNEXT HLEN HTD HZD i15 i2 i16 i7 j15 j2 j16 j7 jt T7 T17 T18 T19;go_wp2
     go_roundw
     case rel=>exact⟨t+1,j+1,HTJ2,by omega,by omega,by go_num,T3,Z3,b3⟩
     case measure=>simp[intOf];omega
    ·obtain rfl:t=64:=by omega
     have hj:j=48:=by have:=HTJ.out;omega
     subst hj;have hlen:(zay B 48).length=64:=by rw[zhb]
     have hT:=T.out;rw[zuj hlen] at hT;have hsz:(zap .u32 (zay B 48)).toArray.size=64:=by simp[zap,hlen]
     have hz:(zap .u32 zev).toArray.size=64:=by simp[zap,zev]
     have i1:(Tryz.prog.info? 148).map (·.size)=some (zap .u32 (zay B 48)).toArray.size:=by rw[hsz];kernel_rfl
     have G1:=zaf hT;have G2:=zaf Z.out;have hR:=zau Z.out (zap .u32 (zay B 48)).toArray;have hF:=za3 (g:=w.heap.size+1) wr (zap .u32 (zay B 48)).toArray;have bE:=qr6 b hF (by omega);have H:=qrf (qok hsz (qok hz (qok i1 (qok G1 (qok G2 (qok hR bE))))));have hS:zay B 48=zbk B:=rfl;rw[hS] at H;have hone:=zcs .u32 (zbk B);have HONE:=qrf hone;generalize(zap .u32 (zbk B)).toArray=cs at*;clear hT hsz hz i1 G1 G2 hR hF bE hS hone T Z hlen;go_wp2_with (first
      |(refine wpList_load_row rfl 148 (.tmp 3) rfl (w.heap.size+1+1) rfl _ cs _ _ H.out.2.2.2.1 (show Tryz.prog.underlying 148=some (.array 64 97) by kernel_rfl) rfl H.out.2.2.1 ?_)
      |(refine wpList_store_row rfl 148 (.tmp 2) (.tmp 88) rfl (w.heap.size+1) cs rfl rfl _ _ H.out.2.2.2.2.1 H.out.2.2.1 (by rw[H.out.1,H.out.2.1]) HONE.out ?_))
     exact bodyPost_ret (results_cell_row rfl _ _ (w.heap.size+1) _ cs (0,0) _ rfl H.out.2.2.2.2.2.1 (show Tryz.prog.underlying 148=some (.array 64 97) by kernel_rfl) rfl H.out.2.2.1) rfl ⟨rfl,H.out.2.2.2.2.2.2⟩
theorem qbn{w:World}{A:Option Addr}{n c:Nat}{l:List Nat}(x k0:Nat)(h:Reads w w.heap.size 1 A n (zah .u8 l))(hl:n<=140737488355200)(hk0:k0<=8)(hx:x<=18446744073709551615):
 Calls Tryz.prog 71 #[.slice A n c,.int .u64 (x:Int),.int .i64 (k0:Int)] w (zcb (l++low x k0) w):=by
 obtain rfl:=h.len;go_enter Tryz.func71,Tryz.ntmps71
 go_wp2_with (first
  |(refine zal elB rfl (.tmp 9) (.tmp 10) rfl (W:=w) (B:=w.heap.size) (k:= .u8) (l:=[]) (l2:=l) (c2:=c) (Own.empty _ _) ((h.alloc (ql6 _) _).more (by simp)) rfl rfl ((qq8 _ _).alloc (ql6 _) _) (ql6 _) (by simp) (by omega) (by simp only[maxLen];omega) ?_
    simp only[qmy,qmx];intro A1 c1 w1 _ _ o1 _ b1 _))
 have hs0:=b1.size;go_loopw [1,7,8] (fun n v i wr=>∃(k:Nat) (A:Option Addr) (c:Nat),k<=k0/\i= .int .i64 (k:Int)/\n= .int .u64 ((x/256^k:Nat):Int)/\v= .slice A (l.length+k) c/\Own wr w.heap.size 5 (.slice A (l.length+k) c) (zah .u8 (l++low x k))/\Below w.heap.size w wr) (fun _ _ i _=>k0-(intOf i).toNat)
 case atStart=>exact⟨0,_,_,by omega,rfl,by simp,rfl,by simpa[low] using o1,b1⟩
 case round=>
  obtain⟨k,A',c',hk,rfl,rfl,rfl,hown,hb⟩:=hrel;have hz:=hb.size;have hq:x/256^k<=x:=qnh _ _;generalize hy:x/256^k=y at*;have Hy:=qrf hy;clear hy;by_cases hlt:k<k0
  ·go_wp2_with (first
    |(refine zbr elB rfl (.tmp 17) (.tmp 20) rfl (W:=w) (B:=w.heap.size) hown rfl rfl (y%256) (by simp) hb (ql6 _) (by omega) (by omega) (by simp only[maxLen];omega) ?_
      intro A3 c3 w3 _ _ hown3 hg3 hb3 _ _))
   go_roundw
   case rel=>exact⟨k+1,A3,c3,by omega,by go_num,by rw[qm3,<-qo9,Hy.out];go_num,rfl,by rw[qmi,<-Hy.out] at hown3;exact hown3,hb3⟩
   case measure=>simp[intOf];omega
  ·obtain rfl:k=k0:=by omega
   go_wp2
   go_ret
   exact⟨A',_,c',rfl,hown,hb⟩
end Go.Proofs.Y
namespace Go.Hm
open Go Go.RowKit
section
variable{P:Program}{ops:Array Oper}{rest:List Oper}{o:Oper}{a:Act}{Q:Exit->Act->World->Prop}
theorem qbv(z:Value)(hz1:z.oneCell'=true)(n:Nat):madeCells z.cells n=(List.replicate n z).toArray:=by
 have hzc:z.cells= #[z]:=by
  revert hz1;unfold Value.oneCell' Value.cells
  cases z<;> simp
 rw[hzc];apply Array.toList_inj.1;rw[toList_madeCells_one]
theorem z6n{w:World}{t e:TypeId}{z:Value}{bytes:Nat}(E:ElT P t e z 1 bytes){kl kc:IntKind}(n:Nat)(hz1:z.oneCell'=true)(hn:n*bytes<=140737488355328)(hm:n<=maxLen):
 (Instr.makeSlice t (.int kl (n:Int)) (.int kc (n:Int))).run P w= .ok (.slice (some ⟨w.heap.size,0,none⟩) n n) (w.alloc (.cells (List.replicate n z).toArray e)):=by
 obtain⟨i,hi,hz0,hs1,hb1⟩:=info_parts E.hi;have hmC:(n:Int)<=9223372036854775807:=by have h:=hm;simp only[maxLen] at h;omega
 have hbC:(i.bytes:Int)*(n:Int)<=281474976710656:=by
  have h:((i.bytes*n:Nat):Int)<=281474976710656:=by rw[hb1,qmr];omega
  rwa[qms] at h
 have hrun:=run_make (P:=P) w t e i z E.ht hi hz0 kl kc (n:Int) (n:Int) (by omega) (by omega) hbC hmC;rw[qmt,hs1,qmd,qbv z hz1] at hrun;exact hrun
theorem zmg{w:World}{t e:TypeId}{z:Value}{bytes:Nat}(E:ElT P t e z 1 bytes)(hgd:o.guard=none)(lo co:Operand)(ho:o.op=Op.makeSlice t lo co)
 {kl kc:IntKind}{L C:Int}(n:Nat)(hl:a.eval lo= .int kl L)(hc:a.eval co= .int kc C)(hL:L=(n:Int))(hC:C=(n:Int))
 (hz1:z.oneCell'=true)(hn:n*bytes<=140737488355328)(hm:n<=maxLen)
 (h:∀w',Blk w' w.heap.size e (List.replicate n z).toArray->New w w'->w'.heap.size=w.heap.size+1->wpList P ops Q rest (a.put o.dst (.slice (some ⟨w.heap.size,0,none⟩) n n)) w'):
 wpList P ops Q (o::rest) a w:=by
 subst hL hC;have hrun:=z6n (w:=w) E (kl:=kl) (kc:=kc) n hz1 hn hm;refine wpList_plain hgd fun K hK=>?_
 unfold Oper.wp;simp[execOp,ho,hl,hc,hrun,Result.andThen];exact hK _ _ (h _ (by simpa using qrv w e (List.replicate n z).toArray) ((qq8 _ _).alloc (ql6 _) _) (by simp))
theorem z6o{w:World}{K:Act->World->Prop}{t e:TypeId}{z:Value}{bytes:Nat}(E:ElT P t e z 1 bytes)(lo co:Operand)(ho:o.op=Op.makeSlice t lo co)
 {kl kc:IntKind}{L C:Int}(n:Nat)(hl:a.eval lo= .int kl L)(hc:a.eval co= .int kc C)(hL:L=(n:Int))(hC:C=(n:Int))
 (hz1:z.oneCell'=true)(hn:n*bytes<=140737488355328)(hm:n<=maxLen)
 (h:∀w',Blk w' w.heap.size e (List.replicate n z).toArray->New w w'->w'.heap.size=w.heap.size+1->K (a.put o.dst (.slice (some ⟨w.heap.size,0,none⟩) n n)) w'):
 o.wp P a w K Q:=by
 subst hL hC;have hrun:=z6n (w:=w) E (kl:=kl) (kc:=kc) n hz1 hn hm;unfold Oper.wp;simp[execOp,ho,hl,hc,hrun,Result.andThen];exact h _ (by simpa using qrv w e (List.replicate n z).toArray) ((qq8 _ _).alloc (ql6 _) _) (by simp)
theorem z2n{w:World}{ty t:TypeId}{g i:Nat}{u:Value}{cs:Array Value}(hB:Blk w g t cs)(hlt:i<cs.size)(hi:(P.info? ty).map (·.size)=some 1)(h1:u.oneCell'=true):
 (storeVar ty ⟨g,i,none⟩ u).run P w= .ok () (w.setCell ⟨g,i,none⟩ u):=by
 have hc:u.cells= #[u]:=by cases u<;> first|rfl|cases h1
 have:=run_storeCells_cells (P:=P) g i [u] 0 w (fun j hj=>by
  obtain rfl:j=0:=by simpa using hj
  rw[hB.cell,qph,qpu hlt];rfl) (fun j hj=>hB.frozen _) (fun v hv=>by simp at hv;subst hv;exact h1)
 cases hq:P.info? ty with
 |none=>simp[hq] at hi
 |some x=>
  have hs:x.size=1:=by simpa[hq] using hi
  simp only[qph] at this;simp[storeVar,sizeOf,typeInfo,hq,hc,hs,this];rfl
theorem zkz{w:World}{K:Act->World->Prop}(ty:TypeId)(x y:Operand)(ho:o.op= .store ty x y)
 (g i:Nat)(u:Value)(hx:a.eval x= .pointer (some ⟨g,i,none⟩))(hy:a.eval y=u){t:TypeId}{cs:Array Value}(hB:Blk w g t cs)(hlt:i<cs.size)(hi:(P.info? ty).map (·.size)=some 1)(h1:u.oneCell'=true)
 (h:∀W,Blk W g t (cs.setIfInBounds i u)->w.grownBy W (some g)->W.heap.size=w.heap.size->K (a.put o.dst undef) W):o.wp P a w K Q:=by
 unfold Oper.wp execOp;simp only[ho,hx,hy,Instr.storeAt,Instr.sureAddr,qrb,qrc,qrd,z2n hB hlt hi h1];refine h _ (hB.set_ i u) ⟨rfl,rfl,rfl,by simp[World.setCell],fun k _ hne=>qq7 _ _ _ _ (fun e=>hne (by rw[e]))⟩ (by simp[World.setCell])
theorem ze5{w:World}(hgd:o.guard=none)(ty:TypeId)(x y:Operand)(ho:o.op= .store ty x y)
 (g i:Nat)(u:Value)(hx:a.eval x= .pointer (some ⟨g,i,none⟩))(hy:a.eval y=u){t:TypeId}{cs:Array Value}(hB:Blk w g t cs)(hlt:i<cs.size)(hi:(P.info? ty).map (·.size)=some 1)(h1:u.oneCell'=true)
 (h:∀W,Blk W g t (cs.setIfInBounds i u)->w.grownBy W (some g)->W.heap.size=w.heap.size->wpList P ops Q rest (a.put o.dst undef) W):wpList P ops Q (o::rest) a w:=
 wpList_plain hgd fun _ hK=>zkz ty x y ho g i u hx hy hB hlt hi h1 (fun W b g s=>hK _ _ (h W b g s))
end
end Go.Hm
namespace Go.Proofs.Y
open Go.RowKit Go.Hm
def qhd(x y:Int)(w:World)(e:Ending)(w':World):Prop:=∃a b,e= .returned (.complex .f64 a b)/\z3a x y a b/\New w w'
theorem zml{w:World}{x y:Int}(hx:x.natAbs<9007199254740992)(hy:y.natAbs<9007199254740992):
 Calls Tryz.prog 204 #[.agg #[.int .i64 x,.int .i64 y]] w (qhd x y w):=by
 obtain⟨W0,hW0⟩:∃W,W=w.alloc (.cells #[.int .i64 x,.int .i64 y] 73):=⟨_,rfl⟩;have b0:New w W0:=by rw[hW0];exact(qq8 _ _).alloc (ql6 _) _
 have B0:Blk W0 w.heap.size 73 #[.int .i64 x,.int .i64 y]:=by rw[hW0];exact qrv _ _ _
 obtain⟨x0,x1⟩:=zb6 B0;rw[hW0] at x0 x1;have R:=qrf (show z3a x y (floatOfInt .f64 x) (floatOfInt .f64 y) from⟨zvp x hx,zvp y hy⟩);clear B0 hx hy;go_enter Tryz.func204,Tryz.ntmps204
 go_wp2
 go_ret
 exact⟨_,_,rfl,R.out,by rw[<-hW0];exact b0⟩
theorem z0v{w:World}{x y:Int}(hx: -2097152<=x/\x<=2097152)(hy: -2097152<=y/\y<=2097152):
 Calls Tryz.prog 187 #[.agg #[.int .i64 x,.int .i64 y]] w (zak (.int .i64 (x*x+y*y)) w):=by
 obtain⟨W0,hW0⟩:∃W,W=w.alloc (.cells #[.int .i64 x,.int .i64 y] 73):=⟨_,rfl⟩;have b0:New w W0:=by rw[hW0];exact(qq8 _ _).alloc (ql6 _) _
 have B0:Blk W0 w.heap.size 73 #[.int .i64 x,.int .i64 y]:=by rw[hW0];exact qrv _ _ _
 obtain⟨x0,x1⟩:=zb6 B0;rw[hW0] at x0 x1;have P:=qrf (zml (w:=W0) (x:=x) (y:=y) (by omega) (by omega));have KN:=qrf (fun(a b:Nat) (h:z3a x y a b)=>z71 h hx hy);have HW:=qrf hW0;have HB:=qrf b0;clear B0 hx hy hW0 b0;go_enter Tryz.func187,Tryz.ntmps187
 go_wp2_with fail
 rw[<-HW.out];refine P.out.mono ?_;rintro e w1 ⟨a,b,rfl,hr,b1⟩;obtain⟨re,im,e1,e2⟩:=KN.out a b hr;have u:=z3b .f64 b;have m:=fun w:World=>run_complex_mul (P:=Tryz.prog) w 262 a b a (Op.negFloat .f64 b) re im e1
 have f:=fun w:World=>run_convert_float_int (P:=Tryz.prog) w 264 3 .f64 .i64 re _ (by kernel_rfl) (by kernel_rfl) e2
 clear x0 x1 e1 e2 hr P KN;go_wp2
 go_ret
 exact⟨rfl,qr0 HB.out b1⟩
end Go.Proofs.Y
namespace Go.Hm
open Go Go.RowKit
def orI:List Int->Int
 | []=>0
 |x::l=>if x=0 then orI l else x
theorem qi5{l:List Int}{k:Nat}(h:∀j,j<k->l.getD j 0=0)(hk:k<l.length)(hn:l.getD k 0≠0):orI l=l.getD k 0:=by
 induction l generalizing k with
 |nil=>simp at hk
 |cons x l ih=>
  cases k with
  |zero=>
   have:x≠0:=by simpa using hn
   simp[orI,this]
  |succ k=>
   have hx:x=0:=by simpa using h 0 (by omega)
   have:=ih (k:=k) (fun j hj=>by simpa using h (j+1) (by omega)) (by simpa using hk) (by simpa using hn);simp[orI,hx,this]
theorem qc8{l:List Int}(h:∀j,j<l.length->l.getD j 0=0):orI l=0:=by
 induction l with
 |nil=>rfl
 |cons x l ih=>
  have hx:x=0:=by simpa using h 0 (by simp)
  have:=ih (fun j hj=>by simpa using h (j+1) (by simpa using hj));simp[orI,hx,this]
def cmpP(x y u v:Int):Int:=orI [zio (x*x+y*y) (u*u+v*v),zio x u,zio y v]
theorem z72(x:Int):zio x x=0:=by simp[zio]
end Go.Hm
namespace Go.Proofs.Y
open Go.RowKit Go.Hm
theorem qi6{w:World}{A:Option Addr}{n c:Nat}{l:List Int}(h:Reads w w.heap.size 1 A n (zap .i64 l))(hn:n<=4611686018427387903):
 Calls Tryz.prog 186 #[.slice A n c] w (zcv (.int .i64 (orI l)) w):=by
 obtain rfl:=h.lenI;have K1:=qrf (fun(k:Nat) (h:∀j,j<k->l.getD j 0=0) (hk:k<l.length) (hn:l.getD k 0≠0)=>qi5 h hk hn);have K2:=qrf (fun(h:∀j,j<l.length->l.getD j 0=0)=>qc8 h);generalize orI l=O at*;go_enter Tryz.func186,Tryz.ntmps186
 go_wp2
 go_loop [8] (fun i=>∃k:Nat,k<=l.length/\i= .int .i64 (k:Int)/\Hid (∀j,j<k->l.getD j 0=0)) (fun i=>l.length-(intOf i).toNat)
 case atStart=>exact⟨0,by omega,rfl,qrf (by intro j hj;omega)⟩
 case round=>
  obtain⟨k,hk,rfl,H⟩:=hrel;by_cases hlt:k<l.length
  ·obtain⟨ad,rfl,hbk,hcell⟩:=h.int hlt
   have M1:=qrf (fun(hn:l.getD k 0≠0)=>K1.out k H.out hlt hn);have M0:=qrf (fun(hz:l.getD k 0=0)=>show∀j,j<k+1->l.getD j 0=0 by
    intro j hj;rcases qqp.1 hj with hj|rfl
    ·exact H.out j hj
    ·exact hz)
   generalize l.getD k 0=x at*;by_cases hx:x=0
   ·have M2:=qrf (M0.out hx)
    subst hx;clear M0 M1 K1 H;go_wp2
    go_round
    case rel=>exact⟨k+1,by omega,by go_num,M2⟩
    case measure=>simp[intOf];omega
   ·have M2:=qrf (M1.out hx)
    have e1:(x != 0)=true:=by simpa using hx
    clear M0 M1 K1 H hx;go_wp2
    go_ret
    exact⟨by rw[M2.out];rfl,rfl⟩
  ·obtain rfl:k=l.length:=by omega
   have M2:=qrf (K2.out H.out);clear K1 K2 H hlt;go_wp2
   go_ret
   exact⟨by rw[M2.out];rfl,rfl⟩
theorem zvq{w:World}{x y u v:Int}(hx: -2097152<=x/\x<=2097152)(hy: -2097152<=y/\y<=2097152)(hu: -2097152<=u/\u<=2097152)(hv: -2097152<=v/\v<=2097152):
 Calls Tryz.prog 166 #[.agg #[.int .i64 x,.int .i64 y],.agg #[.int .i64 u,.int .i64 v]] w (zak (.int .i64 (cmpP x y u v)) w):=by
 obtain⟨W0,hW0⟩:∃W,W=(w.alloc (.cells #[.int .i64 x,.int .i64 y] 73)).alloc (.cells #[.int .i64 u,.int .i64 v] 73):=⟨_,rfl⟩;have b0:New w W0:=by rw[hW0];exact((qq8 _ _).alloc (ql6 _) _).alloc (by simp) _
 have B0:Blk W0 w.heap.size 73 #[.int .i64 x,.int .i64 y]:=by rw[hW0];exact(qrv _ _ _).alloc _
 have C0:Blk W0 (w.heap.size+1) 73 #[.int .i64 u,.int .i64 v]:=by rw[hW0];have:=qrv (w.alloc (.cells #[.int .i64 x,.int .i64 y] 73)) 73 #[.int .i64 u,.int .i64 v];simpa using this
 have F1:=qrf (fun(W:World) (hW:New W0 W)=>zb6 (B0.below hW B0.lt));have F2:=qrf (fun(W:World) (hW:New W0 W)=>zb6 (C0.below hW C0.lt));have P1:=qrf (fun(W:World)=>z0v (w:=W) hx hy);have P2:=qrf (fun(W:World)=>z0v (w:=W) hu hv);have HW:=qrf hW0;have HB:=qrf b0;have HO:=qrf (show cmpP x y u v=orI [zio (x*x+y*y) (u*u+v*v),zio x u,zio y v] from rfl);generalize cmpP x y u v=O at*;generalize x*x+y*y=nx at*;generalize u*u+v*v=nu at*;clear B0 C0 hx hy hu hv hW0 b0;go_enter Tryz.func166,Tryz.ntmps166
 go_wp2_with fail
 rw[<-HW.out];refine zaw New [(true,0),(true,2),(true,5),(true,6),(true,7),(true,8),(true,10),(true,11),(true,12),(true,13),(false,1),(false,3),(false,4),(false,9),(false,14),(false,15),(false,16),(true,17)]
  qrz qr0 (by kernel_rfl) (by kernel_rfl) (by kernel_rfl) (by kernel_rfl) ?_
 have hU:=qr1 W0;repeat(first
  |(refine zaj rfl rfl (v:=?_) (fun W hW=>?_) ?_;rotate_left;(obtain⟨x0,x1⟩:=F1.out W (qr0 hU hW);obtain⟨y0,y1⟩:=F2.out W (qr0 hU hW);go_simp<;> with_reducible rfl);simp only[Act.put,qoi,qn8,qoj])
  |(refine za6 rfl rfl (fun K hK=>?_);go_simp
    first
     |(with_reducible refine(P1.out _).mono ?_)
     |(with_reducible refine(P2.out _).mono ?_)
    rintro e w9 ⟨rfl,c⟩;refine hK _ _ c ?_;clear hK;replace hU:=qr0 hU c)
  |(refine za6 rfl rfl (fun K hK=>?_);go_simp
    (with_reducible refine cmpI_any.mono ?_)
    rintro e w9 ⟨rfl,rfl⟩;refine hK _ _ (qrz _) ?_;clear hK))
 have bA:New w9 (w9.alloc (.cells #[.int .i64 (zio nx nu),.int .i64 (zio x u),.int .i64 (zio y v)] 3)):=(qq8 _ _).alloc (ql6 _) _;have RL:=qrf (qi6 (c:=3) (qsf w9 3 #[.int .i64 (zio nx nu),.int .i64 (zio x u),.int .i64 (zio y v)] 3 (zap .i64 [zio nx nu,zio x u,zio y v]) rfl rfl) (by omega));rw[<-HO.out] at RL;refine za6 rfl rfl (fun K hK=>?_);go_simp
 refine hK _ _ bA ?_;clear hK;refine za6 rfl rfl (fun K hK=>?_);go_simp
 refine RL.out.mono ?_;rintro e w8 ⟨rfl,rfl⟩;refine hK _ _ (qrz _) ?_;clear hK;replace hU:=qr0 hU bA;refine zaj rfl rfl (v:=?_) (fun W hW=>?_) ?_;rotate_left
 ·go_simp<;> with_reducible rfl
 simp only[Act.put,qoi,qn8,qoj];refine zda ?_;go_wp2
 go_ret
 exact⟨rfl,qr0 HB.out hU⟩
end Go.Proofs.Y
namespace Go.Hm
open Go Go.RowKit
def zjy(t:Int)(a b:zab):Int:=if a.1||b.1 then z4y a.1 b.1 else if t=0\/t=1 then zio a.2.1 b.2.1 else if t=2 then qc4 a.2.2.1 b.2.2.1 else if t=3 then cmpP a.2.2.2.1 a.2.2.2.2 b.2.2.2.1 b.2.2.2.2 else 0
theorem qi7{t:Int}{a b:zab}(h: ¬(t=3/\a.1=false/\b.1=false)):zjy t a b=qi4 t a b:=by
 unfold zjy qi4;by_cases h1:(a.1||b.1)=true
 ·rw[if_pos h1,if_pos h1]
 ·rw[if_neg h1,if_neg h1]
  have h3: ¬t=3:=fun e=>h ⟨e,by simp_all,by simp_all⟩
  simp[h3]
def qhe(x y u v:Int):Prop:=(-2097152<=x/\x<=2097152)/\(-2097152<=y/\y<=2097152)/\(-2097152<=u/\u<=2097152)/\(-2097152<=v/\v<=2097152)
end Go.Hm
namespace Go.Proofs.Y
open Go.RowKit Go.Hm
theorem zvr{w:World}{t:Int}{a b:Bool}{n m:Int}{s r:List Nat}{x y x2 y2:Int}(hp:qhe x y x2 y2):
 Calls Tryz.prog 144 #[.int .i64 t,.agg #[.bool a,.int .i64 n,.string (zai s),.int .i64 x,.int .i64 y],.agg #[.bool b,.int .i64 m,.string (zai r),.int .i64 x2,.int .i64 y2]] w (zak (.int .i64 (zjy t (a,n,s,x,y) (b,m,r,x2,y2))) w):=by
 by_cases h3:t=3/\a=false/\b=false
 ·obtain⟨rfl,rfl,rfl⟩:=h3
  have hO:zjy 3 (false,n,s,x,y) (false,m,r,x2,y2)=cmpP x y x2 y2:=by simp[zjy]
  rw[hO];have P:=qrf (fun(W:World)=>zvq (w:=W) hp.1 hp.2.1 hp.2.2.1 hp.2.2.2);have B0:=qrv w 75 #[.bool false,.int .i64 n,.string (zai s),.int .i64 x,.int .i64 y];have B1:=qrv (w.alloc (.cells #[.bool false,.int .i64 n,.string (zai s),.int .i64 x,.int .i64 y] 75)) 75 #[.bool false,.int .i64 m,.string (zai r),.int .i64 x2,.int .i64 y2];obtain⟨x0,x1,x2',x3,x4⟩:=zc4 (B0.alloc (.cells #[.bool false,.int .i64 m,.string (zai r),.int .i64 x2,.int .i64 y2] 75));obtain⟨y0,y1,y2',y3,y4⟩:=zc4 B1;clear B0 B1 hO hp;go_enter Tryz.func144,Tryz.ntmps144
  go_wp2_with (go_at_call 166;refine(P.out _).mono ?_;rintro e w' ⟨rfl,b1⟩)
  go_ret
  exact⟨rfl,qr0 (zx4 w _ _) b1⟩
 ·rw[qi7 h3]
  exact zyi h3
end Go.Proofs.Y
namespace Go.Hm
open Go Go.RowKit
theorem zpn{x y:Int}:zio x y<=0↔x<=y:=by
 unfold zio;split
 ·omega
 ·split<;> omega
theorem cmpI_zero{x y:Int}:zio x y=0↔x=y:=by
 unfold zio;split
 ·omega
 ·split<;> omega
theorem zn4(x y:Int):zio y x= -zio x y:=by
 unfold zio;by_cases h1:x<y
 ·rw[if_pos h1,if_neg (by omega),if_pos h1];rfl
 ·by_cases h2:y<x
  ·rw[if_pos h2,if_neg h1,if_pos h2]
  ·rw[if_neg h2,if_neg h1,if_neg h1,if_neg h2];rfl
theorem qj9(a b c:Int):orI [a,b,c]=if a=0 then(if b=0 then c else b) else a:=by simp only[orI];by_cases h1:a=0<;> by_cases h2:b=0<;> by_cases h3:c=0<;> simp[h1,h2,h3]
theorem qc9(x y u v:Int):cmpP u v x y= -cmpP x y u v:=by
 unfold cmpP;rw[zn4 (x*x+y*y),zn4 x,zn4 y,qj9,qj9];by_cases h1:zio (x*x+y*y) (u*u+v*v)=0
 ·rw[if_pos (by omega),if_pos h1]
  by_cases h2:zio x u=0
  ·rw[if_pos (by omega),if_pos h2]
  ·rw[if_neg (by omega),if_neg h2]
 ·rw[if_neg (by omega),if_neg h1]
theorem z73{x y u v:Int}:cmpP x y u v=0↔x=u/\y=v:=by
 unfold cmpP;rw[qj9];constructor
 ·intro h
  split at h
  ·split at h
   ·rename_i h1 h2
    exact⟨cmpI_zero.1 h2,cmpI_zero.1 h⟩
   ·rename_i h1 h2
    exact absurd h h2
  ·rename_i h1
   exact absurd h h1
 ·rintro⟨rfl,rfl⟩
  simp[z72]
theorem z74{x y u v:Int}:cmpP x y u v<=0↔x*x+y*y<u*u+v*v\/(x*x+y*y=u*u+v*v/\(x<u\/(x=u/\y<=v))):=by
 unfold cmpP;rw[qj9];generalize x*x+y*y=n;generalize u*u+v*v=m;have a1:= @zpn n m;have a2:= @cmpI_zero n m;have b1:= @zpn x u;have b2:= @cmpI_zero x u;have c1:= @zpn y v;split
 ·split
  ·omega
  ·omega
 ·omega
open Go Go.RowKit
theorem qe9:∀a b:List UInt8,Lib.compareBytes b a= -Lib.compareBytes a b
 | [],[]=>by simp[Lib.compareBytes]
 | [],_::_=>by simp[Lib.compareBytes]
 |_::_,[]=>by simp[Lib.compareBytes]
 |x::a,y::b=>by
  have ih:=qe9 a b;unfold Lib.compareBytes;by_cases h1:x<y
  ·have h2: ¬y<x:=fun h=>UInt8.lt_irrefl _ (UInt8.lt_trans h h1)
   rw[if_neg h2,if_pos h1,if_pos h1];rfl
  ·by_cases h2:y<x
   ·rw[if_pos h2,if_neg h1,if_pos h2]
   ·rw[if_neg h2,if_neg h1,if_neg h1,if_neg h2,ih]
theorem z75:∀a b:List UInt8,Lib.compareBytes a b=0↔a=b
 | [],[]=>by simp[Lib.compareBytes]
 | [],_::_=>by simp[Lib.compareBytes]
 |_::_,[]=>by simp[Lib.compareBytes]
 |x::a,y::b=>by
  have ih:=z75 a b;unfold Lib.compareBytes;by_cases h1:x<y
  ·have hne:x≠y:=by rintro rfl;exact UInt8.lt_irrefl _ h1
   rw[if_pos h1];simp[hne]
  ·by_cases h2:y<x
   ·have hne:x≠y:=by rintro rfl;exact h1 h2
    rw[if_neg h1,if_pos h2];simp[hne]
   ·have he:x=y:=qqq (qqr.1 h2) (qqr.1 h1)
    subst he;rw[if_neg h1,if_neg h1,ih];simp
theorem z0w:∀a b c:List UInt8,Lib.compareBytes a b<=0->Lib.compareBytes b c<=0->Lib.compareBytes a c<=0
 | [],b,[]=>by simp[Lib.compareBytes]
 | [],b,_::_=>by simp[Lib.compareBytes]
 |_::_,[],c=>by simp[Lib.compareBytes]
 |_::_,_::_,[]=>by simp[Lib.compareBytes]
 |x::a,y::b,z::c=>by
  have ih:=z0w a b c;unfold Lib.compareBytes;intro h1 h2;by_cases xz:x<z
  ·rw[if_pos xz];decide
  ·rw[if_neg xz]
   by_cases xy:x<y
   ·have yz: ¬y<z:=fun h=>xz (UInt8.lt_trans xy h)
    rw[if_neg yz] at h2;by_cases zy:z<y
    ·rw[if_pos zy] at h2;omega
    ·have he:y=z:=qqq (qqr.1 zy) (qqr.1 yz)
     exact absurd (he▸xy) xz
   ·rw[if_neg xy] at h1
    by_cases yx:y<x
    ·rw[if_pos yx] at h1;omega
    ·rw[if_neg yx] at h1
     have he:x=y:=qqq (qqr.1 yx) (qqr.1 xy);subst he;rw[if_neg xz] at h2;by_cases zx:z<x
     ·rw[if_pos zx] at h2;omega
     ·rw[if_neg zx] at h2⊢
      exact ih h1 h2
theorem qda{a b:Bool}(h:(a||b)=true):z4y b a= -z4y a b:=by cases a<;> cases b<;> simp_all[z4y]
theorem zn5(t:Int)(a b:zab):zjy t b a= -zjy t a b:=by
 unfold zjy;by_cases h:(a.1||b.1)=true
 ·have h':(b.1||a.1)=true:=by rw[Bool.or_comm];exact h
  rw[if_pos h',if_pos h,qda h]
 ·have h': ¬(b.1||a.1)=true:=by rw[Bool.or_comm];exact h
  rw[if_neg h',if_neg h,zn4 a.2.1,qc9 a.2.2.2.1,qc4,qc4,qe9];split
  ·rfl
  ·split
   ·rfl
   ·split
    ·rfl
    ·rfl
theorem zru:∀{a b:List Nat},(∀z∈a,z<256)->(∀z∈b,z<256)->a.map UInt8.ofNat=b.map UInt8.ofNat->a=b
 | [],[],_,_,_=>rfl
 | [],_::_,_,_,h=>by simp at h
 |_::_,[],_,_,h=>by simp at h
 |x::a,y::b,ha,hb,h=>by
  rw[qmp,qmp,qli] at h;have e1:x=y:=by have:=congrArg UInt8.toNat h.1;rw[qno,qno,qng (ha x (by simp)),qng (hb y (by simp))] at this;exact this
  rw[e1,zru (fun z hz=>ha z (by simp[hz])) (fun z hz=>hb z (by simp[hz])) h.2]
theorem z76{t:Int}{nu:Bool}{a b:zab}(ha:zam a t nu=true)(hb:zam b t nu=true)(fa:∀z∈a.2.2.1,z<256)(fb:∀z∈b.2.2.1,z<256):zjy t a b=0↔a=b:=by
 obtain⟨na,ia,sa,xa,ya⟩:=a;obtain⟨nb,ib,sb,xb,yb⟩:=b;simp only at fa fb;have ht:qc4 sa sb=0↔sa=sb:=by rw[qc4,z75];exact⟨zru fa fb,fun h=>by rw[h]⟩
 unfold zam at ha hb;unfold zjy;cases na<;> cases nb
 ·simp only[Bool.or_self,qqs,if_false] at ha hb⊢
  by_cases h0:t=0
  ·subst h0
   simp at ha hb;simp[cmpI_zero,ha,hb]
  ·by_cases h1:t=1
   ·subst h1
    simp at ha hb;simp[cmpI_zero,ha,hb]
   ·by_cases h2:t=2
    ·subst h2
     simp at ha hb;simp[ht,ha,hb]
    ·by_cases h3:t=3
     ·subst h3
      simp at ha hb;simp[z73,ha,hb]
     ·simp[h0,h1,h2,h3] at ha
 ·simp[z4y]
 ·simp[z4y]
 ·simp at ha hb
  simp[z4y,ha,hb]
theorem zjm{t:Int}{a b c:zab}(h1:zjy t a b<=0)(h2:zjy t b c<=0):zjy t a c<=0:=by
 obtain⟨na,ia,sa,xa,ya⟩:=a;obtain⟨nb,ib,sb,xb,yb⟩:=b;obtain⟨nc,ic,sc,xc,yc⟩:=c;unfold zjy at*;cases na
 ·cases nb
  ·cases nc
   ·simp only[Bool.or_self,qqs,if_false] at h1 h2⊢
    split
    ·rename_i ht
     rw[if_pos ht,zpn] at h1 h2;rw[zpn];omega
    ·rename_i ht
     rw[if_neg ht] at h1 h2;split
     ·rename_i ht
      rw[if_pos ht,qc4] at h1 h2;exact z0w _ _ _ h1 h2
     ·rename_i ht
      rw[if_neg ht] at h1 h2;split
      ·rename_i ht
       rw[if_pos ht,z74] at h1 h2;rw[z74];generalize xa*xa+ya*ya=n1 at*;generalize xb*xb+yb*yb=n2 at*;generalize xc*xc+yc*yc=n3 at*;omega
      ·omega
   ·simp[z4y] at h2
  ·simp[z4y] at h1
 ·cases nc<;> simp[z4y]
theorem zmm{t:Int}{nu:Bool}{a:zab}(h:zam a t nu=true):(-1048576<=a.2.2.2.1/\a.2.2.2.1<=1048576)/\ -1048576<=a.2.2.2.2/\a.2.2.2.2<=1048576:=by
 obtain⟨na,ia,sa,xa,ya⟩:=a;unfold zam at h;show(-1048576<=xa/\xa<=1048576)/\ -1048576<=ya/\ya<=1048576;cases na
 ·simp only[qqs,if_false] at h
  by_cases h0:t=0
  ·subst h0;simp at h;omega
  ·by_cases h1:t=1
   ·subst h1;simp at h;omega
   ·by_cases h2:t=2
    ·subst h2;simp at h;omega
    ·by_cases h3:t=3
     ·subst h3;simp[inBox] at h;omega
     ·simp[h0,h1,h2,h3] at h
 ·simp at h;omega
open Go Go.RowKit
abbrev zdl:=Int × Bool × zab × zab
def zb7:zdl:=(0,false,zbf,zbf)
def zcj(s:zdl):List Value:= .int .i64 s.1:: .bool s.2.1::(za4 s.2.2.1++za4 s.2.2.2)
def nullsL(l:List zab):Nat:=(l.filter fun c=>c.1).length
structure IsStat(t:Int)(l:List zab)(s:zdl):Prop where
 nulls:s.1=(nullsL l:Int)
 has:s.2.1=true↔ ∃c∈l,c.1=false
 none:s.2.1=false->s.2.2.1=zbf/\s.2.2.2=zbf
 least:s.2.1=true->(s.2.2.1∈l/\s.2.2.1.1=false)/\ ∀c∈l,c.1=false->zjy t s.2.2.1 c<=0
 most:s.2.1=true->(s.2.2.2∈l/\s.2.2.2.1=false)/\ ∀c∈l,c.1=false->zjy t c s.2.2.2<=0
theorem zvs(t:Int)(c:zab):zjy t c c=0:=by have:=zn5 t c c;omega
theorem zto(a b:List zab):nullsL (a++b)=nullsL a+nullsL b:=by unfold nullsL;rw[List.filter_append,qmv]
theorem ziz(l:List zab):nullsL l<=l.length:=List.length_filter_le _ _
def zkb(c:zab):zdl:=if c.1 then(1,false,zbf,zbf) else(0,true,c,c)
theorem zrv(t:Int):IsStat t [] zb7:=⟨rfl,by simp[zb7],fun _=>⟨rfl,rfl⟩,fun h=>by simp[zb7] at h,fun h=>by simp[zb7] at h⟩
theorem zrw(t:Int)(c:zab):IsStat t [c] (zkb c):=by
 have h0:=zvs t c;unfold zkb;cases hc:c.1 with
 |true=>
  rw[if_pos rfl];exact⟨by simp[nullsL,hc],by simp[hc],fun _=>⟨rfl,rfl⟩,fun h=>by simp at h,fun h=>by simp at h⟩
 |false=>
  rw[if_neg (by simp)];refine⟨by simp[nullsL,hc],by simp[hc],fun h=>by simp at h,fun _=>⟨⟨by simp,hc⟩,fun d hd _=>?_⟩,fun _=>⟨⟨by simp,hc⟩,fun d hd _=>?_⟩⟩
  ·rw[qne.1 hd]
   show zjy t c c<=0;omega
  ·rw[qne.1 hd]
   show zjy t c c<=0;omega
def zne(t:Int)(a b:zdl):zdl:=
 if a.2.1 then(a.1+b.1,true,if b.2.1&&decide (zjy t b.2.2.1 a.2.2.1<0) then b.2.2.1 else a.2.2.1,if b.2.1&&decide (0<zjy t b.2.2.2 a.2.2.2) then b.2.2.2 else a.2.2.2)
 else if b.2.1 then(a.1+b.1,true,b.2.2.1,b.2.2.2) else(a.1+b.1,false,zbf,zbf)
theorem IsStat.merge{t:Int}{a b:List zab}{x y:zdl}(h:IsStat t a x)(k:IsStat t b y):IsStat t (a++b) (zne t x y):=by
 obtain⟨xn,xh,x1,x2⟩:=x;obtain⟨yn,yh,y1,y2⟩:=y;obtain⟨h1,h2,h3,h4,h5⟩:=h;obtain⟨k1,k2,k3,k4,k5⟩:=k;dsimp only at*;have hn:xn+yn=(nullsL (a++b):Int):=by rw[zto];omega
 have hex:(∃c∈a++b,c.1=false)↔(xh=true\/yh=true):=by
  rw[h2,k2];constructor
  ·rintro⟨c,hc,e⟩
   rcases qnd.1 hc with hc|hc
   ·exact .inl ⟨c,hc,e⟩
   ·exact .inr ⟨c,hc,e⟩
  ·rintro(⟨c,hc,e⟩|⟨c,hc,e⟩)
   ·exact⟨c,qqt _ hc,e⟩
   ·exact⟨c,qqu _ hc,e⟩
 unfold zne;dsimp only;cases xh with
 |true=>
  rw[if_pos rfl];obtain⟨⟨p1,p2⟩,p3⟩:=h4 rfl;obtain⟨⟨q1,q2⟩,q3⟩:=h5 rfl;cases yh with
  |false=>
   have hno:∀c∈b,c.1=false->False:=fun c hc e=>by have:=k2.2 ⟨c,hc,e⟩;simp at this
   simp only[Bool.false_and,qqs,if_false];refine⟨hn,?_,?_,?_,?_⟩
   ·rw[hex];simp
   ·intro h;simp at h
   ·intro _
    exact⟨⟨qqt _ p1,p2⟩,fun c hc e=>by
     rcases qnd.1 hc with hc|hc
     ·exact p3 c hc e
     ·exact(hno c hc e).elim⟩
   ·intro _
    exact⟨⟨qqt _ q1,q2⟩,fun c hc e=>by
     rcases qnd.1 hc with hc|hc
     ·exact q3 c hc e
     ·exact(hno c hc e).elim⟩
  |true=>
   obtain⟨⟨u1,u2⟩,u3⟩:=k4 rfl;obtain⟨⟨v1,v2⟩,v3⟩:=k5 rfl;simp only[qpk,decide_eq_true_eq];refine⟨hn,?_,?_,?_,?_⟩
   ·rw[hex];simp
   ·intro h;simp at h
   ·intro _
    dsimp only;by_cases hlt:zjy t y1 x1<0
    ·rw[if_pos hlt]
     exact⟨⟨qqu _ u1,u2⟩,fun c hc e=>by
      rcases qnd.1 hc with hc|hc
      ·exact zjm (by omega) (p3 c hc e)
      ·exact u3 c hc e⟩
    ·rw[if_neg hlt]
     have hg:zjy t x1 y1<=0:=by rw[zn5];omega
     exact⟨⟨qqt _ p1,p2⟩,fun c hc e=>by
      rcases qnd.1 hc with hc|hc
      ·exact p3 c hc e
      ·exact zjm hg (u3 c hc e)⟩
   ·intro _
    dsimp only;by_cases hlt:0<zjy t y2 x2
    ·rw[if_pos hlt]
     have hg:zjy t x2 y2<=0:=by rw[zn5];omega
     exact⟨⟨qqu _ v1,v2⟩,fun c hc e=>by
      rcases qnd.1 hc with hc|hc
      ·exact zjm (q3 c hc e) hg
      ·exact v3 c hc e⟩
    ·rw[if_neg hlt]
     exact⟨⟨qqt _ q1,q2⟩,fun c hc e=>by
      rcases qnd.1 hc with hc|hc
      ·exact q3 c hc e
      ·exact zjm (v3 c hc e) (by omega)⟩
 |false=>
  have hno:∀c∈a,c.1=false->False:=fun c hc e=>by have:=h2.2 ⟨c,hc,e⟩;simp at this
  rw[if_neg (by simp)];cases yh with
  |false=>
   rw[if_neg (by simp)];exact⟨hn,by rw[hex];simp,fun _=>⟨rfl,rfl⟩,fun h=>by simp at h,fun h=>by simp at h⟩
  |true=>
   rw[if_pos rfl];obtain⟨⟨u1,u2⟩,u3⟩:=k4 rfl;obtain⟨⟨v1,v2⟩,v3⟩:=k5 rfl;refine⟨hn,by rw[hex];simp,fun h=>by simp at h,?_,?_⟩
   ·intro _
    exact⟨⟨qqu _ u1,u2⟩,fun c hc e=>by
     rcases qnd.1 hc with hc|hc
     ·exact(hno c hc e).elim
     ·exact u3 c hc e⟩
   ·intro _
    exact⟨⟨qqu _ v1,v2⟩,fun c hc e=>by
     rcases qnd.1 hc with hc|hc
     ·exact(hno c hc e).elim
     ·exact v3 c hc e⟩
theorem IsStat.uniq{t:Int}{l:List zab}(hr:∀c∈l,zam c t true=true)(h8:∀c∈l,∀z∈c.2.2.1,z<256){x y:zdl}(h:IsStat t l x)(k:IsStat t l y):x=y:=by
 obtain⟨xn,xh,x1,x2⟩:=x;obtain⟨yn,yh,y1,y2⟩:=y;obtain⟨h1,h2,h3,h4,h5⟩:=h;obtain⟨k1,k2,k3,k4,k5⟩:=k;dsimp only at*;have hh:xh=yh:=by rw[qmj,h2,k2]
 subst hh;have key:∀{a b:zab},a∈l->b∈l->zjy t a b<=0->zjy t b a<=0->a=b:=fun {a b} ha hb p q=>by rw[zn5] at q;exact(z76 (hr a ha) (hr b hb) (h8 a ha) (h8 b hb)).1 (by omega)
 rw[show xn=yn by omega];cases xh with
 |false=>
  rw[(h3 rfl).1,(h3 rfl).2,(k3 rfl).1,(k3 rfl).2]
 |true=>
  obtain⟨⟨p1,p2⟩,p3⟩:=h4 rfl;obtain⟨⟨q1,q2⟩,q3⟩:=h5 rfl;obtain⟨⟨u1,u2⟩,u3⟩:=k4 rfl;obtain⟨⟨v1,v2⟩,v3⟩:=k5 rfl;rw[key p1 u1 (p3 _ u1 u2) (u3 _ p1 p2),key q1 v1 (v3 _ q1 q2) (q3 _ v1 v2)]
def zck(t:Int)(s:zdl):Bool:=
 if t<0\/3<t\/s.1<0\/65536<s.1 then false
 else if s.2.1 then zam s.2.2.1 t false&&(zam s.2.2.2 t false&&decide (zjy t s.2.2.1 s.2.2.2<=0))
 else decide (s.2.2.1=zbf)&&decide (s.2.2.2=zbf)
theorem zpo{c:zab}{t:Int}(h:zam c t true=true)(hc:c.1=false):zam c t false=true:=by unfold zam at h⊢;rw[hc] at h⊢;simpa using h
theorem IsStat.right{t:Int}{l:List zab}{s:zdl}(h:IsStat t l s)(hr:∀c∈l,zam c t true=true)(ht:0<=t/\t<=3)(hl:l.length<=65536):zck t s=true:=by
 unfold zck;have hn:=ziz l;have:=h.nulls;rw[if_neg (by omega)];cases hh:s.2.1 with
 |false=>
  obtain⟨e1,e2⟩:=h.none hh;simp[e1,e2]
 |true=>
  obtain⟨⟨p1,p2⟩,p3⟩:=h.least hh;obtain⟨⟨q1,q2⟩,q3⟩:=h.most hh;simp[zpo (hr _ p1) p2,zpo (hr _ q1) q2,p3 _ q1 q2]
open Go Go.RowKit
def zcp(s:zdl):Value:= .agg (zcj s).toArray
end Go.Hm
namespace Go.Proofs.Y
open Go.RowKit Go.Hm
theorem z3c{w:World}(c:zab):Calls Tryz.prog 130 #[zdb c] w (zak (zcp (zkb c)) w):=by
 obtain⟨b,n,s,x,y⟩:=c;cases b with
 |true=>
  show Calls Tryz.prog 130 #[.agg #[.bool true,.int .i64 n,.string (zai s),.int .i64 x,.int .i64 y]] w (zak (zcp (1,false,zbf,zbf)) w);go_enter Tryz.func130,Tryz.ntmps130
  go_wp2
  exact bodyPost_ret (v:=zcp (1,false,zbf,zbf)) (by simp[results,Tryz.results130,go_sem,zcp,zcj,za4,zbf,show zai []=⟨#[]⟩ from rfl]) rfl ⟨rfl,zx4 w _ _⟩
 |false=>
  show Calls Tryz.prog 130 #[.agg #[.bool false,.int .i64 n,.string (zai s),.int .i64 x,.int .i64 y]] w (zak (zcp (0,true,(false,n,s,x,y),(false,n,s,x,y))) w);have B0:=qrv w 75 #[.bool false,.int .i64 n,.string (zai s),.int .i64 x,.int .i64 y];obtain⟨x0,x1,x2,x3,x4⟩:=zc4 (B0.alloc (.cells #[.int .i64 0,.bool false,.bool false,.int .i64 0,.string ⟨#[]⟩,.int .i64 0,.int .i64 0,.bool false,.int .i64 0,.string ⟨#[]⟩,.int .i64 0,.int .i64 0] 133));clear B0;go_enter Tryz.func130,Tryz.ntmps130
  go_wp2
  exact bodyPost_ret (v:=zcp (0,true,(false,n,s,x,y),(false,n,s,x,y))) (by simp[results,Tryz.results130,go_sem,zcp,zcj,za4]) rfl ⟨rfl,zx4 w _ _⟩
end Go.Proofs.Y
namespace Go.Hm
open Go Go.RowKit
section
variable{P:Program}{o:Oper}{a:Act}{Q:Exit->Act->World->Prop}{K:Act->World->Prop}
theorem qei{w:World}{t e:TypeId}{z:Value}{sz bytes:Nat}(E:ElT P t e z sz bytes)(s x:Operand)
 (ho:o.op= .call {callee:= .builtin .append,args:= #[s,x],argTypes:= #[t,t]})
 {W:World}{B base n m c:Nat}{v:Value}{xs news:List Value}{A:Option Addr}(hown:w.ownsRow base e sz v n xs)(hr:Reads w w.heap.size sz A m news)(hs:a.eval s=v)(hx:a.eval x= .slice A m c)
 (hb:Below B W w)(hbB:B<=base)(hbase:base<=w.heap.size)(h1:∀u∈news,u.oneCell'=true)
 (hn:(n+m)*bytes<=140737488355328)(hm:n+m<=maxLen)
 (h:∀A' c' w',n+m<=c'->c'<=maxLen->w'.ownsRow base e sz (.slice A' (n+m) c') (n+m) (xs++news)->w.grownBy w' v.ownBlock->Below B W w'->(Value.ownBlock (.slice A' (n+m) c')=v.ownBlock\/ ∃g,Value.ownBlock (.slice A' (n+m) c')=some g/\w.heap.size<=g)->K (a.put o.dst (.slice A' (n+m) c')) w'):
 Oper.wp P o a w K Q:=by
 obtain⟨i,hi,hz0,hz1,hz2⟩:=info_parts E.hi;rcases A with _|ad
 ·have hm0:m=0:=by
   rcases qmm m with h0|h0
   ·exact h0
   ·obtain⟨ad,h',_⟩:=hr.2 h0
    cases h'
  subst hm0;have hn0:news=[]:=qmn (by have:=hr.1;omega);subst hn0;have hrun:∀ty,(Builtin.append_ #[t,t] ty #[v,.slice none 0 c]).run P w= .ok v w:=by
   intro ty;rcases hown.2 with⟨rfl,hx0⟩|⟨g,cap,cur,rfl,_,_,hnc,_⟩
   ·simp[Builtin.append_,run_underlying E.ht,sizeOf,typeInfo,hi,Builtin.lenOf,Builtin.firstCells]
   ·simp[Builtin.append_,run_underlying E.ht,sizeOf,typeInfo,hi,Builtin.lenOf,Builtin.firstCells,hnc,storeCells]
  obtain⟨A',c',rfl,hc1,hc2⟩:=zcy hown;unfold Oper.wp execOp;simp only[ho,resolve,invoke,builtin,qrb,qrc,qrd,qmo,qmp,qmq,hs,hx,hrun];exact h A' c' w hc1 hc2 (by simpa using hown) (qlp w _) hb (.inl rfl)
 ·have hl:news.length=m*sz:=hr.1
  have hcells:∀j u,news[j]? =some u->w.cell? (ad.add j)=some u:=by
   intro j u hu;rcases qmm m with h0|h0
   ·subst h0
    have hn:news=[]:=qmn (by omega);subst hn;simp at hu
   ·obtain⟨ad',h',_,hc⟩:=hr.2 h0
    injection h' with h';subst h';exact hc j u hu
  obtain⟨v',w',hr',hown',hg,_,hat⟩:=run_append_own_at (P:=P) w base t o.type e i z sz bytes E.ht hi hz0 hz1 hz2 E.hz E.hs v n xs hown ad m c news hl hcells h1 hm hn hbase;obtain⟨A',c',rfl,hc1,hc2⟩:=zcy hown';unfold Oper.wp execOp;simp only[ho,resolve,invoke,builtin,qrb,qrc,qrd,qmo,qmp,qmq,hs,hx,hr'];exact h A' c' w' hc1 hc2 hown' hg (hb.grown hg (qlw hbB hbase) (fun k hk=>by have:=(qln hown k hk).1;omega)) (hat.imp id (fun e=>⟨_,e,ql6 _⟩))
end
end Go.Hm
