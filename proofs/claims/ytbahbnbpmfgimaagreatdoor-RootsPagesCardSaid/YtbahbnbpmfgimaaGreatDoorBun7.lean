/- Merged. -/
import Derived.LaidMore
import Derived.Stop.Joined
import Derived.Test.YtbahbnbpmfgimaaGreatDoorBun6
set_option maxHeartbeats 4000000
namespace Go.Proofs.Y
open Go.RowKit Go.Hm
theorem zfs{w:World}{g:Nat}{ty:TypeId}{l:List Int}{k:IntKind}{i:Nat}(h:Blk w g ty (za7 k l).toArray)(hi:i<l.length):w.cell? ⟨g,i,none⟩=some (.int k (l.getD i 0)):=by rw[h.cell];simpa using zn9 k l i hi
theorem zko{w:World}{g:Nat}{ty:TypeId}{l:List Nat}{k:IntKind}{i:Nat}(h:Blk w g ty (zan k l).toArray)(hi:i<l.length):w.cell? ⟨g,i,none⟩=some (.int k ((l.getD i 0:Nat):Int)):=by rw[h.cell];simpa using zxp k l i hi
theorem zsk{w:World}{g:Nat}{ty:TypeId}{l:List Int}{k:IntKind}{i:Nat}(h:Blk w g ty (za7 k l).toArray)(x:Int):Blk (w.setCell ⟨g,i,none⟩ (.int k x)) g ty (za7 k (l.set i x)).toArray:=by have:=h.set_ i (.int k x);simpa[za7,List.map_set] using this
theorem za5{w:World}{g:Nat}{ty:TypeId}{old:Array Value}(h:Blk w g ty old)(cs:Array Value):Blk (w.setRow g cs) g ty cs:=by unfold Blk at h⊢;simp[World.setRow,Array.getElem?_modify,h]
theorem zbl{g:Nat}(w:World)(cs:Array Value):Far g w (w.setRow g cs):=
 ⟨rfl,rfl,rfl,by simp[World.setRow],fun k _ hne=>by simp[World.setRow,Array.getElem?_modify];intro e;subst e;exact absurd rfl hne⟩
theorem zxw{g i:Nat}(u:Value)(w:World):Far g w (w.setCell ⟨g,i,none⟩ u):=
 ⟨rfl,rfl,rfl,by simp[World.setCell],fun k _ hne=>Below.heap_setCell _ _ _ _ (by rintro rfl;exact hne rfl)⟩
theorem zay{w:World}{g:Nat}{ty:TypeId}{cs:Array Value}(h:Blk w g ty cs):w.heap[g]? =some (.cells cs ty (0,0)):=h
theorem ze8(k:IntKind)(l:List Int):(za7 k l).toArray.all (·.oneCell')=true:=by rw[List.all_toArray,qo4];intro u hu;simp only[za7,qmn] at hu;obtain⟨z,_,rfl⟩:=hu;rfl
def zkp:List Int:=List.replicate 64 0
set_option maxRecDepth 100000 in
theorem z5z{w:World}(B:List Nat)(hB:B.length=64)(h8:∀x∈B,x<256):
 Calls Tryz.prog 79 #[.agg (zan .u8 B).toArray] w (zal (.agg (za7 .u32 (zcr B)).toArray) w):=by
 have hWL:(zgl B).length=16:=by simp[zgl]
 have HWL:=Hz hWL;clear hWL;go_enter Tryz.func79,Tryz.ntmps79
 go_wp2
 go_loopw [10] (fun i wr=>∃k:Nat,k<=16/\i= .int .i64 (k:Int)/\Hid (Blk wr (w.heap.size+1+1) 148 (za7 .u32 (zxt ((zgl B).take k))).toArray)/\Hid (Blk wr w.heap.size 101 (zan .u8 B).toArray)/\Hid (Blk wr (w.heap.size+1) 148 (za7 .u32 zkp).toArray)/\New w wr) (fun i _=>16-(intOf i).toNat)
 case atStart=>
  refine⟨0,by omega,rfl,Hz ?_,Hz ?_,Hz ?_,?_⟩
  ·have h:=Blk.new ((w.alloc (.cells (zan .u8 B).toArray 101)).alloc (.cells (za7 .u32 zkp).toArray 148)) 148 (za7 .u32 zkp).toArray
   simp only[World.alloc,Array.size_push] at h;exact h
  ·exact((Blk.new w _ _).alloc _).alloc _
  ·have h:=(Blk.new (w.alloc (.cells (zan .u8 B).toArray 101)) 148 (za7 .u32 zkp).toArray).alloc (.cells (za7 .u32 zkp).toArray 148)
   simp only[World.alloc,Array.size_push] at h;exact h
  ·exact(((Below.refl _ _).alloc (qmt _) _).alloc (by simp) _).alloc (by simp;omega) _
 case round=>
  obtain⟨k,hk,rfl,T,P,Z,b⟩:=hrel;by_cases hlt:k<16
  ·obtain⟨a,ha⟩:∃a,a=4*k:=⟨_,rfl⟩
   obtain⟨a1,ha1⟩:∃a,a=4*k+1:=⟨_,rfl⟩;obtain⟨a2,ha2⟩:∃a,a=4*k+2:=⟨_,rfl⟩;obtain⟨a3,ha3⟩:∃a,a=4*k+3:=⟨_,rfl⟩;have i0:IntKind.i64.wrap (4*(k:Int))=(a:Int):=by rw[IntKind.wrap_i64];omega
   have i1:IntKind.i64.wrap ((a:Int)+1)=(a1:Int):=by rw[IntKind.wrap_i64];omega
   have i2:IntKind.i64.wrap ((a:Int)+2)=(a2:Int):=by rw[IntKind.wrap_i64];omega
   have i3:IntKind.i64.wrap ((a:Int)+3)=(a3:Int):=by rw[IntKind.wrap_i64];omega
   have j0:(a:Int)<64:=by omega
   have j1:(a1:Int)<64:=by omega
   have j2:(a2:Int)<64:=by omega
   have j3:(a3:Int)<64:=by omega
   have hx0:=zfj B a h8;have hx1:=zfj B a1 h8;have hx2:=zfj B a2 h8;have hx3:=zfj B a3 h8;have hst:=zxu (B:=B) hlt;rw[<-ha1,<-ha2,<-ha3,<-ha] at hst;have hor:=qgm hx0 hx1 hx2 hx3;have hset:=zz3 (l:=(zgl B).take k) (by rw[qmq,HWL.out];omega) (zum (B.getD a 0) (B.getD a1 0) (B.getD a2 0) (B.getD a3 0));rw[<-hst,qmq,HWL.out,qmr (by omega)] at hset;have F:=Hz (fun(W:World) (hW:Far (w.heap.size+1+1) wr W)=>show W.cell? ⟨w.heap.size,a,none⟩=some (.int .u8 ((B.getD a 0:Nat):Int))/\W.cell? ⟨w.heap.size,a1,none⟩=some (.int .u8 ((B.getD a1 0:Nat):Int))/\W.cell? ⟨w.heap.size,a2,none⟩=some (.int .u8 ((B.getD a2 0:Nat):Int))/\W.cell? ⟨w.heap.size,a3,none⟩=some (.int .u8 ((B.getD a3 0:Nat):Int)) by have P2:=P.out.grown hW (by simp;omega);exact⟨zko P2 (by omega),zko P2 (by omega),zko P2 (by omega),zko P2 (by omega)⟩)
   generalize B.getD a 0=x0 at*;generalize B.getD a1 0=x1 at*;generalize B.getD a2 0=x2 at*;generalize B.getD a3 0=x3 at*;have HSET:=Hz hset;have HOR:=Hz hor;have hk64:(k:Int)<64:=by omega
   have HT:=Hz (zz2 (l:=(zgl B).take k) (by rw[qmq,HWL.out];omega));clear ha ha1 ha2 ha3 hst hset hor hx0 hx1 hx2 hx3;go_wp2
   refine zax (Far (w.heap.size+1+1)) [(true,0),(true,1),(true,2),(true,3),(true,4),(true,5),(true,6),(true,7),(true,8),(true,9),(true,10),(true,11),(true,12),(true,13),(true,14),(true,15),(true,16),(true,17),(true,18),(true,19),(true,20),(true,21),(true,22),(true,23),(true,24),(true,25),(true,26),(true,27),(true,28),(true,29),(true,30),(false,31)]
    (Far.refl _) Far.trans (by kernel_rfl) (by kernel_rfl) (by kernel_rfl) (by kernel_rfl) ?_
   iterate 31 (
    refine zar rfl rfl (v:=?_) (fun W hW=>?_) ?_;rotate_left
    ·obtain⟨y0,y1,y2,y3⟩:=F.out W (Far.trans (Far.drew _ wr) hW)
     go_simp<;> with_reducible rfl
    simp only[Act.put,qo6,qou,qo7])
   rw[HOR.out];have T2:Blk wr.drew (w.heap.size+1+1) 148 (za7 .u32 (zxt ((zgl B).take k))).toArray:=T.out;have z0:=zfs (i:=k) T2 (by rw[HT.out];omega);have f0:=T2.frozen k;have hF:Far (w.heap.size+1+1) wr.drew (wr.drew.setCell ⟨w.heap.size+1+1,k,none⟩ (.int .u32 (zum x0 x1 x2 x3))):=zxw _ _;have T3:=Hz (zsk T2 (i:=k) (zum x0 x1 x2 x3));clear T2;refine zba rfl rfl (fun K hK=>?_);go_simp
   refine hK _ _ hF ?_;clear hK z0 f0;refine zdh ?_;rw[HSET.out] at T3;have hF2:=Far.trans (Far.drew _ wr) hF;have P3:=Hz (P.out.grown hF2 (by simp;omega));have Z3:=Hz (Z.out.grown hF2 (by simp));have b3:=New.far b hF2 (by omega);clear F HSET HOR HT hF hF2 i0 i1 i2 i3 j0 j1 j2 j3;go_wp2
   go_roundw
   case rel=>exact⟨k+1,by omega,by go_num,T3,P3,Z3,b3⟩
   case measure=>simp[intOf];omega
  ·have hT:=T.out
   rw[qnn (by rw[HWL.out];omega)] at hT;have HT0:Hid (Blk wr (w.heap.size+1+1) 148 (za7 .u32 (zxt (zbr B 0))).toArray):=Hz hT;clear hT T;go_wp2
   go_loopw [5] (fun i wr=>∃t j:Nat,Hid (t=16+j)/\16<=t/\t<=64/\i= .int .i64 (t:Int)/\Hid (Blk wr (w.heap.size+1+1) 148 (za7 .u32 (zxt (zbr B j))).toArray)/\Hid (Blk wr (w.heap.size+1) 148 (za7 .u32 zkp).toArray)/\New w wr) (fun i _=>64-(intOf i).toNat)
   case atStart=>exact⟨16,0,Hz rfl,by omega,by omega,rfl,HT0,Z,b⟩
   case round=>
    clear P Z b HT0;obtain⟨t,j,HTJ,ht1,ht2,rfl,T,Z,b⟩:=hrel;by_cases hlt:t<64
    ·obtain⟨b15,hb15⟩:∃a,a=t-15:=⟨_,rfl⟩
     obtain⟨b2,hb2⟩:∃a,a=t-2:=⟨_,rfl⟩;obtain⟨b16,hb16⟩:∃a,a=t-16:=⟨_,rfl⟩;obtain⟨b7,hb7⟩:∃a,a=t-7:=⟨_,rfl⟩;have i15:IntKind.i64.wrap ((t:Int)-15)=(b15:Int):=by rw[IntKind.wrap_i64];omega
     have i2:IntKind.i64.wrap ((t:Int)-2)=(b2:Int):=by rw[IntKind.wrap_i64];omega
     have i16:IntKind.i64.wrap ((t:Int)-16)=(b16:Int):=by rw[IntKind.wrap_i64];omega
     have i7:IntKind.i64.wrap ((t:Int)-7)=(b7:Int):=by rw[IntKind.wrap_i64];omega
     have j15:(b15:Int)<64:=by omega
     have j2:(b2:Int)<64:=by omega
     have j16:(b16:Int)<64:=by omega
     have j7:(b7:Int)<64:=by omega
     have jt:(t:Int)<64:=by omega
     have hlen:(zbr B j).length=t:=by rw[zlz,HTJ.out]
     have hplen:(zxt (zbr B j)).length=64:=zz2 (by omega);have hU:=zz1 B h8 j;have hset:=zz3 (l:=zbr B j) (by omega) (z2i (zbr B j));rw[hlen,show zbr B j++[z2i (zbr B j)]=zbr B (j+1) from rfl] at hset;have hnext:z2i (zbr B j)=IntKind.u32.wrap (IntKind.u32.wrap (IntKind.u32.wrap ((zbr B j).getD b16 0+bits .xor .u32 (bits .xor .u32 (rot ((zbr B j).getD b15 0) 7) (rot ((zbr B j).getD b15 0) 18)) ((zbr B j).getD b15 0/8))+(zbr B j).getD b7 0)
      +bits .xor .u32 (bits .xor .u32 (rot ((zbr B j).getD b2 0) 17) (rot ((zbr B j).getD b2 0) 19)) ((zbr B j).getD b2 0/1024)):=by
      unfold z2i;rw[hlen,<-hb15,<-hb2,<-hb16,<-hb7]
     have F:=Hz (fun(W:World) (hW:Far (w.heap.size+1+1) wr W) (hN:New wr W)=>show W.cell? ⟨w.heap.size+1+1,b15,none⟩=some (.int .u32 ((zbr B j).getD b15 0))/\W.cell? ⟨w.heap.size+1+1,b2,none⟩=some (.int .u32 ((zbr B j).getD b2 0))/\W.cell? ⟨w.heap.size+1+1,b16,none⟩=some (.int .u32 ((zbr B j).getD b16 0))/\W.cell? ⟨w.heap.size+1+1,b7,none⟩=some (.int .u32 ((zbr B j).getD b7 0)) by have T2:=T.out.below hN T.out.lt;have c15:=zfs (i:=b15) T2 (by omega);have c2:=zfs (i:=b2) T2 (by omega);have c16:=zfs (i:=b16) T2 (by omega);have c7:=zfs (i:=b7) T2 (by omega);rw[qbp (by omega)] at c15 c2 c16 c7;exact⟨c15,c2,c16,c7⟩)
     have hux:=qfk (k:=b15) hU;have huy:=qfk (k:=b2) hU;generalize z2i (zbr B j)=nx at*;generalize(zbr B j).getD b15 0=x at*;generalize(zbr B j).getD b2 0=y at*;generalize(zbr B j).getD b16 0=v at*;generalize(zbr B j).getD b7 0=u at*;have T7:=Hz (fun W:World=>show Calls Tryz.prog 80 #[.int .u32 x,.int .i64 7] W (DrewPost (.int .u32 (rot x 7)) W) from ze7 x 7 hux (by omega));have T18:=Hz (fun W:World=>show Calls Tryz.prog 80 #[.int .u32 x,.int .i64 18] W (DrewPost (.int .u32 (rot x 18)) W) from ze7 x 18 hux (by omega));have T17:=Hz (fun W:World=>show Calls Tryz.prog 80 #[.int .u32 y,.int .i64 17] W (DrewPost (.int .u32 (rot y 17)) W) from ze7 y 17 huy (by omega));have T19:=Hz (fun W:World=>show Calls Tryz.prog 80 #[.int .u32 y,.int .i64 19] W (DrewPost (.int .u32 (rot y 19)) W) from ze7 y 19 huy (by omega));have HSET:=Hz hset;have HNEXT:=Hz hnext;have HLEN:=Hz hplen;clear hset hnext hplen hlen hux huy hU hb15 hb2 hb16 hb7;generalize rot x 7=r7 at*;generalize rot x 18=r18 at*;generalize rot y 17=r17 at*;generalize rot y 19=r19 at*;go_wp2
     refine zax New [(true,0),(true,1),(true,2),(true,3),(true,4),(true,5),(true,6),(true,7),(true,8),(true,9)]
      New.refl New.trans (by kernel_rfl) (by kernel_rfl) (by kernel_rfl) (by kernel_rfl) ?_
     have hN:=New.drew wr;iterate 10 (
      refine zar rfl rfl (v:=?_) (fun W hW=>?_) ?_;rotate_left
      ·obtain⟨y0,y1,y2,y3⟩:=F.out W (Far.of_new (New.trans hN hW)) (New.trans hN hW)
       go_simp<;> with_reducible rfl
      simp only[Act.put,qo6,qou,qo7])
     refine zdh ?_;go_wp2_with fail
     (with_reducible refine(T7.out _).mono ?_)
     rintro e w2 ⟨rfl,k2,rfl⟩;replace hN:=New.trans hN (zg2 _ k2);go_wp2_with fail
     (with_reducible refine(T18.out _).mono ?_)
     rintro e w2 ⟨rfl,k3,rfl⟩;replace hN:=New.trans hN (zg2 _ k3);go_wp2_with fail
     (with_reducible refine(T17.out _).mono ?_)
     rintro e w2 ⟨rfl,k4,rfl⟩;replace hN:=New.trans hN (zg2 _ k4);go_wp2_with fail
     (with_reducible refine(T19.out _).mono ?_)
     rintro e w2 ⟨rfl,k5,rfl⟩;replace hN:=New.trans hN (zg2 _ k5);go_wp2_with fail
     refine zb2 New 15 [(1,0),(1,1),(1,2),(1,3),(0,4),(1,5),(1,6),(1,7),(1,8),(1,9),(0,10),(1,11),(1,12),(1,13),(1,14),(2,15)]
      New.refl New.trans (by kernel_rfl) (by kernel_rfl) (by kernel_rfl) (by kernel_rfl) ?_
     obtain⟨V,hV⟩:∃V,V=(wr.drewN (1+k2+k3+k4+k5)).drew:=⟨_,rfl⟩;have hN2:New wr V:=by rw[hV];exact New.trans (zg2 _ _) (New.drew _)
     have TD:Blk V (w.heap.size+1+1) 148 (za7 .u32 (zxt (zbr B j))).toArray:=by rw[hV];exact T.out
     have ZD:Blk V (w.heap.size+1) 148 (za7 .u32 zkp).toArray:=by rw[hV];exact Z.out
     rw[<-hV];have HTD:=Hz TD;have HZD:=Hz ZD;clear hV TD ZD hN;repeat(first
      |(refine zbh rfl rfl (v:=?_) (fun W=>?_) ?_;rotate_left;(go_simp<;> with_reducible rfl);simp only[Act.put,qo6,qou,qo7])
      |(refine zbm rfl rfl (v:=?_) (fun W hW=>?_) ?_;rotate_left;(obtain⟨y0,y1,y2,y3⟩:=F.out W (Far.of_new (New.trans hN2 hW)) (New.trans hN2 hW);go_simp<;> with_reducible rfl);simp only[Act.put,qo6,qou,qo7]))
     rw[<-HNEXT.out];have z0:=zfs (i:=t) HTD.out (by rw[HLEN.out];omega);have f0:=HTD.out.frozen t;have hF:Far (w.heap.size+1+1) V (V.setCell ⟨w.heap.size+1+1,t,none⟩ (.int .u32 nx)):=zxw _ _;have T3:=Hz (zsk HTD.out (i:=t) nx);rw[HSET.out] at T3;have Z3:=Hz (HZD.out.grown hF (by simp));have b3:=New.far (New.trans b hN2) hF (by omega);refine zav rfl rfl (fun K hK=>?_);go_simp
     refine hK _ _ (.inr (.inl rfl)) ?_;clear hK z0 f0 hF;refine zed ?_;have HTJ2:=Hz (show t+1=16+(j+1) by rw[HTJ.out];omega);clear F HSET HNEXT HLEN HTD HZD i15 i2 i16 i7 j15 j2 j16 j7 jt T7 T17 T18 T19;go_wp2
     go_roundw
     case rel=>exact⟨t+1,j+1,HTJ2,by omega,by omega,by go_num,T3,Z3,b3⟩
     case measure=>simp[intOf];omega
    ·obtain rfl:t=64:=by omega
     have hj:j=48:=by have:=HTJ.out;omega
     subst hj;have hlen:(zbr B 48).length=64:=by rw[zlz]
     have hT:=T.out;rw[z5v hlen] at hT;have hsz:(za7 .u32 (zbr B 48)).toArray.size=64:=by simp[za7,hlen]
     have hz:(za7 .u32 zkp).toArray.size=64:=by simp[za7,zkp]
     have i1:(Tryz.prog.info? 148).map (·.size)=some (za7 .u32 (zbr B 48)).toArray.size:=by rw[hsz];kernel_rfl
     have G1:=zay hT;have G2:=zay Z.out;have hR:=za5 Z.out (za7 .u32 (zbr B 48)).toArray;have hF:=zbl (g:=w.heap.size+1) wr (za7 .u32 (zbr B 48)).toArray;have bE:=New.far b hF (by omega);have H:=Hz (qo8 hsz (qo8 hz (qo8 i1 (qo8 G1 (qo8 G2 (qo8 hR bE))))));have hS:zbr B 48=zcr B:=rfl;rw[hS] at H;have hone:=ze8 .u32 (zcr B);have HONE:=Hz hone;generalize(za7 .u32 (zcr B)).toArray=cs at*;clear hT hsz hz i1 G1 G2 hR hF bE hS hone T Z hlen;go_wp2_with (first
      |(refine wpList_load_row rfl 148 (.tmp 3) rfl (w.heap.size+1+1) rfl _ cs _ _ H.out.2.2.2.1 (show Tryz.prog.underlying 148=some (.array 64 97) by kernel_rfl) rfl H.out.2.2.1 ?_)
      |(refine wpList_store_row rfl 148 (.tmp 2) (.tmp 88) rfl (w.heap.size+1) cs rfl rfl _ _ H.out.2.2.2.2.1 H.out.2.2.1 (by rw[H.out.1,H.out.2.1]) HONE.out ?_))
     exact bodyPost_ret (results_cell_row rfl _ _ (w.heap.size+1) _ cs (0,0) _ rfl H.out.2.2.2.2.2.1 (show Tryz.prog.underlying 148=some (.array 64 97) by kernel_rfl) rfl H.out.2.2.1) rfl ⟨rfl,H.out.2.2.2.2.2.2⟩
end Go.Proofs.Y
namespace Go.Hm
open Go Go.RowKit
theorem qjc{w:World}{g:Nat}{ty:TypeId}{s:S8}(h:Blk w g ty (zby s)):w.cell? ⟨g,0,none⟩=some (.int .u32 s.1)/\w.cell? ⟨g,1,none⟩=some (.int .u32 s.2.1)/\w.cell? ⟨g,2,none⟩=some (.int .u32 s.2.2.1)/\w.cell? ⟨g,3,none⟩=some (.int .u32 s.2.2.2.1)/\w.cell? ⟨g,4,none⟩=some (.int .u32 s.2.2.2.2.1)/\w.cell? ⟨g,5,none⟩=some (.int .u32 s.2.2.2.2.2.1)/\w.cell? ⟨g,6,none⟩=some (.int .u32 s.2.2.2.2.2.2.1)/\w.cell? ⟨g,7,none⟩=some (.int .u32 s.2.2.2.2.2.2.2):=by have e:∀i,w.cell? ⟨g,i,none⟩=(zby s)[i]? :=h.cell;exact⟨e 0,e 1,e 2,e 3,e 4,e 5,e 6,e 7⟩
def ConstIn(w:World):Prop:=1<w.heap.size/\ ∀i,i<64->w.cell? ⟨1,i,none⟩=some (.int .u32 (kI.getD i 0))
theorem zi3(s:S8):(zby s).all (·.oneCell')=true:=by simp[zby,Value.oneCell']
theorem zck(w:World)(t:TypeId)(old cs:Array Value):(w.alloc (.cells old t)).setRow w.heap.size cs=w.alloc (.cells cs t):=by
 unfold World.alloc World.setRow;congr 1
 apply Array.ext_getElem?;intro i;simp only[qmz,Array.getElem?_push];by_cases h:i=w.heap.size
 ·subst h;simp
 ·simp[h];intro h2;exact absurd h2.symm h
theorem ConstIn.new{w w':World}(h:ConstIn w)(hb:New w w'):ConstIn w':=⟨qmo h.1 hb.size,fun i hi=>(hb.cell h.1).trans (h.2 i hi)⟩
end Go.Hm
namespace Go.Proofs.Y
open Go.RowKit Go.Hm
set_option maxRecDepth 100000 in
theorem zmt{w:World}(s:S8)(hs:OkS s)(B:List Nat)(hB:B.length=64)(h8:∀x∈B,x<256)(hC:ConstIn w):
 Calls Tryz.prog 46 #[.agg (zby s),.agg (zan .u8 B).toArray] w (zal (.agg (zby (z2j s B))) w):=by
 obtain⟨W0,hW0⟩:∃W,W=((w.alloc (.cells (zby s) 98)).alloc (.cells (zan .u8 B).toArray 101)).alloc (.cells (zby (0,0,0,0,0,0,0,0)) 98):=⟨_,rfl⟩;have e1:(w.alloc (.cells (zby s) 98)).heap.size=w.heap.size+1:=by simp
 have e2:((w.alloc (.cells (zby s) 98)).alloc (.cells (zan .u8 B).toArray 101)).heap.size=w.heap.size+1+1:=by simp
 have b0:New w W0:=by rw[hW0];exact(((Below.refl _ _).alloc (qmt _) _).alloc (by simp) _).alloc (by simp;omega) _
 have A0:Blk W0 w.heap.size 98 (zby s):=by rw[hW0];exact((Blk.new _ _ _).alloc _).alloc _
 have P0:Blk W0 (w.heap.size+1) 101 (zan .u8 B).toArray:=by rw[hW0,<-e1];exact(Blk.new _ _ _).alloc _
 have R0:Blk W0 (w.heap.size+1+1) 98 (zby (0,0,0,0,0,0,0,0)):=by rw[hW0,<-e2];exact Blk.new _ _ _
 have hsz:(zan .u8 B).toArray.size=64:=by simp[zan,hB]
 have hi1:(Tryz.prog.info? 101).map (·.size)=some (zan .u8 B).toArray.size:=by rw[hsz];kernel_rfl
 have L1:=Hz (qo8 (zay P0) hi1);have SC:=Hz (fun W:World=>z5z (w:=W) B hB h8);have HW:=Hz (show W0=((w.alloc (.cells #[.int .u32 s.1,.int .u32 s.2.1,.int .u32 s.2.2.1,.int .u32 s.2.2.2.1,.int .u32 s.2.2.2.2.1,.int .u32 s.2.2.2.2.2.1,.int .u32 s.2.2.2.2.2.2.1,.int .u32 s.2.2.2.2.2.2.2] 98)).alloc (.cells (zan .u8 B).toArray 101)).alloc (.cells #[.int .u32 0,.int .u32 0,.int .u32 0,.int .u32 0,.int .u32 0,.int .u32 0,.int .u32 0,.int .u32 0] 98) from hW0);have HA:=Hz A0;have HP:=Hz P0;have HR:=Hz R0;have HB:=Hz b0;have HK:=Hz (hC.new b0);clear hW0 e1 e2 A0 P0 R0 b0 hi1 hsz;have HS:=Hz hs;have h0:=L1.out;rw[HW.out] at h0;have L0:=Hz h0;have hcs:(za7 .u32 (zcr B)).toArray.size=64:=by simp[za7,zra]
 have hi2:(Tryz.prog.info? 148).map (·.size)=some (za7 .u32 (zcr B)).toArray.size:=by rw[hcs];kernel_rfl
 have CS:=Hz (qo8 hcs (qo8 hi2 (ze8 .u32 (zcr B))));have SU:=Hz (qbr B h8);have SL:=Hz (zra B);rw[show(.agg (zby s):Value)= .agg #[.int .u32 s.1,.int .u32 s.2.1,.int .u32 s.2.2.1,.int .u32 s.2.2.2.1,.int .u32 s.2.2.2.2.1,.int .u32 s.2.2.2.2.2.1,.int .u32 s.2.2.2.2.2.2.1,.int .u32 s.2.2.2.2.2.2.2] from rfl];clear L1 h0 hcs hi2 hB h8 hC hs;go_enter Tryz.func46,Tryz.ntmps46
 go_wp2_with (refine wpList_load_row rfl 101 (.tmp 3) rfl (w.heap.size+1) rfl _ (zan .u8 B).toArray _ _ L0.out.1 (show Tryz.prog.underlying 101=some (.array 64 5) by kernel_rfl) rfl L0.out.2 ?_)
 rw[<-HW.out];refine(SC.out _).mono ?_;rintro e w1 ⟨rfl,b1⟩;clear SC HW L0 HP;go_wp2_with (refine wpList_store_row rfl 148 (.tmp 5) (.tmp 18) rfl w1.heap.size (za7 .u32 (zcr B)).toArray rfl rfl _ _ (heap_alloc_new _ _) CS.out.2.1 (by rw[CS.out.1];rfl) CS.out.2.2 ?_;rw[zck])
 obtain⟨W2,hW2⟩:∃W,W=w1.alloc (.cells (za7 .u32 (zcr B)).toArray 148):=⟨_,rfl⟩;have b2:New W0 W2:=by rw[hW2];exact New.trans b1 ((Below.refl _ _).alloc (qmt _) _)
 have C2:Blk W2 w1.heap.size 148 (za7 .u32 (zcr B)).toArray:=by rw[hW2];exact Blk.new _ _ _
 rw[<-hW2];have F:=Hz (fun(W:World) (hW:New W2 W)=>qjc (HA.out.below (New.trans b2 hW) HA.out.lt));have FK:=Hz (fun(t:Nat) (ht:t<64) (W:World) (hW:New W2 W)=>qo8 ((HK.out.new (New.trans b2 hW)).2 t ht) (zfs (i:=t) (C2.below hW C2.lt) (by rw[SL.out];exact ht)));have HR2:=Hz (HR.out.below b2 HR.out.lt);have HB2:=Hz (New.trans HB.out b2);have hg5:w.heap.size+1+1<W2.heap.size:=HR2.out.lt;generalize hgc:w1.heap.size=gc at*;clear hgc hW2 b1 b2 C2 HA HR HB HK hg5 CS;refine zax New [(true,0),(true,1),(true,2),(true,3),(true,4),(true,5),(true,6),(true,7),(true,8),(true,9),(true,10),(true,11),(true,12),(true,13),(true,14),(true,15),(true,16),(true,17),(true,18),(true,19),(true,20),(true,21),(true,22),(true,23)]
  New.refl New.trans (by kernel_rfl) (by kernel_rfl) (by kernel_rfl) (by kernel_rfl) ?_
 iterate 24 (
  refine zar rfl rfl (v:=?_) (fun W hW=>?_) ?_;rotate_left
  ·obtain⟨x0,x1,x2,x3,x4,x5,x6,x7⟩:=F.out W (New.trans (New.drew W2) hW)
   go_simp<;> with_reducible rfl
  simp only[Act.put,qo6,qou,qo7])
 refine zdh ?_;go_wp2
 go_loopw [6,7,8,9,10,11,12,13,35] (fun a b c d e f g i k wr=>∃t:Nat,t<=64/\k= .int .i64 (t:Int)/\a= .int .u32 (zfc (zcr B) s t).1/\b= .int .u32 (zfc (zcr B) s t).2.1/\c= .int .u32 (zfc (zcr B) s t).2.2.1/\d= .int .u32 (zfc (zcr B) s t).2.2.2.1/\e= .int .u32 (zfc (zcr B) s t).2.2.2.2.1/\f= .int .u32 (zfc (zcr B) s t).2.2.2.2.2.1/\g= .int .u32 (zfc (zcr B) s t).2.2.2.2.2.2.1/\i= .int .u32 (zfc (zcr B) s t).2.2.2.2.2.2.2/\New W2 wr) (fun _ _ _ _ _ _ _ _ k _=>64-(intOf k).toNat)
 case atStart=>exact⟨0,by omega,rfl,rfl,rfl,rfl,rfl,rfl,rfl,rfl,rfl,New.drew W2⟩
 case round=>
  obtain⟨t,ht,rfl,rfl,rfl,rfl,rfl,rfl,rfl,rfl,rfl,b⟩:=hrel;by_cases hlt:t<64
  ·have hok:=z5w (W:=zcr B) HS.out t
   have hst:zfc (zcr B) s (t+1)=qgn (kI.getD t 0) ((zcr B).getD t 0) (zfc (zcr B) s t):=rfl;have F2:=Hz (FK.out t hlt);have HST:=Hz hst;generalize hr:zfc (zcr B) s t=r at*;have HRR:=Hz hr;generalize kI.getD t 0=kt at*;generalize(zcr B).getD t 0=wt at*;obtain⟨a,b',c,d,e,f,g,i⟩:=r;obtain⟨ua,ub,uc,ud,ue,uf,ug,ui⟩:=hok;simp only at ua ue HST⊢;have Te6:=Hz (fun W:World=>show Calls Tryz.prog 80 #[.int .u32 e,.int .i64 6] W (zal (.int .u32 (rot e 6)) W) from(ze7 e 6 ue (by omega)).mono fun _ _ h=>h.new);have Te11:=Hz (fun W:World=>show Calls Tryz.prog 80 #[.int .u32 e,.int .i64 11] W (zal (.int .u32 (rot e 11)) W) from(ze7 e 11 ue (by omega)).mono fun _ _ h=>h.new);have Te25:=Hz (fun W:World=>show Calls Tryz.prog 80 #[.int .u32 e,.int .i64 25] W (zal (.int .u32 (rot e 25)) W) from(ze7 e 25 ue (by omega)).mono fun _ _ h=>h.new);have Ta2:=Hz (fun W:World=>show Calls Tryz.prog 80 #[.int .u32 a,.int .i64 2] W (zal (.int .u32 (rot a 2)) W) from(ze7 a 2 ua (by omega)).mono fun _ _ h=>h.new);have Ta13:=Hz (fun W:World=>show Calls Tryz.prog 80 #[.int .u32 a,.int .i64 13] W (zal (.int .u32 (rot a 13)) W) from(ze7 a 13 ua (by omega)).mono fun _ _ h=>h.new);have Ta22:=Hz (fun W:World=>show Calls Tryz.prog 80 #[.int .u32 a,.int .i64 22] W (zal (.int .u32 (rot a 22)) W) from(ze7 a 22 ua (by omega)).mono fun _ _ h=>h.new);have jt:(t:Int)<64:=by omega
   clear ua ub uc ud ue uf ug ui hst hr HRR;have hpI:pI e f g i kt wt=IntKind.u32.wrap (IntKind.u32.wrap (IntKind.u32.wrap (IntKind.u32.wrap (i+bits .xor .u32 (bits .xor .u32 (rot e 6) (rot e 11)) (rot e 25))+bits .xor .u32 (bits .and .u32 e f) (bits .and .u32 (bits .xor .u32 (if IntKind.u32.signed=true then-1 else IntKind.u32.max) e) g))+kt)+wt):=rfl;have hqI:qI a b' c=(bits .xor .u32 (bits .xor .u32 (rot a 2) (rot a 13)) (rot a 22)+bits .xor .u32 (bits .xor .u32 (bits .and .u32 a b') (bits .and .u32 a c)) (bits .and .u32 b' c))%4294967296:=rfl;generalize rot e 6=r6 at*;generalize rot e 11=r11 at*;generalize rot e 25=r25 at*;generalize rot a 2=r2 at*;generalize rot a 13=r13 at*;generalize rot a 22=r22 at*;obtain⟨x1,q1⟩:∃x,bits .xor .u32 r6 r11=x:=⟨_,rfl⟩;obtain⟨x2,q2⟩:∃x,bits .xor .u32 x1 r25=x:=⟨_,rfl⟩;obtain⟨x3,q3⟩:∃x,IntKind.u32.wrap (i+x2)=x:=⟨_,rfl⟩;obtain⟨y1,q4⟩:∃x,bits .and .u32 e f=x:=⟨_,rfl⟩;obtain⟨y2,q5⟩:∃x,bits .xor .u32 (if IntKind.u32.signed=true then-1 else IntKind.u32.max) e=x:=⟨_,rfl⟩;obtain⟨y3,q6⟩:∃x,bits .and .u32 y2 g=x:=⟨_,rfl⟩;obtain⟨y4,q7⟩:∃x,bits .xor .u32 y1 y3=x:=⟨_,rfl⟩;obtain⟨x4,q8⟩:∃x,IntKind.u32.wrap (x3+y4)=x:=⟨_,rfl⟩;obtain⟨x5,q9⟩:∃x,IntKind.u32.wrap (x4+kt)=x:=⟨_,rfl⟩;obtain⟨p,q10⟩:∃x,IntKind.u32.wrap (x5+wt)=x:=⟨_,rfl⟩;rw[q1,q2,q3,q4,q5,q6,q7,q8,q9,q10] at hpI;obtain⟨z1,v1⟩:∃x,bits .xor .u32 r2 r13=x:=⟨_,rfl⟩;obtain⟨z2,v2⟩:∃x,bits .xor .u32 z1 r22=x:=⟨_,rfl⟩;obtain⟨z3,v3⟩:∃x,bits .and .u32 a b'=x:=⟨_,rfl⟩;obtain⟨z4,v4⟩:∃x,bits .and .u32 a c=x:=⟨_,rfl⟩;obtain⟨z5,v5⟩:∃x,bits .xor .u32 z3 z4=x:=⟨_,rfl⟩;obtain⟨z6,v6⟩:∃x,bits .and .u32 b' c=x:=⟨_,rfl⟩;obtain⟨z7,v7⟩:∃x,bits .xor .u32 z5 z6=x:=⟨_,rfl⟩;rw[v1,v2,v3,v4,v5,v6,v7] at hqI;have hst2:=HST.out;rw[show qgn kt wt (a,b',c,d,e,f,g,i)=((pI e f g i kt wt+qI a b' c)%4294967296,a,b',c,(d+pI e f g i kt wt)%4294967296,e,f,g) from rfl,hpI,hqI] at hst2;have HST2:=Hz hst2;have QP:=Hz (qo8 q1 (qo8 q2 (qo8 q3 (qo8 q4 (qo8 q5 (qo8 q6 (qo8 q7 (qo8 q8 (qo8 q9 q10)))))))));have QV:=Hz (qo8 v1 (qo8 v2 (qo8 v3 (qo8 v4 (qo8 v5 (qo8 v6 v7))))));clear hst2 hpI hqI HST q1 q2 q3 q4 q5 q6 q7 q8 q9 q10 v1 v2 v3 v4 v5 v6 v7;go_wp2_with fail
   refine zax New [(true,0),(true,1),(true,3),(true,6),(true,10),(true,11),(true,12),(true,13),(true,14),(true,15),(true,16),(true,17),(true,19),(true,20),(true,21),(true,23),(true,24),(true,25),(false,2),(false,4),(true,5),(false,7),(true,8),(true,9),(true,18),(true,22),(true,26),(true,27)]
    New.refl New.trans (by kernel_rfl) (by kernel_rfl) (by kernel_rfl) (by kernel_rfl) ?_
   have hU:=New.trans b (New.drew wr);repeat(first
    |(refine zar rfl rfl (v:=?_) (fun W hW=>?_) ?_;rotate_left;(obtain⟨o0,o1⟩:=F2.out W (New.trans hU hW);obtain⟨q1,q2,q3,q4,q5,q6,q7,q8,q9,q10⟩:=QP.out;go_simp<;> with_reducible rfl);simp only[Act.put,qo6,qou,qo7])
    |(refine zba rfl rfl (fun K hK=>?_);go_simp
      first
      |(with_reducible refine(Te6.out _).mono ?_)
      |(with_reducible refine(Te11.out _).mono ?_)
      |(with_reducible refine(Te25.out _).mono ?_)
      rintro e9 w9 ⟨rfl,c9⟩;refine hK _ _ c9 ?_;clear hK;replace hU:=New.trans hU c9))
   refine zdh ?_;go_wp2_with fail
   (with_reducible refine(Ta2.out _).mono ?_)
   rintro e9 w2 ⟨rfl,c2⟩;replace hU:=New.trans hU c2;go_wp2_with fail
   (with_reducible refine(Ta13.out _).mono ?_)
   rintro e9 w3 ⟨rfl,c3⟩;replace hU:=New.trans hU c3;obtain⟨v1,v2,v3,v4,v5,v6,v7⟩:=QV.out;go_wp2_with fail
   (with_reducible refine(Ta22.out _).mono ?_)
   rintro e9 w4 ⟨rfl,c4⟩;replace hU:=New.trans hU c4;clear Te6 Te11 Te25 Ta2 Ta13 Ta22 F2 c2 c3 c4 QP QV;go_wp2
   go_roundw
   case rel=>
    refine⟨t+1,by omega,by go_num,?_⟩;rw[HST2.out];exact⟨rfl,rfl,rfl,rfl,rfl,rfl,rfl,rfl,hU⟩
   case measure=>simp[intOf];omega
  ·have ht64:t=64:=by omega
   have HT:=Hz (show qgo s (zfc (zcr B) s t)=z2j s B by rw[ht64];rfl);obtain⟨x0,x1,x2,x3,x4,x5,x6,x7⟩:=F.out wr b;have R3:=Hz (HR2.out.below b HR2.out.lt);have bE:=New.far (New.trans HB2.out b) (zbl (g:=w.heap.size+1+1) wr (zby (qgo s (zfc (zcr B) s t)))) (by omega);have BE:=Hz bE;generalize zfc (zcr B) s t=r at*;have hsz:(Tryz.prog.info? 98).map (·.size)=some (zby (qgo s r)).size:=by rw[show(zby (qgo s r)).size=8 from rfl];kernel_rfl
   have HSZ:=Hz hsz;clear ht64 hsz bE FK F HS SU SL;go_wp2_with (refine wpList_store_row rfl 98 (.tmp 4) (.tmp 130) rfl (w.heap.size+1+1) (zby (qgo s r)) rfl rfl _ _ (zay R3.out) HSZ.out rfl (zi3 _) ?_)
   exact bodyPost_ret (results_cell_row rfl _ _ (w.heap.size+1+1) _ (zby (qgo s r)) (0,0) _ rfl (zay (za5 R3.out _)) (show Tryz.prog.underlying 98=some (.array 8 97) by kernel_rfl) rfl HSZ.out) rfl ⟨by rw[HT.out],BE.out⟩
end Go.Proofs.Y
namespace Go.Hm
open Go Go.RowKit
theorem qbt{n k:Nat}(hk:k<8)(x:Nat):(128::(List.replicate (zf4 n) 0++((zif n).take k++List.replicate (8-k) 0))).set (1+zf4 n+k) x=128::(List.replicate (zf4 n) 0++((zif n).take k++(x::List.replicate (8-(k+1)) 0))):=by
 have h1:((zif n).take k).length=k:=by simp[zif];omega
 rw[show 1+zf4 n+k=(zf4 n+k)+1 by omega,qo7,qor _ _ (by simp),qor _ _ (by rw[h1];simp),h1,qo9,show zf4 n+k-zf4 n-k=0 by omega,show 8-k=(8-(k+1))+1 by omega,qot,qou]
theorem z2k{n k:Nat}(hk:k<8):(zif n).take (k+1)=(zif n).take k++[qjb n k]:=by
 rw[zad _ k 0 (by simp[zif];exact hk)];congr 1
 simp[zif,hk]
end Go.Hm
namespace Go.Proofs.Y
open Go.RowKit Go.Hm
set_option maxRecDepth 100000 in
theorem z50{w:World}:Calls Tryz.prog 45 #[] w (zal (.agg (zby zju)) w):=by
 have b0:New w (w.alloc (.cells (zby zju) 98)):=(Below.refl _ _).alloc (qmt _) _;have hsz:(Tryz.prog.info? 98).map (·.size)=some (zby zju).size:=by kernel_rfl
 have hR:=zay (Blk.new w 98 (zby zju));have H:=Hz (qo8 hsz hR);clear hsz hR;go_enter Tryz.func45,Tryz.ntmps45
 go_wp2
 exact bodyPost_ret (results_cell_row rfl _ _ w.heap.size _ (zby zju) (0,0) _ rfl H.out.2 (show Tryz.prog.underlying 98=some (.array 8 97) by kernel_rfl) rfl H.out.1) rfl ⟨rfl,b0⟩
set_option maxRecDepth 100000 in
theorem qgr{w:World}(n:Int):Calls Tryz.prog 47 #[.int .i64 n] w (zcm (qgq n) w):=by
 by_cases hn:0<=n/\n<=2147483647
 ·obtain⟨h0,h1⟩:=hn
  obtain⟨N,rfl⟩:=qon h0;have hP:qgq (N:Int)=zun N:=by unfold qgq;rw[if_pos ⟨h0,h1⟩,qng]
  rw[hP];have d1:decide ((N:Int)<0)=false:=by simp
  have d2:decide ((2147483647:Int)<(N:Int))=false:=by simp;omega
  obtain⟨r,hr⟩:∃r,r=(N+8)%64:=⟨_,rfl⟩;have hzz:zf4 N=63-r:=by unfold zf4;omega
  have hr64:r<64:=by omega
  have e3:((N:Int)+8)%64=(r:Int):=by omega
  have e1:((N:Int)+8).tmod 64=(r:Int):=by rw[qn3 (by omega)];omega
  have HL:=Hz (znj N);have ST:=fun k (hk:k<8) (x:Nat)=>qbt (n:=N) hk x
  have TK:=fun k (hk:k<8)=>z2k (n:=N) hk
  have PL:zun N=128::(List.replicate (zf4 N) 0++zif N):=rfl;obtain⟨z,hz⟩:∃z,z=zf4 N:=⟨_,rfl⟩;rw[<-hz] at ST PL hzz;have e2:(63:Int)-(r:Int)=(z:Int):=by omega
  have hz64:z<64:=by omega
  have HST:=Hz ST;have HTK:=Hz TK;have HPL:=Hz PL;clear hr hzz hz ST TK PL hP;go_enter Tryz.func47,Tryz.ntmps47
  go_wp2_with (refine zca elB rfl _ _ rfl (W:=w) (B:=w.heap.size) (1+z+8) (1+z+8) rfl rfl (by omega) (by omega) (qmt _) (Below.refl _ _) (qmt _) rfl (by omega) (by simp only[maxLen];omega) ?_;intro w1 o1 g1 b1 z1;have o2:Own w1 w.heap.size 5 (.slice (some ⟨w.heap.size,0,none⟩) (1+z+8) (1+z+8)) (zan .u8 (List.replicate (1+z+8) 0)):=by(rw[zb1];exact o1)
               obtain⟨_,_,c0,f0,st⟩:=o2.num0 (i:=0) (by omega))
  have o3:=st 128;rw[show(List.replicate (1+z+8) 0).set 0 128=128::(List.replicate z 0++((zif N).take 0++List.replicate (8-0) 0)) by rw[show 1+z+8=(z+8)+1 by omega,qot,qou,List.replicate_append_replicate.symm];rfl] at o3
  have b3:=b1.setCell (p:=⟨w.heap.size,0,none⟩) (qmt _) (.int .u8 ((128:Nat):Int));have O3:=Hz o3;have B3:=Hz b3;clear c0 f0 st o1 o2 o3 b3 g1 b1;go_loopw [22] (fun i wr=>∃k:Nat,k<=8/\i= .int .i64 (k:Int)/\Hid (Own wr w.heap.size 5 (.slice (some ⟨w.heap.size,0,none⟩) (1+z+8) (1+z+8)) (zan .u8 (128::(List.replicate z 0++((zif N).take k++List.replicate (8-k) 0)))))/\Hid (New w wr)) (fun i _=>8-(intOf i).toNat)
  case atStart=>exact⟨0,by omega,rfl,O3,B3⟩
  case round=>
   clear O3 B3;obtain⟨k,hk,rfl,O,b⟩:=hrel;by_cases hlt:k<8
   ·obtain⟨q,hq⟩:∃q,q=1+z+k:=⟨_,rfl⟩
    obtain⟨sh,hsh⟩:∃q,q=56-8*k:=⟨_,rfl⟩;obtain⟨x,hx⟩:∃x,x=qjb N k:=⟨_,rfl⟩;obtain⟨_,hltb,c0,f0,st⟩:=O.out.num0 (i:=q) (by omega);have i1:(1:Int)+(z:Int)+(k:Int)=(q:Int):=by omega
    have i2:(56:Int)-8*(k:Int)=(sh:Int):=by omega
    have v1:8*(N:Int)/2^sh%256=(x:Int):=by rw[hx,hsh];unfold qjb;simp
    have o3:=st x;rw[hx,hq,HST.out k hlt,<-hx,<-hq] at o3;have tk:=HTK.out k hlt;rw[<-hx] at tk;rw[show(zif N).take k++(x::List.replicate (8-(k+1)) 0)=(zif N).take (k+1)++List.replicate (8-(k+1)) 0 by rw[tk];simp] at o3;have b3:=b.out.setCell (p:=⟨w.heap.size,q,none⟩) (qmt _) (.int .u8 (x:Int));have O3:=Hz o3;have B3:=Hz b3;have hq2:q<1+z+8:=by omega
    clear hq hsh hx st o3 b3 tk O b;go_wp2
    go_roundw
    case rel=>exact⟨k+1,by omega,by go_num,O3,B3⟩
    case measure=>simp[intOf];omega
   ·obtain rfl:k=8:=by omega
    have o:=O.out;rw[qnn (by simp[zif]),show List.replicate (8-8) 0=([]:List Nat) from rfl,qm3,<-HPL.out] at o;have O3:=Hz o;clear o O;go_wp2
    go_ret
    exact⟨_,_,_,rfl,O3.out,b.out⟩
 ·have hP:qgq n=[]:=by unfold qgq;rw[if_neg hn]
  rw[hP];by_cases h0:n<0
  ·have d1:decide (n<0)=true:=by simpa using h0
   clear hn hP;go_enter Tryz.func47,Tryz.ntmps47
   go_wp2
   go_ret
   exact⟨_,_,_,rfl,Own.nil_,New.refl _⟩
  ·have d1:decide (n<0)=false:=by simpa using h0
   have d2:decide (2147483647<n)=true:=by simp;omega
   clear hn hP;go_enter Tryz.func47,Tryz.ntmps47
   go_wp2
   go_ret
   exact⟨_,_,_,rfl,Own.nil_,New.refl _⟩
end Go.Proofs.Y
namespace Go.Hm
open Go Go.RowKit
def lenOf:Value->Nat
 | .slice _ n _=>n
 |_=>0
end Go.Hm
namespace Go.Proofs.Y
open Go.RowKit Go.Hm
end Go.Proofs.Y
namespace Go.Hm
open Go Go.RowKit
def zup(M:List Nat)(k:Nat):List Nat:=(M.drop (64*k)).take 64
def zgx(M:List Nat):Nat->S8
 |0=>zju
 |k+1=>z2j (zgx M k) (zup M k)
theorem zz4(M:List Nat)(k:Nat):OkS (zgx M k):=by
 cases k with
 |zero=>exact z5x
 |succ k=>exact qbq _ _
theorem zz5{M:List Nat}{k:Nat}(h:64*k+64<=M.length):(zup M k).length=64:=by unfold zup;rw[qmq,qmp];omega
theorem z51{M:List Nat}{k:Nat}(h:∀x∈M,x<256):∀x∈zup M k,x<256:=fun x hx=>h x (qpa (qnh hx))
def zfo(l:List Nat):List Nat:=l++zun l.length
theorem qgs{l:List Nat}(h:∀x∈l,x<256):∀x∈zfo l,x<256:=by
 intro x hx;rcases qny.1 hx with hx|hx
 ·exact h x hx
 ·exact qgp _ x hx
theorem zz6(l:List Nat):(zfo l).length=l.length+(zun l.length).length:=by simp[zfo]
theorem qbu(l:List Nat):(zfo l).length%64=0:=by rw[zz6];exact qbs _
theorem z52{l:List Nat}{k:Nat}(h:64*k+64<=l.length):zup (zfo l) k=(l.drop (64*k)).take 64:=by unfold zup zfo;rw[qpb (by omega),List.take_append_of_le_length (by rw[qmp];omega)]
def zuq(l:List Nat):S8:=zgx (zfo l) ((zfo l).length/64)
def zur(s:S8):List Int:=[s.1,s.2.1,s.2.2.1,s.2.2.2.1,s.2.2.2.2.1,s.2.2.2.2.2.1,s.2.2.2.2.2.2.1,s.2.2.2.2.2.2.2]
theorem zus(s:S8):zby s=(za7 .u32 (zur s)).toArray:=rfl
def qk2(s:S8)(k:Nat):Int:=(zur s).getD (k/4) 0/2^(24-k%4*8)%256
def zxn(s:S8):List Int:=(List.range 32).map (qk2 s)
def znk(l:List Nat):List Int:=zxn (zuq l)
theorem zgn(s:S8):(zxn s).length=32:=by simp[zxn]
theorem z54{s:S8}{k:Nat}(hk:k<32):(zxn s).take (k+1)=(zxn s).take k++[qk2 s k]:=by
 rw[zad _ k 0 (by rw[zgn];exact hk)];congr 1
 simp[zxn,hk]
def zsl(l:List Int):List Int:=l++List.replicate (32-l.length) 0
theorem z55{l:List Int}(h:l.length<=32):(zsl l).length=32:=by simp[zsl];omega
theorem z56{l:List Int}(h:l.length<32)(x:Int):(zsl l).set l.length x=zsl (l++[x]):=by unfold zsl;rw[qor _ _ (qmt _),qos,show 32-l.length=(32-(l++[x]).length)+1 by simp;omega,qot,qou];simp
theorem z2l{l:List Int}(h:l.length=32):zsl l=l:=by simp[zsl,h]
section
variable{P:Program}{w:World}{a:Act}{dst:Option Tmp}{tt:TypeId}{pos:String}{af:Array Edge}{gd:Option (Nat × Bool)}
theorem zc9{ty t:TypeId}{x:Operand}{g:Nat}{cs:Array Value}{d:TypeDesc}(hx:a.eval x= .pointer (some ⟨g,0,none⟩))(B:Blk w g t cs)(hu:P.underlying ty=some d)(hd:d.isRow=true)(hi:(P.info? ty).map (·.size)=some cs.size):
 (execOp a.eval ⟨dst,.load ty x,tt,pos,af,gd⟩).run P w= .ok (.value (.agg cs)) w:=by
 unfold execOp;simp only[hx,Instr.loadAt,Instr.sureAddr,Sem.run_bind,Sem.run_pure,Result.andThen_ok,run_loadVar_row w g t ty cs (0,0) d B hu (by cases d<;> simp_all[TypeDesc.isRow]) hi]
theorem zjv(w:World)(ad:Addr)(ty:TypeId)(cs:List Value)(d:TypeDesc)(hc:∀j v,cs[j]? =some v->w.cell? (ad.add j)=some v)
 (hu:P.underlying ty=some d)(hd:d.isRow=true)(hi:(P.info? ty).map (·.size)=some cs.length):
 (loadVar ty ad).run P w= .ok (.agg cs.toArray) w:=by
 have hl:(loadCells ad cs.length).run P w= .ok cs.toArray w:=run_loadCells_list (P:=P) w ad cs hc;cases hq:P.info? ty with
 |none=>simp[hq] at hi
 |some i=>
  have hs:i.size=cs.length:=by simpa[hq] using hi
  have hagg:(isAgg ty).run P w= .ok true w:=by unfold isAgg;rw[Sem.run_bind,run_underlying hu w];cases d<;> simp_all
  simp[loadVar,Sem.run_bind,hagg,sizeOf,typeInfo,hq,hs,hl]
theorem zfd{ty:TypeId}{x:Operand}{ad:Addr}{cs:List Value}{d:TypeDesc}(hx:a.eval x= .pointer (some ad))(hc:∀j v,cs[j]? =some v->w.cell? (ad.add j)=some v)(hu:P.underlying ty=some d)(hd:d.isRow=true)(hi:(P.info? ty).map (·.size)=some cs.length):
 (execOp a.eval ⟨dst,.load ty x,tt,pos,af,gd⟩).run P w= .ok (.value (.agg cs.toArray)) w:=by
 unfold execOp;simp only[hx,Instr.loadAt,Instr.sureAddr,Sem.run_bind,Sem.run_pure,Result.andThen_ok,zjv w ad ty cs d hc hu hd hi]
theorem zmu{arr e:TypeId}{x:Operand}{n len cap:Nat}{A:Option Addr}(hx:a.eval x= .slice A len cap)(h:P.underlying arr=some (.array n e))(hn:n<=len):
 (execOp a.eval ⟨dst,.sliceToArrayPointer arr x,tt,pos,af,gd⟩).run P w= .ok (.value (.pointer A)) w:=by
 unfold execOp;simp only[hx,Sem.run_bind,run_arrayAt w arr e n A len cap h hn,Result.andThen_ok,Sem.run_pure]
theorem zg3{t:TypeId}{x:Operand}{lo hi mx:Option Operand}{v:Value}(hv:(Instr.sliceAt t (a.eval x) (lo.map a.eval) (hi.map a.eval) (mx.map a.eval)).run P w= .ok v w):
 (execOp a.eval ⟨dst,.slice t x lo hi mx,tt,pos,af,gd⟩).run P w= .ok (.value v) w:=by
 unfold execOp;simp only[Sem.run_bind,hv,Result.andThen_ok,Sem.run_pure]
theorem zmv{ops:Array Oper}{rest:List Oper}{o:Oper}{Q:Exit->Act->World->Prop}(hgd:o.guard=none)(t:TypeId)(x:Operand)(lo hi mx:Option Operand)(ho:o.op= .slice t x lo hi mx){v:Value}
 (hv:(Instr.sliceAt t (a.eval x) (lo.map a.eval) (hi.map a.eval) (mx.map a.eval)).run P w= .ok v w)(h:wpList P ops Q rest (a.put o.dst v) w):wpList P ops Q (o::rest) a w:=by
 refine wpList_plain hgd fun K hK=>?_
 unfold Oper.wp execOp;simp only[ho,Sem.run_bind,hv,Result.andThen_ok,Sem.run_pure];exact hK _ _ h
end
open Go Go.RowKit Go.WideShapes Go.ChangeShapes Go.Deep
section
variable{H:Type}{enc:TypeId × Value->H}{P:Program}{W:World}{t e:TypeId}{cs:List Value}{n:Nat}
def zft(P:Program)(t:TypeId):Array Field:=match P.underlying t with|some (.struct fs)=>fs|_=> #[]
theorem Held.part(h:Held enc P W t cs)(hs:P.underlying t=some (.struct (zft P t)))(i off n:Nat){ft:TypeId}(hf:((zft P t)[i]?.map fun f=>(f.type,f.offset))=some (ft,off))(hn:P.cellsOf ft=n):Held enc P W ft ((cs.drop off).take n):=by
 obtain⟨_,hall⟩:=h.field hs;cases hfi:(zft P t)[i]? with
 |none=>rw[hfi] at hf;cases hf
 |some f=>
  rw[hfi] at hf;simp only[qpr,qmj,qmi] at hf;obtain⟨h1,h2⟩:=hf;have:=hall i f hfi;rw[h1,h2,hn] at this;exact this
end
end Go.Hm
set_option maxRecDepth 100000
namespace Go.Proofs.Y
open Go.RowKit Go.Hm Go.WideShapes Go.ChangeShapes
section
variable{H:Type}{enc:TypeId × Value->H}{W:World}{base:Nat}{v:Value}{d:DataW H}{ps:List MemPlace}
theorem z0d(hval:Value.okWide Tryz.prog W .any base 3 v)(h:DataW.Trod enc Tryz.prog W 0 (fun _=>true) true 3 v d ps):∃x:Int,v= .int .i64 x/\ -9223372036854775808<=x/\x<=9223372036854775807:=by obtain⟨y,rfl,_,_,wy⟩:=open_int (k:= .i64) (by kernel_rfl) hval h;simp[Lit.wf,IntKind.min,IntKind.max,IntKind.signed,IntKind.bits] at wy;exact⟨y,rfl,wy.1,by omega⟩
end
end Go.Proofs.Y
namespace Go.Hm
open Go.RowKit Go.WideShapes Go.ChangeShapes
theorem zon{C:Checked}{os:Os}{f:FuncId}{fn:Func}{s:ChangeSpec}{tb:TypeId}{H:Type}{enc:TypeId × Value->H}{laid:List (String × DataW Unit)}
 (own:ownKnob C.prog.godebug=none)(hl:laidOutB C.prog=true)(started:os.Started)(noInit:C.prog.inits.idxOf? f=none)(hfn:C.prog.funcs[f]? =some fn)
 (hrt:fn.resultTypes= #[tb])(htb:C.prog.underlying tb=some .bool)(hr:∀t∈fn.params.toList,C.prog.readableRec t=true/\t<C.prog.types.size)
 (hv:s.vars=[])(hs:∀ds:List (DataW H),ds.length=fn.params.size->s.fn H ds={results:=[.lit (.bool true)],args:=ds})
 (witness:∃(w:World) (tape:Tape) (i:Input),w.os=os/\(w.forCall tape i).Shaped C.prog/\i.vars=[]/\Input.okWide C.prog (w.forCall tape i) .any w.heap.size f i/\
  ((s.pre enc C.prog fn [] false (w.forCall tape i).memory i.args/\laidMetH C.prog laid (w.forCall tape i).memory)/\sizedMet enc C.prog fn (OpenSpec.ofChange s) false (w.forCall tape i).memory i.args)/\({}:Assume).holds C.prog (lone (Frame.enter C.prog f i.args .normal) [] (w.forCall tape i)))
 (contract:∀(W:World) (base:Nat) (args:Array Value) (ds:List (DataW H)) (ps:List MemPlace),
  (∀(j:Nat) t v,fn.params[j]? =some t->args[j]? =some v->Value.okWide C.prog W .any base t v)->
  DataW.TrodAll enc C.prog W 0 (fun _=>true) true fn.params.toList args.toList ds ps->(∀p∈ps,p.block<W.heap.size)->W.noneFrozen ps->
  (DataW.weightsEach C.prog fn.params.toList ds).all (· <=reachBytes)=true->laidMetH C.prog laid W->
  Calls C.prog f args W fun e W'=>e= .returned (.bool true)/\Below W.heap.size W W'):
 ReturnsInHanded {} C os f .any (fun w args=>(s.pre enc C.prog fn [] false w args/\laidMetH C.prog laid w)/\sizedMet enc C.prog fn (OpenSpec.ofChange s) false w args) (s.post enc C.prog fn false true false false):=by
 refine returnsInHanded_of_change_and (X:=fun w _=>laidMetH C.prog laid w) (fun _ _ _ hh h=>h.of_heap hh) own started noInit hfn witness ?_;intro W base args ds gs before hval hW _ hsz hL _;have hlt:∀p∈before,p.block<W.heap.size:=fun p hp=>hW.lt p hp
 obtain⟨p,q,hA,hV,rfl,hfz,_⟩:=id hW;rw[hv] at hV;obtain⟨rfl,rfl⟩:=trodVars_none hV;have hvt:s.plain.varTypes C.prog=[]:=by simp[ChangeSpec.plain,DataSpec.varTypes,hv]
 rw[hvt,qm3,qm3] at hsz;simp only[qm3] at hlt hfz;refine(contract W base args ds p hval hA hlt hfz hsz hL).mono fun e W' ⟨he,hb⟩=>⟨_,he,?_⟩
 have hdl:∀{ts:List TypeId} {vs:List Value} {ds:List (DataW H)} {ps:List MemPlace},DataW.TrodAll enc C.prog W 0 (fun _=>true) true ts vs ds ps->ds.length=ts.length:=by
  intro ts;induction ts with
  |nil=>intro vs ds ps h;obtain⟨_,rfl,_⟩:=trodAll_nil h;rfl
  |cons t ts ih=>intro vs ds ps h;obtain⟨v,vs',d,ds',p',q',_,rfl,_,_,h2⟩:=trodAll_cons h;simp[ih h2]
 exact qby hl hrt htb hr hv (by rw[qm3];exact hs ds (by simpa using hdl hA)) hW hb
end Go.Hm
set_option maxRecDepth 100000
namespace Go.Hm
open Go Go.RowKit
abbrev zex:=Option Addr × Nat × List zab
def zk9(d:zex):List Value:=[.slice d.1 d.2.2.length d.2.1]
def CellFine(c:zab):Prop:=(c.2.2.1.length<=140737488351232/\ ∀z∈c.2.2.1,z<256)/\(-9223372036854775808<=c.2.1/\c.2.1<=9223372036854775807)/\(-9223372036854775808<=c.2.2.2.1/\c.2.2.2.1<=9223372036854775807)/\(-9223372036854775808<=c.2.2.2.2/\c.2.2.2.2<=9223372036854775807)
end Go.Hm
namespace Go.Proofs.Y
open Go.RowKit Go.Hm Go.WideShapes Go.ChangeShapes
section
variable{H:Type}{enc:TypeId × Value->H}{W:World}{base:Nat}{v:Value}{d:DataW H}{ps:List MemPlace}
end
end Go.Proofs.Y
namespace Go.Hm
open Go Go.RowKit
def zgd:Int × Int->List (Int × Int)->Option (List (Int × Int))
 |_,[]=>some []
 |h,p::r=>if inBox p.1 p.2 then(zgd p r).map ((p.1-h.1,p.2-h.2):: ·) else none
theorem inBox_iff{x y:Int}:inBox x y=true↔(-1048576<=x/\x<=1048576)/\(-1048576<=y/\y<=1048576):=by simp[inBox];omega
end Go.Hm
