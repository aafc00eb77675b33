/- Merged. -/
import Derived.LaidMore
import Derived.Lib.Bytealg
import Derived.Stop.Joined
import Derived.Test.YtbahbnbpmfgimaaGreatDoorBun6
import Derived.Test.YtbahbnbpmfgimaaGreatDoorBun7
import Derived.Test.YtbahbnbpmfgimaaGreatDoorBun8
set_option maxHeartbeats 4000000
namespace Go.Proofs.Y
open Go.RowKit Go.Hm
theorem zfm{w:World}{g:Nat}{ty:TypeId}{l:List Int}{k:IntKind}{i:Nat}(h:Blk w g ty (za0 k l).toArray)(hi:i<l.length):w.cell? ⟨g,i,none⟩=some (.int k (l.getD i 0)):=by rw[h.cell];simpa using zn1 k l i hi
theorem zkh{w:World}{g:Nat}{ty:TypeId}{l:List Nat}{k:IntKind}{i:Nat}(h:Blk w g ty (zao k l).toArray)(hi:i<l.length):w.cell? ⟨g,i,none⟩=some (.int k ((l.getD i 0:Nat):Int)):=by rw[h.cell];simpa using zwx k l i hi
theorem zsc{w:World}{g:Nat}{ty:TypeId}{l:List Int}{k:IntKind}{i:Nat}(h:Blk w g ty (za0 k l).toArray)(x:Int):Blk (w.setCell ⟨g,i,none⟩ (.int k x)) g ty (za0 k (l.set i x)).toArray:=by have:=h.set_ i (.int k x);simpa[za0,List.map_set] using this
theorem zbg{w:World}{g:Nat}{ty:TypeId}{old:Array Value}(h:Blk w g ty old)(cs:Array Value):Blk (w.setRow g cs) g ty cs:=by unfold Blk at h⊢;simp[World.setRow,Array.getElem?_modify,h]
theorem zbo{g:Nat}(w:World)(cs:Array Value):Far g w (w.setRow g cs):=
 ⟨rfl,rfl,rfl,by simp[World.setRow],fun k _ hne=>by simp[World.setRow,Array.getElem?_modify];intro e;subst e;exact absurd rfl hne⟩
theorem zw4{g i:Nat}(u:Value)(w:World):Far g w (w.setCell ⟨g,i,none⟩ u):=
 ⟨rfl,rfl,rfl,by simp[World.setCell],fun k _ hne=>Below.heap_setCell _ _ _ _ (by rintro rfl;exact hne rfl)⟩
theorem zaz{w:World}{g:Nat}{ty:TypeId}{cs:Array Value}(h:Blk w g ty cs):w.heap[g]? =some (.cells cs ty (0,0)):=h
theorem zeo(k:IntKind)(l:List Int):(za0 k l).toArray.all (·.oneCell')=true:=by rw[List.all_toArray,List.all_eq_true];intro u hu;simp only[za0,List.mem_map] at hu;obtain⟨z,_,rfl⟩:=hu;rfl
def zki:List Int:=List.replicate 64 0
set_option maxRecDepth 100000 in
theorem z42{w:World}(B:List Nat)(hB:B.length=64)(h8:∀x∈B,x<256):
 Calls Tryz.prog 79 #[.agg (zao .u8 B).toArray] w (zal (.agg (za0 .u32 (zcp B)).toArray) w):=by
 have hWL:(zgi B).length=16:=by simp[zgi]
 have HWL:=Hz hWL;clear hWL;go_enter Tryz.func79,Tryz.ntmps79
 go_wp2
 go_loopw [10] (fun i wr=>∃k:Nat,k<=16/\i= .int .i64 (k:Int)/\Hid (Blk wr (w.heap.size+1+1) 148 (za0 .u32 (zw1 ((zgi B).take k))).toArray)/\Hid (Blk wr w.heap.size 101 (zao .u8 B).toArray)/\Hid (Blk wr (w.heap.size+1) 148 (za0 .u32 zki).toArray)/\New w wr) (fun i _=>16-(intOf i).toNat)
 case atStart=>
  refine⟨0,by omega,rfl,Hz ?_,Hz ?_,Hz ?_,?_⟩
  ·have h:=Blk.new ((w.alloc (.cells (zao .u8 B).toArray 101)).alloc (.cells (za0 .u32 zki).toArray 148)) 148 (za0 .u32 zki).toArray
   simp only[World.alloc,Array.size_push] at h;exact h
  ·exact((Blk.new w _ _).alloc _).alloc _
  ·have h:=(Blk.new (w.alloc (.cells (zao .u8 B).toArray 101)) 148 (za0 .u32 zki).toArray).alloc (.cells (za0 .u32 zki).toArray 148)
   simp only[World.alloc,Array.size_push] at h;exact h
  ·exact(((Below.refl _ _).alloc (Nat.le_refl _) _).alloc (by simp) _).alloc (by simp;omega) _
 case round=>
  obtain⟨k,hk,rfl,T,P,Z,b⟩:=hrel;by_cases hlt:k<16
  ·obtain⟨a,ha⟩:∃a,a=4*k:=⟨_,rfl⟩
   obtain⟨a1,ha1⟩:∃a,a=4*k+1:=⟨_,rfl⟩;obtain⟨a2,ha2⟩:∃a,a=4*k+2:=⟨_,rfl⟩;obtain⟨a3,ha3⟩:∃a,a=4*k+3:=⟨_,rfl⟩;have i0:IntKind.i64.wrap (4*(k:Int))=(a:Int):=by rw[IntKind.wrap_i64];omega
   have i1:IntKind.i64.wrap ((a:Int)+1)=(a1:Int):=by rw[IntKind.wrap_i64];omega
   have i2:IntKind.i64.wrap ((a:Int)+2)=(a2:Int):=by rw[IntKind.wrap_i64];omega
   have i3:IntKind.i64.wrap ((a:Int)+3)=(a3:Int):=by rw[IntKind.wrap_i64];omega
   have j0:(a:Int)<64:=by omega
   have j1:(a1:Int)<64:=by omega
   have j2:(a2:Int)<64:=by omega
   have j3:(a3:Int)<64:=by omega
   have hx0:=zfg B a h8;have hx1:=zfg B a1 h8;have hx2:=zfg B a2 h8;have hx3:=zfg B a3 h8;have hst:=zw2 (B:=B) hlt;rw[<-ha1,<-ha2,<-ha3,<-ha] at hst;have hor:=qfe hx0 hx1 hx2 hx3;have hset:=zzc (l:=(zgi B).take k) (by rw[List.length_take,HWL.out];omega) (zt6 (B.getD a 0) (B.getD a1 0) (B.getD a2 0) (B.getD a3 0));rw[<-hst,List.length_take,HWL.out,Nat.min_eq_left (by omega)] at hset;have F:=Hz (fun(W:World) (hW:Far (w.heap.size+1+1) wr W)=>show W.cell? ⟨w.heap.size,a,none⟩=some (.int .u8 ((B.getD a 0:Nat):Int))/\W.cell? ⟨w.heap.size,a1,none⟩=some (.int .u8 ((B.getD a1 0:Nat):Int))/\W.cell? ⟨w.heap.size,a2,none⟩=some (.int .u8 ((B.getD a2 0:Nat):Int))/\W.cell? ⟨w.heap.size,a3,none⟩=some (.int .u8 ((B.getD a3 0:Nat):Int)) by have P2:=P.out.grown hW (by simp;omega);exact⟨zkh P2 (by omega),zkh P2 (by omega),zkh P2 (by omega),zkh P2 (by omega)⟩)
   generalize B.getD a 0=x0 at*;generalize B.getD a1 0=x1 at*;generalize B.getD a2 0=x2 at*;generalize B.getD a3 0=x3 at*;have HSET:=Hz hset;have HOR:=Hz hor;have hk64:(k:Int)<64:=by omega
   have HT:=Hz (zzb (l:=(zgi B).take k) (by rw[List.length_take,HWL.out];omega));clear ha ha1 ha2 ha3 hst hset hor hx0 hx1 hx2 hx3;go_wp2
   refine zaw (Far (w.heap.size+1+1)) [(true,0),(true,1),(true,2),(true,3),(true,4),(true,5),(true,6),(true,7),(true,8),(true,9),(true,10),(true,11),(true,12),(true,13),(true,14),(true,15),(true,16),(true,17),(true,18),(true,19),(true,20),(true,21),(true,22),(true,23),(true,24),(true,25),(true,26),(true,27),(true,28),(true,29),(true,30),(false,31)]
    (Far.refl _) Far.trans (by kernel_rfl) (by kernel_rfl) (by kernel_rfl) (by kernel_rfl) ?_
   iterate 31 (
    refine zar rfl rfl (v:=?_) (fun W hW=>?_) ?_;rotate_left
    ·obtain⟨y0,y1,y2,y3⟩:=F.out W (Far.trans (Far.drew _ wr) hW)
     go_simp<;> with_reducible rfl
    simp only[Act.put,List.setIfInBounds_toArray,List.set_cons_zero,List.set_cons_succ])
   rw[HOR.out];have T2:Blk wr.drew (w.heap.size+1+1) 148 (za0 .u32 (zw1 ((zgi B).take k))).toArray:=T.out;have z0:=zfm (i:=k) T2 (by rw[HT.out];omega);have f0:=T2.frozen k;have hF:Far (w.heap.size+1+1) wr.drew (wr.drew.setCell ⟨w.heap.size+1+1,k,none⟩ (.int .u32 (zt6 x0 x1 x2 x3))):=zw4 _ _;have T3:=Hz (zsc T2 (i:=k) (zt6 x0 x1 x2 x3));clear T2;refine za7 rfl rfl (fun K hK=>?_);go_simp
   refine hK _ _ hF ?_;clear hK z0 f0;refine zdh ?_;rw[HSET.out] at T3;have hF2:=Far.trans (Far.drew _ wr) hF;have P3:=Hz (P.out.grown hF2 (by simp;omega));have Z3:=Hz (Z.out.grown hF2 (by simp));have b3:=New.far b hF2 (by omega);clear F HSET HOR HT hF hF2 i0 i1 i2 i3 j0 j1 j2 j3;go_wp2
   go_roundw
   case rel=>exact⟨k+1,by omega,by go_num,T3,P3,Z3,b3⟩
   case measure=>simp[intOf];omega
  ·have hT:=T.out
   rw[List.take_of_length_le (by rw[HWL.out];omega)] at hT;have HT0:Hid (Blk wr (w.heap.size+1+1) 148 (za0 .u32 (zw1 (zbl B 0))).toArray):=Hz hT;clear hT T;go_wp2
   go_loopw [5] (fun i wr=>∃t j:Nat,Hid (t=16+j)/\16<=t/\t<=64/\i= .int .i64 (t:Int)/\Hid (Blk wr (w.heap.size+1+1) 148 (za0 .u32 (zw1 (zbl B j))).toArray)/\Hid (Blk wr (w.heap.size+1) 148 (za0 .u32 zki).toArray)/\New w wr) (fun i _=>64-(intOf i).toNat)
   case atStart=>exact⟨16,0,Hz rfl,by omega,by omega,rfl,HT0,Z,b⟩
   case round=>
    clear P Z b HT0;obtain⟨t,j,HTJ,ht1,ht2,rfl,T,Z,b⟩:=hrel;by_cases hlt:t<64
    ·obtain⟨b15,hb15⟩:∃a,a=t-15:=⟨_,rfl⟩
     obtain⟨b2,hb2⟩:∃a,a=t-2:=⟨_,rfl⟩;obtain⟨b16,hb16⟩:∃a,a=t-16:=⟨_,rfl⟩;obtain⟨b7,hb7⟩:∃a,a=t-7:=⟨_,rfl⟩;have i15:IntKind.i64.wrap ((t:Int)-15)=(b15:Int):=by rw[IntKind.wrap_i64];omega
     have i2:IntKind.i64.wrap ((t:Int)-2)=(b2:Int):=by rw[IntKind.wrap_i64];omega
     have i16:IntKind.i64.wrap ((t:Int)-16)=(b16:Int):=by rw[IntKind.wrap_i64];omega
     have i7:IntKind.i64.wrap ((t:Int)-7)=(b7:Int):=by rw[IntKind.wrap_i64];omega
     have j15:(b15:Int)<64:=by omega
     have j2:(b2:Int)<64:=by omega
     have j16:(b16:Int)<64:=by omega
     have j7:(b7:Int)<64:=by omega
     have jt:(t:Int)<64:=by omega
     have hlen:(zbl B j).length=t:=by rw[zlt,HTJ.out]
     have hplen:(zw1 (zbl B j)).length=64:=zzb (by omega);have hU:=zza B h8 j;have hset:=zzc (l:=zbl B j) (by omega) (z1n (zbl B j));rw[hlen,show zbl B j++[z1n (zbl B j)]=zbl B (j+1) from rfl] at hset;have hnext:z1n (zbl B j)=IntKind.u32.wrap (IntKind.u32.wrap (IntKind.u32.wrap ((zbl B j).getD b16 0+bits .xor .u32 (bits .xor .u32 (rot ((zbl B j).getD b15 0) 7) (rot ((zbl B j).getD b15 0) 18)) ((zbl B j).getD b15 0/8))+(zbl B j).getD b7 0)
      +bits .xor .u32 (bits .xor .u32 (rot ((zbl B j).getD b2 0) 17) (rot ((zbl B j).getD b2 0) 19)) ((zbl B j).getD b2 0/1024)):=by
      unfold z1n;rw[hlen,<-hb15,<-hb2,<-hb16,<-hb7]
     have F:=Hz (fun(W:World) (hW:Far (w.heap.size+1+1) wr W) (hN:New wr W)=>show W.cell? ⟨w.heap.size+1+1,b15,none⟩=some (.int .u32 ((zbl B j).getD b15 0))/\W.cell? ⟨w.heap.size+1+1,b2,none⟩=some (.int .u32 ((zbl B j).getD b2 0))/\W.cell? ⟨w.heap.size+1+1,b16,none⟩=some (.int .u32 ((zbl B j).getD b16 0))/\W.cell? ⟨w.heap.size+1+1,b7,none⟩=some (.int .u32 ((zbl B j).getD b7 0)) by have T2:=T.out.below hN T.out.lt;have c15:=zfm (i:=b15) T2 (by omega);have c2:=zfm (i:=b2) T2 (by omega);have c16:=zfm (i:=b16) T2 (by omega);have c7:=zfm (i:=b7) T2 (by omega);rw[qak (by omega)] at c15 c2 c16 c7;exact⟨c15,c2,c16,c7⟩)
     have hux:=qea (k:=b15) hU;have huy:=qea (k:=b2) hU;generalize z1n (zbl B j)=nx at*;generalize(zbl B j).getD b15 0=x at*;generalize(zbl B j).getD b2 0=y at*;generalize(zbl B j).getD b16 0=v at*;generalize(zbl B j).getD b7 0=u at*;have T7:=Hz (fun W:World=>show Calls Tryz.prog 80 #[.int .u32 x,.int .i64 7] W (DrewPost (.int .u32 (rot x 7)) W) from ze6 x 7 hux (by omega));have T18:=Hz (fun W:World=>show Calls Tryz.prog 80 #[.int .u32 x,.int .i64 18] W (DrewPost (.int .u32 (rot x 18)) W) from ze6 x 18 hux (by omega));have T17:=Hz (fun W:World=>show Calls Tryz.prog 80 #[.int .u32 y,.int .i64 17] W (DrewPost (.int .u32 (rot y 17)) W) from ze6 y 17 huy (by omega));have T19:=Hz (fun W:World=>show Calls Tryz.prog 80 #[.int .u32 y,.int .i64 19] W (DrewPost (.int .u32 (rot y 19)) W) from ze6 y 19 huy (by omega));have HSET:=Hz hset;have HNEXT:=Hz hnext;have HLEN:=Hz hplen;clear hset hnext hplen hlen hux huy hU hb15 hb2 hb16 hb7;generalize rot x 7=r7 at*;generalize rot x 18=r18 at*;generalize rot y 17=r17 at*;generalize rot y 19=r19 at*;go_wp2
     refine zaw New [(true,0),(true,1),(true,2),(true,3),(true,4),(true,5),(true,6),(true,7),(true,8),(true,9)]
      New.refl New.trans (by kernel_rfl) (by kernel_rfl) (by kernel_rfl) (by kernel_rfl) ?_
     have hN:=New.drew wr;iterate 10 (
      refine zar rfl rfl (v:=?_) (fun W hW=>?_) ?_;rotate_left
      ·obtain⟨y0,y1,y2,y3⟩:=F.out W (Far.of_new (New.trans hN hW)) (New.trans hN hW)
       go_simp<;> with_reducible rfl
      simp only[Act.put,List.setIfInBounds_toArray,List.set_cons_zero,List.set_cons_succ])
     refine zdh ?_;go_wp2_with fail
     (with_reducible refine(T7.out _).mono ?_)
     rintro e w2 ⟨rfl,k2,rfl⟩;replace hN:=New.trans hN (zg1 _ k2);go_wp2_with fail
     (with_reducible refine(T18.out _).mono ?_)
     rintro e w2 ⟨rfl,k3,rfl⟩;replace hN:=New.trans hN (zg1 _ k3);go_wp2_with fail
     (with_reducible refine(T17.out _).mono ?_)
     rintro e w2 ⟨rfl,k4,rfl⟩;replace hN:=New.trans hN (zg1 _ k4);go_wp2_with fail
     (with_reducible refine(T19.out _).mono ?_)
     rintro e w2 ⟨rfl,k5,rfl⟩;replace hN:=New.trans hN (zg1 _ k5);go_wp2_with fail
     refine zcs New 15 [(1,0),(1,1),(1,2),(1,3),(0,4),(1,5),(1,6),(1,7),(1,8),(1,9),(0,10),(1,11),(1,12),(1,13),(1,14),(2,15)]
      New.refl New.trans (by kernel_rfl) (by kernel_rfl) (by kernel_rfl) (by kernel_rfl) ?_
     obtain⟨V,hV⟩:∃V,V=(wr.drewN (1+k2+k3+k4+k5)).drew:=⟨_,rfl⟩;have hN2:New wr V:=by rw[hV];exact New.trans (zg1 _ _) (New.drew _)
     have TD:Blk V (w.heap.size+1+1) 148 (za0 .u32 (zw1 (zbl B j))).toArray:=by rw[hV];exact T.out
     have ZD:Blk V (w.heap.size+1) 148 (za0 .u32 zki).toArray:=by rw[hV];exact Z.out
     rw[<-hV];have HTD:=Hz TD;have HZD:=Hz ZD;clear hV TD ZD hN;repeat(first
      |(refine zb1 rfl rfl (v:=?_) (fun W=>?_) ?_;rotate_left;(go_simp<;> with_reducible rfl);simp only[Act.put,List.setIfInBounds_toArray,List.set_cons_zero,List.set_cons_succ])
      |(refine zct rfl rfl (v:=?_) (fun W hW=>?_) ?_;rotate_left;(obtain⟨y0,y1,y2,y3⟩:=F.out W (Far.of_new (New.trans hN2 hW)) (New.trans hN2 hW);go_simp<;> with_reducible rfl);simp only[Act.put,List.setIfInBounds_toArray,List.set_cons_zero,List.set_cons_succ]))
     rw[<-HNEXT.out];have z0:=zfm (i:=t) HTD.out (by rw[HLEN.out];omega);have f0:=HTD.out.frozen t;have hF:Far (w.heap.size+1+1) V (V.setCell ⟨w.heap.size+1+1,t,none⟩ (.int .u32 nx)):=zw4 _ _;have T3:=Hz (zsc HTD.out (i:=t) nx);rw[HSET.out] at T3;have Z3:=Hz (HZD.out.grown hF (by simp));have b3:=New.far (New.trans b hN2) hF (by omega);refine zbf rfl rfl (fun K hK=>?_);go_simp
     refine hK _ _ (.inr (.inl rfl)) ?_;clear hK z0 f0 hF;refine zf2 ?_;have HTJ2:=Hz (show t+1=16+(j+1) by rw[HTJ.out];omega);clear F HSET HNEXT HLEN HTD HZD i15 i2 i16 i7 j15 j2 j16 j7 jt T7 T17 T18 T19;go_wp2
     go_roundw
     case rel=>exact⟨t+1,j+1,HTJ2,by omega,by omega,by go_num,T3,Z3,b3⟩
     case measure=>simp[intOf];omega
    ·obtain rfl:t=64:=by omega
     have hj:j=48:=by have:=HTJ.out;omega
     subst hj;have hlen:(zbl B 48).length=64:=by rw[zlt]
     have hT:=T.out;rw[z4y hlen] at hT;have hsz:(za0 .u32 (zbl B 48)).toArray.size=64:=by simp[za0,hlen]
     have hz:(za0 .u32 zki).toArray.size=64:=by simp[za0,zki]
     have i1:(Tryz.prog.info? 148).map (·.size)=some (za0 .u32 (zbl B 48)).toArray.size:=by rw[hsz];kernel_rfl
     have G1:=zaz hT;have G2:=zaz Z.out;have hR:=zbg Z.out (za0 .u32 (zbl B 48)).toArray;have hF:=zbo (g:=w.heap.size+1) wr (za0 .u32 (zbl B 48)).toArray;have bE:=New.far b hF (by omega);have H:=Hz (And.intro hsz (And.intro hz (And.intro i1 (And.intro G1 (And.intro G2 (And.intro hR bE))))));have hS:zbl B 48=zcp B:=rfl;rw[hS] at H;have hone:=zeo .u32 (zcp B);have HONE:=Hz hone;generalize(za0 .u32 (zcp B)).toArray=cs at*;clear hT hsz hz i1 G1 G2 hR hF bE hS hone T Z hlen;go_wp2_with (first
      |(refine wpList_load_row rfl 148 (.tmp 3) rfl (w.heap.size+1+1) rfl _ cs _ _ H.out.2.2.2.1 (show Tryz.prog.underlying 148=some (.array 64 97) by kernel_rfl) rfl H.out.2.2.1 ?_)
      |(refine wpList_store_row rfl 148 (.tmp 2) (.tmp 88) rfl (w.heap.size+1) cs rfl rfl _ _ H.out.2.2.2.2.1 H.out.2.2.1 (by rw[H.out.1,H.out.2.1]) HONE.out ?_))
     exact bodyPost_ret (results_cell_row rfl _ _ (w.heap.size+1) _ cs (0,0) _ rfl H.out.2.2.2.2.2.1 (show Tryz.prog.underlying 148=some (.array 64 97) by kernel_rfl) rfl H.out.2.2.1) rfl ⟨rfl,H.out.2.2.2.2.2.2⟩
end Go.Proofs.Y
namespace Go.Hm
open Go.RowKit Go.WideShapes Go.ChangeShapes
theorem zom{C:Checked}{os:Os}{f:FuncId}{fn:Func}{s:ChangeSpec}{tb:TypeId}{H:Type}{enc:TypeId × Value->H}{laid:List (String × DataW Unit)}
 (own:ownKnob C.prog.godebug=none)(hl:laidOutB C.prog=true)(started:os.Started)(noInit:C.prog.inits.idxOf? f=none)(hfn:C.prog.funcs[f]? =some fn)
 (hrt:fn.resultTypes= #[tb])(htb:C.prog.underlying tb=some .bool)(hr:∀t∈fn.params.toList,C.prog.readableRec t=true/\t<C.prog.types.size)
 (hv:s.vars=[])(hs:∀ds:List (DataW H),ds.length=fn.params.size->s.fn H ds={results:=[.lit (.bool true)],args:=ds})
 (witness:∃(w:World) (tape:Tape) (i:Input),w.os=os/\(w.forCall tape i).Shaped C.prog/\i.vars=[]/\Input.okWide C.prog (w.forCall tape i) .any w.heap.size f i/\
  ((s.pre enc C.prog fn [] false (w.forCall tape i).memory i.args/\laidMetH C.prog laid (w.forCall tape i).memory)/\sizedMet enc C.prog fn (OpenSpec.ofChange s) false (w.forCall tape i).memory i.args)/\({}:Assume).holds C.prog (lone (Frame.enter C.prog f i.args .normal) [] (w.forCall tape i)))
 (contract:∀(W:World) (base:Nat) (args:Array Value) (ds:List (DataW H)) (ps:List MemPlace),
  (∀(j:Nat) t v,fn.params[j]? =some t->args[j]? =some v->Value.okWide C.prog W .any base t v)->
  DataW.TrodAll enc C.prog W 0 (fun _=>true) true fn.params.toList args.toList ds ps->(∀p∈ps,p.block<W.heap.size)->W.noneFrozen ps->
  (DataW.weightsEach C.prog fn.params.toList ds).all (· <=reachBytes)=true->laidMetH C.prog laid W->
  Calls C.prog f args W fun e W'=>e= .returned (.bool true)/\Below W.heap.size W W'):
 ReturnsInHanded {} C os f .any (fun w args=>(s.pre enc C.prog fn [] false w args/\laidMetH C.prog laid w)/\sizedMet enc C.prog fn (OpenSpec.ofChange s) false w args) (s.post enc C.prog fn false true false false):=by
 refine returnsInHanded_of_change_and (X:=fun w _=>laidMetH C.prog laid w) (fun _ _ _ hh h=>h.of_heap hh) own started noInit hfn witness ?_;intro W base args ds gs before hval hW _ hsz hL _;have hlt:∀p∈before,p.block<W.heap.size:=fun p hp=>hW.lt p hp
 obtain⟨p,q,hA,hV,rfl,hfz,_⟩:=id hW;rw[hv] at hV;obtain⟨rfl,rfl⟩:=trodVars_none hV;have hvt:s.plain.varTypes C.prog=[]:=by simp[ChangeSpec.plain,DataSpec.varTypes,hv]
 rw[hvt,List.append_nil,List.append_nil] at hsz;simp only[List.append_nil] at hlt hfz;refine(contract W base args ds p hval hA hlt hfz hsz hL).mono fun e W' ⟨he,hb⟩=>⟨_,he,?_⟩
 have hdl:∀{ts:List TypeId} {vs:List Value} {ds:List (DataW H)} {ps:List MemPlace},DataW.TrodAll enc C.prog W 0 (fun _=>true) true ts vs ds ps->ds.length=ts.length:=by
  intro ts;induction ts with
  |nil=>intro vs ds ps h;obtain⟨_,rfl,_⟩:=trodAll_nil h;rfl
  |cons t ts ih=>intro vs ds ps h;obtain⟨v,vs',d,ds',p',q',_,rfl,_,_,h2⟩:=trodAll_cons h;simp[ih h2]
 exact qas hl hrt htb hr hv (by rw[List.append_nil];exact hs ds (by simpa using hdl hA)) hW hb
def ul(w p k B n:Nat):List Nat:=zqd w p B++(B/2^(w*p)%2^k)::List.replicate (n-p-1) 0
theorem qf2(w p B n:Nat)(h:p<n):zqd w p B++List.replicate (n-p) 0=ul w p 0 B n:=by rw[ul,show n-p=(n-p-1)+1 by omega,List.replicate_succ,Nat.pow_zero,Nat.mod_one];rfl
theorem qh1(w p B n:Nat):ul w p w B n=zqd w (p+1) B++List.replicate (n-(p+1)) 0:=by rw[ul,zqd,List.append_assoc,show n-p-1=n-(p+1) by omega];rfl
theorem qf3(w p k B n:Nat):(ul w p k B n).getD p 0=B/2^(w*p)%2^k:=by rw[ul,List.getD_eq_getElem?_getD,List.getElem?_append_right (by rw[ze7];exact Nat.le_refl _),ze7];simp
theorem qf4(w p k B n a t:Nat)(ha:a=w*p+k)(ht:t=B/2^a%2):(ul w p k B n).set p (B/2^(w*p)%2^k+t*2^k)=ul w p (k+1) B n:=by
 have e:B/2^(w*p)%2^(k+1)=B/2^(w*p)%2^k+t*2^k:=by rw[zmu,Nat.div_div_eq_div_mul,<-Nat.pow_add,<-ha,<-ht,Nat.mul_comm t]
 rw[ul,ul,e,List.set_append_right _ _ (by rw[ze7];exact Nat.le_refl _),ze7,Nat.sub_self];rfl
theorem qh2(b:List Nat)(h:∀x∈b,x<256)(a q r:Nat)(hq:q=a/8/\r=a%8)(ha:a<8*b.length):b.getD q 0/2^r%2=num b/2^a%2:=by
 obtain⟨rfl,rfl⟩:=hq;rw[zzh b h _ (by omega)];have e:(256:Nat)=2^(a%8)*2^(8-a%8):=by rw[<-Nat.pow_add,show a%8+(8-a%8)=8 by omega]
 have e2:2^(8-a%8)=2*2^(7-a%8):=by rw[<-Nat.pow_succ'];congr 1;omega
 rw[show num b/256^(a/8)%256=num b/256^(a/8)%(2^(a%8)*2^(8-a%8)) by rw[<-e],Nat.mod_mul_right_div_self,e2,Nat.mod_mul_right_mod,Nat.div_div_eq_div_mul,qfq,<-Nat.pow_add];congr 3
 omega
theorem zzt(b:List Nat)(h:∀x∈b,x<256)(M r:Nat)(hl:b.length=(M+7)/8)(hr:r=M%8):num b<2^M↔(r=0\/b.getD (b.length-1) 0/2^r=0):=by
 have hb:=zqw b h;by_cases h0:r=0
 ·have:M=8*b.length:=by omega
  rw[qfq,<-this] at hb;simp[h0,hb]
 ·have hl2:b.length-1<b.length:=by omega
  have hM:M=8*(b.length-1)+r:=by omega
  have e:=zzh b h _ hl2;have hlt:num b/256^(b.length-1)<256:=by apply Nat.div_lt_of_lt_mul;rw[<-Nat.pow_succ,show(b.length-1).succ=b.length by omega];exact hb
  rw[Nat.mod_eq_of_lt hlt] at e;rw[e,hM,Nat.pow_add,<-qfq];constructor
  ·intro hh
   exact .inr (Nat.div_eq_of_lt (Nat.div_lt_of_lt_mul hh))
  ·rintro(hh|hh)
   ·exact absurd hh h0
   ·have h1:num b/256^(b.length-1)<2^r:=by
     rcases Nat.lt_or_ge (num b/256^(b.length-1)) (2^r) with h2|h2
     ·exact h2
     ·have:=Nat.div_pos h2 (Nat.two_pow_pos r)
      omega
    rw[Nat.mul_comm];exact(Nat.div_lt_iff_lt_mul (Nat.pow_pos (by omega))).1 h1
theorem qbm(v k t:Nat)(hv:v<2^k)(ht:t<=1)(hk:k<64):bits .or .u64 (v:Int) (IntKind.u64.wrap ((t:Int)*2^k))=((v+t*2^k:Nat):Int):=by
 have h7:2^(k+1)<=2^64:=Nat.pow_le_pow_right (by omega) (by omega);rw[Nat.pow_succ] at h7;have hq:t*2^k<=1*2^k:=Nat.mul_le_mul_right _ ht;have e:IntKind.u64.wrap ((t:Int)*2^k)=((t*2^k:Nat):Int):=by
  have e2:((t*2^k:Nat):Int)=(t:Int)*2^k:=by simp
  rw[<-e2,IntKind.wrap_u64];omega
 rw[e,u64_or_nat _ _ (by omega) (by omega),Nat.or_comm,<-Nat.mul_comm (2^k),<-Nat.two_pow_add_eq_or_of_lt hv,Nat.add_comm]
theorem qbn(y r t:Nat)(hy:y<256)(ht:t=y/2^r%2):bits .and .u8 ((y:Int)/2^r) 1=(t:Int):=by have h1:y/2^r<=y:=Nat.div_le_self _ _;have:=u8_and_nat (y/2^r) 1 (by omega) (by omega);rw[Nat.and_one_is_mod,<-ht] at this;rw[<-this];congr 1
end Go.Hm
namespace Go.Proofs.Y
open Go.RowKit Go.Hm
theorem zxs(w:World)(a b:Obj):New w ((w.alloc a).alloc b):=New.trans ((Below.refl _ _).alloc (Nat.le_refl _) _) ((Below.refl _ _).alloc (Nat.le_refl _) _)
theorem zqn{s:List Nat}:(zad s).toList=[]↔s=[]:=by rw[zjz];simp
set_option maxRecDepth 100000 in
theorem zfw{w:World}{b:Bool}{n:Int}{s:List Nat}{x y:Int}{cn:List Nat}{t:Int}{nu:Bool}(hs:s.length<=140737488351232):
 Calls Tryz.prog 83 #[.agg #[.bool b,.int .i64 n,.string (zad s),.int .i64 x,.int .i64 y],.agg #[.string (zad cn),.int .i64 t,.bool nu]] w (zal (.bool (zae (b,n,s,x,y) t nu)) w):=by
 have z1:=zbn s;generalize hO:zae (b,n,s,x,y) t nu=O;have HO:=Hz hO;have Z:=Hz (zqn (s:=s));clear hO;have B0:=Blk.new w 75 #[.bool b,.int .i64 n,.string (zad s),.int .i64 x,.int .i64 y];have B1:=Blk.new (w.alloc (.cells #[.bool b,.int .i64 n,.string (zad s),.int .i64 x,.int .i64 y] 75)) 71 #[.string (zad cn),.int .i64 t,.bool nu];obtain⟨x0,x1,x2,x3,x4⟩:=zcq (B0.alloc (.cells #[.string (zad cn),.int .i64 t,.bool nu] 71));obtain⟨y0,y1,y2⟩:=zan B1;clear B0 B1;go_enter Tryz.func83,Tryz.ntmps83
 go_wp2_with (first
  |(go_at_call 107;refine(zq6 x y).mono ?_;rintro e w' ⟨rfl,b1⟩))
 all_goals go_ret
 all_goals try refine⟨?_,zxs w _ _⟩
 all_goals try refine⟨?_,New.trans (zxs w _ _) (by assumption)⟩
 all_goals
  rw[<-HO.out];have Z:=Z.out;clear x0 x1 x2 x3 x4 y0 y1 y2 HO;simp_all[zae]
 ·by_cases h1:n=1<;> simp[*]
 ·omega
end Go.Proofs.Y
namespace Go.Hm
open Go Go.RowKit
def qci(a b:List Nat):Int:=Lib.compareBytes (a.map UInt8.ofNat) (b.map UInt8.ofNat)
def z4o(a b:Bool):Int:=if a&&b then 0 else if a then-1 else 1
def qii(t:Int)(a b:zab):Int:=if a.1||b.1 then z4o a.1 b.1 else if t=0\/t=1 then zia a.2.1 b.2.1 else if t=2 then qci a.2.2.1 b.2.2.1 else 0
end Go.Hm
namespace Go.Proofs.Y
open Go.RowKit Go.Hm
set_option maxRecDepth 100000 in
theorem bstrCmp_any{w:World}{a b:List Nat}:Calls Tryz.prog 185 #[.string (zad a),.string (zad b)] w (zdl (.int .i64 (qci a b)) w):=by
 go_enter Tryz.func185,Tryz.ntmps185
 go_wp2
 rw[run_callFunc_extern Tryz.func203 (by kernel_rfl) (by kernel_rfl) (by kernel_rfl) (e:=Extern.BytealgCompare.compare) (by kernel_rfl),Lib.run_compareString];simp only[Result.andThen];rw[Oper.upon_value];go_wp2
 go_ret
 exact⟨rfl,rfl⟩
set_option maxRecDepth 100000 in
theorem strCmp_any{w:World}{a b:List Nat}:Calls Tryz.prog 165 #[.string (zad a),.string (zad b)] w (zdl (.int .i64 (qci a b)) w):=by
 go_enter Tryz.func165,Tryz.ntmps165
 go_wp2_with (go_at_call 185;refine bstrCmp_any.mono ?_;rintro e w' ⟨rfl,rfl⟩)
 go_ret
 exact⟨rfl,rfl⟩
set_option maxRecDepth 100000 in
theorem cmpNulls_any{w:World}{a b:Bool}{n m:Int}{s r:ByteArray}{x y x2 y2:Int}:
 Calls Tryz.prog 163 #[.agg #[.bool a,.int .i64 n,.string s,.int .i64 x,.int .i64 y],.agg #[.bool b,.int .i64 m,.string r,.int .i64 x2,.int .i64 y2]] w (zal (.int .i64 (z4o a b)) w):=by
 have B0:=Blk.new w 75 #[.bool a,.int .i64 n,.string s,.int .i64 x,.int .i64 y];have B1:=Blk.new (w.alloc (.cells #[.bool a,.int .i64 n,.string s,.int .i64 x,.int .i64 y] 75)) 75 #[.bool b,.int .i64 m,.string r,.int .i64 x2,.int .i64 y2];obtain⟨x0,_⟩:=zcq (B0.alloc (.cells #[.bool b,.int .i64 m,.string r,.int .i64 x2,.int .i64 y2] 75));obtain⟨y0,_⟩:=zcq B1;clear B0 B1;go_enter Tryz.func163,Tryz.ntmps163
 cases a<;> cases b;all_goals
  go_wp2
  go_ret
  exact⟨rfl,zxs w _ _⟩
set_option maxRecDepth 100000 in
theorem zx6{w:World}{t:Int}{a b:Bool}{n m:Int}{s r:List Nat}{x y x2 y2:Int}(h3: ¬(t=3/\a=false/\b=false)):
 Calls Tryz.prog 144 #[.int .i64 t,.agg #[.bool a,.int .i64 n,.string (zad s),.int .i64 x,.int .i64 y],.agg #[.bool b,.int .i64 m,.string (zad r),.int .i64 x2,.int .i64 y2]] w (zal (.int .i64 (qii t (a,n,s,x,y) (b,m,r,x2,y2))) w):=by
 have B0:=Blk.new w 75 #[.bool a,.int .i64 n,.string (zad s),.int .i64 x,.int .i64 y];have B1:=Blk.new (w.alloc (.cells #[.bool a,.int .i64 n,.string (zad s),.int .i64 x,.int .i64 y] 75)) 75 #[.bool b,.int .i64 m,.string (zad r),.int .i64 x2,.int .i64 y2];obtain⟨x0,x1,x2',x3,x4⟩:=zcq (B0.alloc (.cells #[.bool b,.int .i64 m,.string (zad r),.int .i64 x2,.int .i64 y2] 75));obtain⟨y0,y1,y2',y3,y4⟩:=zcq B1;generalize hO:qii t (a,n,s,x,y) (b,m,r,x2,y2)=O;have HO:=Hz hO;have H3:=Hz h3;clear B0 B1 hO h3;cases a<;> cases b
 case' false.false=>have h3: ¬t=3:=fun e=>H3.out ⟨e,rfl,rfl⟩
 all_goals
  clear H3;go_enter Tryz.func144,Tryz.ntmps144
  go_wp2_with (first
   |(go_at_call 163;refine cmpNulls_any.mono ?_;rintro e w' ⟨rfl,b1⟩)
   |(go_at_call 164;refine cmpI_any.mono ?_;rintro e w' ⟨rfl,rfl⟩)
   |(go_at_call 165;refine strCmp_any.mono ?_;rintro e w' ⟨rfl,rfl⟩))
 all_goals go_ret
 all_goals try refine⟨?_,zxs w _ _⟩
 all_goals try refine⟨?_,New.trans (zxs w _ _) (by assumption)⟩
 all_goals
  rw[<-HO.out];clear x0 x1 x2' x3 x4 y0 y1 y2' y3 y4 HO;simp_all[qii]
end Go.Proofs.Y
