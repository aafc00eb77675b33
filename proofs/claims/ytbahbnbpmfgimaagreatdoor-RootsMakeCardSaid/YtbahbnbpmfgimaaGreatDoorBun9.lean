import Derived.Test.YtbahbnbpmfgimaaGreatDoorBun8
set_option maxHeartbeats 4000000
set_option maxRecDepth 100000
namespace Go.Hm
open Go Go.RowKit
def horN(B:List Nat)(k:Nat):Nat->Nat
 |0=>0
 |m+1=>horN B k m*256+B.getD (4*k+m) 0
theorem qf1{B:List Nat}{k:Nat}(h8:∀x∈B,x<256)(m:Nat):horN B k m<256^m:=by
 induction m with
 |zero=>simp[horN]
 |succ m ih=>
  have:=ze3 B (4*k+m) h8;rw[horN,qm3];omega
theorem z5g{B:List Nat}{k m:Nat}(h8:∀x∈B,x<256)(hm:m<4):
 IntKind.u32.wrap (IntKind.u32.wrap (256*((horN B k m:Nat):Int))+IntKind.u32.wrap ((B.getD (4*k+m) 0:Nat):Int))=((horN B k (m+1):Nat):Int):=by
 have h1:=qf1 (k:=k) h8 m;have h2:=ze3 B (4*k+m) h8;have h3:256^m<=16777216:=by have:(256:Nat)^m<=256^3:=qnj (by omega) (by omega);exact qlw this (by decide)
 rw[qrk,qrk,qrk,horN];omega
theorem z5h(B:List Nat)(k:Nat):((horN B k 4:Nat):Int)=zqu (B.getD (4*k) 0) (B.getD (4*k+1) 0) (B.getD (4*k+2) 0) (B.getD (4*k+3) 0):=by simp[horN,zqu]
theorem z5i{l:List Int}(h:l.length<64):(zl2 l).set l.length 0=zl2 l:=by rw[zkn h];unfold zl2;rw[show 64-l.length=(64-(l++[0]).length)+1 by simp;omega,qn7];simp
end Go.Hm
namespace Go.Proofs.Y
open Go.RowKit Go.Hm
theorem z5j{w:World}(B:List Nat)(hB:B.length=64)(h8:∀x∈B,x<256):
 Calls Tryz.prog 139 #[.agg (zah .u8 B).toArray] w (zak (.agg (zap .u32 (zbk B)).toArray) w):=by
 have hWL:(zdh B).length=16:=by simp[zdh]
 have HWL:=qrf hWL;clear hWL;go_enter Tryz.func139,Tryz.ntmps139
 go_wp2
 go_loopw [4] (fun i wr=>∃k:Nat,k<=16/\i= .int .i64 (k:Int)/\Hid (Blk wr (w.heap.size+1+1) 148 (zap .u32 (zl2 ((zdh B).take k))).toArray)/\Hid (Blk wr w.heap.size 101 (zah .u8 B).toArray)/\Hid (Blk wr (w.heap.size+1) 148 (zap .u32 zev).toArray)/\New w wr) (fun i _=>16-(intOf i).toNat)
 case atStart=>
  refine⟨0,by omega,rfl,qrf ?_,qrf ?_,qrf ?_,?_⟩
  ·have h:=qrv ((w.alloc (.cells (zah .u8 B).toArray 101)).alloc (.cells (zap .u32 zev).toArray 148)) 148 (zap .u32 zev).toArray
   simp only[World.alloc,qoh] at h;exact h
  ·exact((qrv w _ _).alloc _).alloc _
  ·have h:=(qrv (w.alloc (.cells (zah .u8 B).toArray 101)) 148 (zap .u32 zev).toArray).alloc (.cells (zap .u32 zev).toArray 148)
   simp only[World.alloc,qoh] at h;exact h
  ·exact(((qq8 _ _).alloc (ql6 _) _).alloc (by simp) _).alloc (by simp;omega) _
 case round=>
  obtain⟨k,hk,rfl,T,P,Z,b⟩:=hrel;by_cases hlt:k<16
  ·have hst:=zoq (B:=B) hlt
   rw[<-z5h] at hst;have htk:((zdh B).take k).length=k:=by rw[ql2,HWL.out];omega
   have hset:=zkn (l:=(zdh B).take k) (by omega) ((horN B k 4:Nat):Int);rw[<-hst,htk] at hset;have hzero:=z5i (l:=(zdh B).take k) (by omega);rw[htk] at hzero;have HSET:=qrf hset;have HT:=qrf (znv (l:=(zdh B).take k) (by omega));have T0:Hid (Blk wr (w.heap.size+1+1) 148 (zap .u32 ((zl2 ((zdh B).take k)).set k ((horN B k 0:Nat):Int))).toArray):=qrf (by show Blk wr _ _ (zap .u32 ((zl2 ((zdh B).take k)).set k 0)).toArray;rw[hzero];exact T.out);have hk64:(k:Int)<64:=by omega
   have d16:decide ((k:Int)<16)=true:=by simp;omega
   clear hst htk hset hzero;go_wp2
   go_loopw [5] (fun i wr=>∃m:Nat,m<=4/\i= .int .i64 (m:Int)/\Hid (Blk wr (w.heap.size+1+1) 148 (zap .u32 ((zl2 ((zdh B).take k)).set k ((horN B k m:Nat):Int))).toArray)/\Hid (Blk wr w.heap.size 101 (zah .u8 B).toArray)/\Hid (Blk wr (w.heap.size+1) 148 (zap .u32 zev).toArray)/\New w wr) (fun i _=>4-(intOf i).toNat)
   case atStart=>exact⟨0,by omega,rfl,T0,P,Z,b⟩
   case round=>
    clear T P Z b T0;obtain⟨m,hm,rfl,T,P,Z,b⟩:=hrel;by_cases hlm:m<4
    ·obtain⟨a,ha⟩:∃a,a=4*k:=⟨_,rfl⟩
     obtain⟨am,ham⟩:∃a,a=4*k+m:=⟨_,rfl⟩;have i0:IntKind.i64.wrap (4*(k:Int))=(a:Int):=by rw[qrl];omega
     have i1:IntKind.i64.wrap ((a:Int)+(m:Int))=(am:Int):=by rw[qrl];omega
     have j1:(am:Int)<64:=by omega
     have hstep:=z5g (B:=B) (k:=k) h8 hlm;rw[<-ham] at hstep;have F:=qrf (fun(W:World) (hN:New wr W)=>show W.cell? ⟨w.heap.size,am,none⟩=some (.int .u8 ((B.getD am 0:Nat):Int))/\W.cell? ⟨w.heap.size+1+1,k,none⟩=some (.int .u32 ((horN B k m:Nat):Int)) by have P2:=P.out.below hN P.out.lt;have T2:=T.out.below hN T.out.lt;have c1:=zcr (i:=k) T2 (by rw[ql9,HT.out];omega);rw[show((zl2 ((zdh B).take k)).set k ((horN B k m:Nat):Int)).getD k 0=((horN B k m:Nat):Int) by rw[qnp,qol (by rw[HT.out];omega)];rfl] at c1;exact⟨zhc P2 (by omega),c1⟩)
     generalize B.getD am 0=x at*;have HSTEP:=qrf hstep;generalize hh:horN B k m=h at*;have HH:=qrf hh;clear ha ham hstep hh;go_wp2
     refine zcf New 14 [(1,0),(1,1),(1,2),(0,3),(1,4),(1,5),(1,6),(1,7),(1,8),(1,9),(0,10),(1,11),(1,12),(1,13),(2,14)]
      qrz qr0 (by kernel_rfl) (by kernel_rfl) (by kernel_rfl) (by kernel_rfl) ?_
     obtain⟨V,hV⟩:∃V,V=wr.drew:=⟨_,rfl⟩;have hN2:New wr V:=by rw[hV];exact qr1 _
     have HTD:Hid (Blk V (w.heap.size+1+1) 148 (zap .u32 ((zl2 ((zdh B).take k)).set k (h:Int))).toArray):=qrf (by rw[hV];exact T.out);have HPD:Hid (Blk V w.heap.size 101 (zah .u8 B).toArray):=qrf (by rw[hV];exact P.out);have HZD:Hid (Blk V (w.heap.size+1) 148 (zap .u32 zev).toArray):=qrf (by rw[hV];exact Z.out);rw[<-hV];clear hV;repeat(first
      |(refine zb2 rfl rfl (v:=?_) (fun W=>?_) ?_;rotate_left;(go_simp<;> with_reducible rfl);simp only[Act.put,qoi,qn8,qoj])
      |(refine zco rfl rfl (v:=?_) (fun W hW=>?_) ?_;rotate_left;(obtain⟨y0,y1⟩:=F.out W (qr0 hN2 hW);go_simp<;> with_reducible rfl);simp only[Act.put,qoi,qn8,qoj]))
     rw[HSTEP.out];have z0:=(F.out V hN2).2;have f0:=HTD.out.frozen k;have hF:Far (w.heap.size+1+1) V (V.setCell ⟨w.heap.size+1+1,k,none⟩ (.int .u32 ((horN B k (m+1):Nat):Int))):=zj6 _ _;have t3:=zi8 HTD.out (i:=k) ((horN B k (m+1):Nat):Int);rw[List.set_set] at t3;have T3:=qrf t3;have P3:=qrf (HPD.out.grown hF (by simp;omega));have Z3:=qrf (HZD.out.grown hF (by simp));have b3:=qr6 (qr0 b hN2) hF (by omega);clear t3;refine zbl rfl rfl (fun K hK=>?_);go_simp
     refine hK _ _ (.inr (.inl rfl)) ?_;clear hK z0 f0 hF;refine zfd ?_;clear F HSTEP HTD HPD HZD i0 i1 j1;go_wp2
     go_roundw
     case rel=>exact⟨m+1,by omega,by go_num,T3,P3,Z3,b3⟩
     case measure=>simp[intOf];omega
    ·have hm4:m=4:=by omega
     have hT:=T.out;rw[hm4,HSET.out] at hT;have T4:=qrf hT;clear hT T HSET hm4;go_wp2
     go_roundw
     case rel=>exact⟨k+1,by omega,by go_num,T4,P,Z,b⟩
     case measure=>simp[intOf];omega
  ·have hT:=T.out
   rw[qm0 (by rw[HWL.out];omega)] at hT;have HT0:Hid (Blk wr (w.heap.size+1+1) 148 (zap .u32 (zl2 (zay B 0))).toArray):=qrf hT;clear hT T;go_wp2
   go_loopw [6] (fun i wr=>∃t j:Nat,Hid (t=16+j)/\16<=t/\t<=64/\i= .int .i64 (t:Int)/\Hid (Blk wr (w.heap.size+1+1) 148 (zap .u32 (zl2 (zay B j))).toArray)/\Hid (Blk wr (w.heap.size+1) 148 (zap .u32 zev).toArray)/\New w wr) (fun i _=>64-(intOf i).toNat)
   case atStart=>exact⟨16,0,qrf rfl,by omega,by omega,rfl,HT0,Z,b⟩
   case round=>
    clear P Z b HT0;obtain⟨t,j,HTJ,ht1,ht2,rfl,T,Z,b⟩:=hrel;by_cases hlt:t<64
    ·obtain⟨b15,hb15⟩:∃a,a=t-15:=⟨_,rfl⟩
     obtain⟨b2,hb2⟩:∃a,a=t-2:=⟨_,rfl⟩;obtain⟨b16,hb16⟩:∃a,a=t-16:=⟨_,rfl⟩;obtain⟨b7,hb7⟩:∃a,a=t-7:=⟨_,rfl⟩;have i15:IntKind.i64.wrap ((t:Int)-15)=(b15:Int):=by rw[qrl];omega
     have i2:IntKind.i64.wrap ((t:Int)-2)=(b2:Int):=by rw[qrl];omega
     have i16:IntKind.i64.wrap ((t:Int)-16)=(b16:Int):=by rw[qrl];omega
     have i7:IntKind.i64.wrap ((t:Int)-7)=(b7:Int):=by rw[qrl];omega
     have j15:(b15:Int)<64:=by omega
     have j2:(b2:Int)<64:=by omega
     have j16:(b16:Int)<64:=by omega
     have j7:(b7:Int)<64:=by omega
     have jt:(t:Int)<64:=by omega
     have hlen:(zay B j).length=t:=by rw[zhb,HTJ.out]
     have hplen:(zl2 (zay B j)).length=64:=znv (by omega);have hset:=zkn (l:=zay B j) (by omega) (zop (zay B j));rw[hlen,show zay B j++[zop (zay B j)]=zay B (j+1) from rfl] at hset;have hnext:zop (zay B j)=IntKind.u32.wrap (IntKind.u32.wrap (IntKind.u32.wrap ((zay B j).getD b16 0+bits .xor .u32 (bits .xor .u32 (rot ((zay B j).getD b15 0) 7) (rot ((zay B j).getD b15 0) 18)) ((zay B j).getD b15 0/8))+(zay B j).getD b7 0)
      +bits .xor .u32 (bits .xor .u32 (rot ((zay B j).getD b2 0) 17) (rot ((zay B j).getD b2 0) 19)) ((zay B j).getD b2 0/1024)):=by
      unfold zop;rw[hlen,<-hb15,<-hb2,<-hb16,<-hb7]
     have F:=qrf (fun(W:World) (hW:Far (w.heap.size+1+1) wr W) (hN:New wr W)=>show W.cell? ⟨w.heap.size+1+1,b15,none⟩=some (.int .u32 ((zay B j).getD b15 0))/\W.cell? ⟨w.heap.size+1+1,b2,none⟩=some (.int .u32 ((zay B j).getD b2 0))/\W.cell? ⟨w.heap.size+1+1,b16,none⟩=some (.int .u32 ((zay B j).getD b16 0))/\W.cell? ⟨w.heap.size+1+1,b7,none⟩=some (.int .u32 ((zay B j).getD b7 0)) by have T2:=T.out.below hN T.out.lt;have c15:=zcr (i:=b15) T2 (by omega);have c2:=zcr (i:=b2) T2 (by omega);have c16:=zcr (i:=b16) T2 (by omega);have c7:=zcr (i:=b7) T2 (by omega);rw[zzq (by omega)] at c15 c2 c16 c7;exact⟨c15,c2,c16,c7⟩)
     generalize zop (zay B j)=nx at*;generalize(zay B j).getD b15 0=x at*;generalize(zay B j).getD b2 0=y at*;generalize(zay B j).getD b16 0=v at*;generalize(zay B j).getD b7 0=u at*;have T7:=qrf (fun W:World=>show Calls Tryz.prog 140 #[.int .u32 x,.int .u64 7] W (zcv (.int .u32 (rot x 7)) W) from zej x 7 (by omega));have T18:=qrf (fun W:World=>show Calls Tryz.prog 140 #[.int .u32 x,.int .u64 18] W (zcv (.int .u32 (rot x 18)) W) from zej x 18 (by omega));have T17:=qrf (fun W:World=>show Calls Tryz.prog 140 #[.int .u32 y,.int .u64 17] W (zcv (.int .u32 (rot y 17)) W) from zej y 17 (by omega));have T19:=qrf (fun W:World=>show Calls Tryz.prog 140 #[.int .u32 y,.int .u64 19] W (zcv (.int .u32 (rot y 19)) W) from zej y 19 (by omega));have HSET:=qrf hset;have HNEXT:=qrf hnext;have HLEN:=qrf hplen;clear hset hnext hplen hlen hb15 hb2 hb16 hb7;generalize rot x 7=r7 at*;generalize rot x 18=r18 at*;generalize rot y 17=r17 at*;generalize rot y 19=r19 at*;obtain⟨y0,y1,y2,y3⟩:=F.out wr (qr2 _ _) (qrz _);go_wp2_with fail
     (with_reducible refine(T7.out _).mono ?_)
     rintro e w2 ⟨rfl,rfl⟩;go_wp2_with fail
     (with_reducible refine(T18.out _).mono ?_)
     rintro e w2 ⟨rfl,rfl⟩;go_wp2_with fail
     (with_reducible refine(T17.out _).mono ?_)
     rintro e w2 ⟨rfl,rfl⟩;go_wp2_with fail
     (with_reducible refine(T19.out _).mono ?_)
     rintro e w2 ⟨rfl,rfl⟩;clear y0 y1 y2 y3;go_wp2_with fail
     refine zcf New 15 [(1,0),(1,1),(1,2),(1,3),(0,4),(1,5),(1,6),(1,7),(1,8),(1,9),(0,10),(1,11),(1,12),(1,13),(1,14),(2,15)]
      qrz qr0 (by kernel_rfl) (by kernel_rfl) (by kernel_rfl) (by kernel_rfl) ?_
     obtain⟨V,hV⟩:∃V,V=wr.drew:=⟨_,rfl⟩;have hN2:New wr V:=by rw[hV];exact qr1 _
     have TD:Blk V (w.heap.size+1+1) 148 (zap .u32 (zl2 (zay B j))).toArray:=by rw[hV];exact T.out
     have ZD:Blk V (w.heap.size+1) 148 (zap .u32 zev).toArray:=by rw[hV];exact Z.out
     rw[<-hV];have HTD:=qrf TD;have HZD:=qrf ZD;clear hV TD ZD;repeat(first
      |(refine zb2 rfl rfl (v:=?_) (fun W=>?_) ?_;rotate_left;(go_simp<;> with_reducible rfl);simp only[Act.put,qoi,qn8,qoj])
      |(refine zco rfl rfl (v:=?_) (fun W hW=>?_) ?_;rotate_left;(obtain⟨y0,y1,y2,y3⟩:=F.out W (qr4 (qr0 hN2 hW)) (qr0 hN2 hW);go_simp<;> with_reducible rfl);simp only[Act.put,qoi,qn8,qoj]))
     rw[<-HNEXT.out];have z0:=zcr (i:=t) HTD.out (by rw[HLEN.out];omega);have f0:=HTD.out.frozen t;have hF:Far (w.heap.size+1+1) V (V.setCell ⟨w.heap.size+1+1,t,none⟩ (.int .u32 nx)):=zj6 _ _;have T3:=qrf (zi8 HTD.out (i:=t) nx);rw[HSET.out] at T3;have Z3:=qrf (HZD.out.grown hF (by simp));have b3:=qr6 (qr0 b hN2) hF (by omega);refine zbl rfl rfl (fun K hK=>?_);go_simp
     refine hK _ _ (.inr (.inl rfl)) ?_;clear hK z0 f0 hF;refine zfd ?_;have HTJ2:=qrf (show t+1=16+(j+1) by rw[HTJ.out];omega);clear F HSET HNEXT HLEN HTD HZD i15 i2 i16 i7 j15 j2 j16 j7 jt T7 T17 T18 T19;go_wp2
     go_roundw
     case rel=>exact⟨t+1,j+1,HTJ2,by omega,by omega,by go_num,T3,Z3,b3⟩
     case measure=>simp[intOf];omega
    ·obtain rfl:t=64:=by omega
     have hj:j=48:=by have:=HTJ.out;omega
     subst hj;have hlen:(zay B 48).length=64:=by rw[zhb]
     have hT:=T.out;rw[zuj hlen] at hT;have hsz:(zap .u32 (zay B 48)).toArray.size=64:=by simp[zap,hlen]
     have hz:(zap .u32 zev).toArray.size=64:=by simp[zap,zev]
     have i1:(Tryz.prog.info? 148).map (·.size)=some (zap .u32 (zay B 48)).toArray.size:=by rw[hsz];kernel_rfl
     have G1:=zaf hT;have G2:=zaf Z.out;have hR:=zau Z.out (zap .u32 (zay B 48)).toArray;have hF:=za3 (g:=w.heap.size+1) wr (zap .u32 (zay B 48)).toArray;have bE:=qr6 b hF (by omega);have H:=qrf (qok hsz (qok hz (qok i1 (qok G1 (qok G2 (qok hR bE))))));have hS:zay B 48=zbk B:=rfl;rw[hS] at H;have hone:=zcs .u32 (zbk B);have HONE:=qrf hone;generalize(zap .u32 (zbk B)).toArray=cs at*;clear hT hsz hz i1 G1 G2 hR hF bE hS hone T Z hlen;go_wp2_with (first
      |(refine wpList_load_row rfl 148 (.tmp 3) rfl (w.heap.size+1+1) rfl _ cs _ _ H.out.2.2.2.1 (show Tryz.prog.underlying 148=some (.array 64 97) by kernel_rfl) rfl H.out.2.2.1 ?_)
      |(refine wpList_store_row rfl 148 (.tmp 2) (.tmp 76) rfl (w.heap.size+1) cs rfl rfl _ _ H.out.2.2.2.2.1 H.out.2.2.1 (by rw[H.out.1,H.out.2.1]) HONE.out ?_))
     exact bodyPost_ret (results_cell_row rfl _ _ (w.heap.size+1) _ cs (0,0) _ rfl H.out.2.2.2.2.2.1 (show Tryz.prog.underlying 148=some (.array 64 97) by kernel_rfl) rfl H.out.2.2.1) rfl ⟨rfl,H.out.2.2.2.2.2.2⟩
end Go.Proofs.Y
namespace Go.Hm
open Go Go.RowKit
theorem qe0{w:World}{g:Nat}{ty:TypeId}{s:S8}(h:Blk w g ty (za2 s)):w.cell? ⟨g,0,none⟩=some (.int .u32 s.1)/\w.cell? ⟨g,1,none⟩=some (.int .u32 s.2.1)/\w.cell? ⟨g,2,none⟩=some (.int .u32 s.2.2.1)/\w.cell? ⟨g,3,none⟩=some (.int .u32 s.2.2.2.1)/\w.cell? ⟨g,4,none⟩=some (.int .u32 s.2.2.2.2.1)/\w.cell? ⟨g,5,none⟩=some (.int .u32 s.2.2.2.2.2.1)/\w.cell? ⟨g,6,none⟩=some (.int .u32 s.2.2.2.2.2.2.1)/\w.cell? ⟨g,7,none⟩=some (.int .u32 s.2.2.2.2.2.2.2):=by have e:∀i,w.cell? ⟨g,i,none⟩=(za2 s)[i]? :=h.cell;exact⟨e 0,e 1,e 2,e 3,e 4,e 5,e 6,e 7⟩
def ConstIn(w:World):Prop:=1<w.heap.size/\ ∀i,i<64->w.cell? ⟨1,i,none⟩=some (.int .u32 (kI.getD i 0))
theorem zfe(s:S8):(za2 s).all (·.oneCell')=true:=by simp[za2,Value.oneCell']
theorem zbb(w:World)(t:TypeId)(old cs:Array Value):(w.alloc (.cells old t)).setRow w.heap.size cs=w.alloc (.cells cs t):=by
 unfold World.alloc World.setRow;congr 1
 apply Array.ext_getElem?;intro i;simp only[qmc,Array.getElem?_push];by_cases h:i=w.heap.size
 ·subst h;simp
 ·simp[h];intro h2;exact absurd h2.symm h
theorem ConstIn.new{w w':World}(h:ConstIn w)(hb:New w w'):ConstIn w':=⟨qlz h.1 hb.size,fun i hi=>(hb.cell h.1).trans (h.2 i hi)⟩
end Go.Hm
namespace Go.Proofs.Y
open Go.RowKit Go.Hm
theorem zm4{w:World}(s:S8)(hs:OkS s)(B:List Nat)(hB:B.length=64)(h8:∀x∈B,x<256)(hC:ConstIn w):
 Calls Tryz.prog 46 #[.agg (za2 s),.agg (zah .u8 B).toArray] w (zak (.agg (za2 (zsp s B))) w):=by
 obtain⟨W0,hW0⟩:∃W,W=((w.alloc (.cells (za2 s) 98)).alloc (.cells (zah .u8 B).toArray 101)).alloc (.cells (za2 (0,0,0,0,0,0,0,0)) 98):=⟨_,rfl⟩;have e1:(w.alloc (.cells (za2 s) 98)).heap.size=w.heap.size+1:=by simp
 have e2:((w.alloc (.cells (za2 s) 98)).alloc (.cells (zah .u8 B).toArray 101)).heap.size=w.heap.size+1+1:=by simp
 have b0:New w W0:=by rw[hW0];exact(((qq8 _ _).alloc (ql6 _) _).alloc (by simp) _).alloc (by simp;omega) _
 have A0:Blk W0 w.heap.size 98 (za2 s):=by rw[hW0];exact((qrv _ _ _).alloc _).alloc _
 have P0:Blk W0 (w.heap.size+1) 101 (zah .u8 B).toArray:=by rw[hW0,<-e1];exact(qrv _ _ _).alloc _
 have R0:Blk W0 (w.heap.size+1+1) 98 (za2 (0,0,0,0,0,0,0,0)):=by rw[hW0,<-e2];exact qrv _ _ _
 have hsz:(zah .u8 B).toArray.size=64:=by simp[zah,hB]
 have hi1:(Tryz.prog.info? 101).map (·.size)=some (zah .u8 B).toArray.size:=by rw[hsz];kernel_rfl
 have L1:=qrf (qok (zaf P0) hi1);have SC:=qrf (fun W:World=>z5f (w:=W) B hB h8);have HW:=qrf (show W0=((w.alloc (.cells #[.int .u32 s.1,.int .u32 s.2.1,.int .u32 s.2.2.1,.int .u32 s.2.2.2.1,.int .u32 s.2.2.2.2.1,.int .u32 s.2.2.2.2.2.1,.int .u32 s.2.2.2.2.2.2.1,.int .u32 s.2.2.2.2.2.2.2] 98)).alloc (.cells (zah .u8 B).toArray 101)).alloc (.cells #[.int .u32 0,.int .u32 0,.int .u32 0,.int .u32 0,.int .u32 0,.int .u32 0,.int .u32 0,.int .u32 0] 98) from hW0);have HA:=qrf A0;have HP:=qrf P0;have HR:=qrf R0;have HB:=qrf b0;have HK:=qrf (hC.new b0);clear hW0 e1 e2 A0 P0 R0 b0 hi1 hsz;have HS:=qrf hs;have h0:=L1.out;rw[HW.out] at h0;have L0:=qrf h0;have hcs:(zap .u32 (zbk B)).toArray.size=64:=by simp[zap,zi7]
 have hi2:(Tryz.prog.info? 148).map (·.size)=some (zap .u32 (zbk B)).toArray.size:=by rw[hcs];kernel_rfl
 have CS:=qrf (qok hcs (qok hi2 (zcs .u32 (zbk B))));have SU:=qrf (zzr B h8);have SL:=qrf (zi7 B);rw[show(.agg (za2 s):Value)= .agg #[.int .u32 s.1,.int .u32 s.2.1,.int .u32 s.2.2.1,.int .u32 s.2.2.2.1,.int .u32 s.2.2.2.2.1,.int .u32 s.2.2.2.2.2.1,.int .u32 s.2.2.2.2.2.2.1,.int .u32 s.2.2.2.2.2.2.2] from rfl];clear L1 h0 hcs hi2 hB h8 hC hs;go_enter Tryz.func46,Tryz.ntmps46
 go_wp2_with (refine wpList_load_row rfl 101 (.tmp 3) rfl (w.heap.size+1) rfl _ (zah .u8 B).toArray _ _ L0.out.1 (show Tryz.prog.underlying 101=some (.array 64 5) by kernel_rfl) rfl L0.out.2 ?_)
 rw[<-HW.out];refine(SC.out _).mono ?_;rintro e w1 ⟨rfl,b1⟩;clear SC HW L0 HP;go_wp2_with (refine wpList_store_row rfl 148 (.tmp 5) (.tmp 18) rfl w1.heap.size (zap .u32 (zbk B)).toArray rfl rfl _ _ (heap_alloc_new _ _) CS.out.2.1 (by rw[CS.out.1];rfl) CS.out.2.2 ?_;rw[zbb])
 obtain⟨W2,hW2⟩:∃W,W=w1.alloc (.cells (zap .u32 (zbk B)).toArray 148):=⟨_,rfl⟩;have b2:New W0 W2:=by rw[hW2];exact qr0 b1 ((qq8 _ _).alloc (ql6 _) _)
 have C2:Blk W2 w1.heap.size 148 (zap .u32 (zbk B)).toArray:=by rw[hW2];exact qrv _ _ _
 rw[<-hW2];have F:=qrf (fun(W:World) (hW:New W2 W)=>qe0 (HA.out.below (qr0 b2 hW) HA.out.lt));have FK:=qrf (fun(t:Nat) (ht:t<64) (W:World) (hW:New W2 W)=>qok ((HK.out.new (qr0 b2 hW)).2 t ht) (zcr (i:=t) (C2.below hW C2.lt) (by rw[SL.out];exact ht)));have HR2:=qrf (HR.out.below b2 HR.out.lt);have HB2:=qrf (qr0 HB.out b2);have hg5:w.heap.size+1+1<W2.heap.size:=HR2.out.lt;generalize hgc:w1.heap.size=gc at*;clear hgc hW2 b1 b2 C2 HA HR HB HK hg5 CS;refine zaw New [(true,0),(true,1),(true,2),(true,3),(true,4),(true,5),(true,6),(true,7),(true,8),(true,9),(true,10),(true,11),(true,12),(true,13),(true,14),(true,15),(true,16),(true,17),(true,18),(true,19),(true,20),(true,21),(true,22),(true,23)]
  qrz qr0 (by kernel_rfl) (by kernel_rfl) (by kernel_rfl) (by kernel_rfl) ?_
 iterate 24 (
  refine zaj rfl rfl (v:=?_) (fun W hW=>?_) ?_;rotate_left
  ·obtain⟨x0,x1,x2,x3,x4,x5,x6,x7⟩:=F.out W (qr0 (qr1 W2) hW)
   go_simp<;> with_reducible rfl
  simp only[Act.put,qoi,qn8,qoj])
 refine zda ?_;go_wp2
 go_loopw [6,7,8,9,10,11,12,13,35] (fun a b c d e f g i k wr=>∃t:Nat,t<=64/\k= .int .i64 (t:Int)/\a= .int .u32 (zcw (zbk B) s t).1/\b= .int .u32 (zcw (zbk B) s t).2.1/\c= .int .u32 (zcw (zbk B) s t).2.2.1/\d= .int .u32 (zcw (zbk B) s t).2.2.2.1/\e= .int .u32 (zcw (zbk B) s t).2.2.2.2.1/\f= .int .u32 (zcw (zbk B) s t).2.2.2.2.2.1/\g= .int .u32 (zcw (zbk B) s t).2.2.2.2.2.2.1/\i= .int .u32 (zcw (zbk B) s t).2.2.2.2.2.2.2/\New W2 wr) (fun _ _ _ _ _ _ _ _ k _=>64-(intOf k).toNat)
 case atStart=>exact⟨0,by omega,rfl,rfl,rfl,rfl,rfl,rfl,rfl,rfl,rfl,qr1 W2⟩
 case round=>
  obtain⟨t,ht,rfl,rfl,rfl,rfl,rfl,rfl,rfl,rfl,rfl,b⟩:=hrel;by_cases hlt:t<64
  ·have hok:=zuk (W:=zbk B) HS.out t
   have hst:zcw (zbk B) s (t+1)=z5c (kI.getD t 0) ((zbk B).getD t 0) (zcw (zbk B) s t):=rfl;have F2:=qrf (FK.out t hlt);have HST:=qrf hst;generalize hr:zcw (zbk B) s t=r at*;have HRR:=qrf hr;generalize kI.getD t 0=kt at*;generalize(zbk B).getD t 0=wt at*;obtain⟨a,b',c,d,e,f,g,i⟩:=r;obtain⟨ua,ub,uc,ud,ue,uf,ug,ui⟩:=hok;simp only at ua ue HST⊢;have Te6:=qrf (fun W:World=>show Calls Tryz.prog 80 #[.int .u32 e,.int .i64 6] W (zak (.int .u32 (rot e 6)) W) from(zfk e 6 ue (by omega)).mono fun _ _ h=>h.new);have Te11:=qrf (fun W:World=>show Calls Tryz.prog 80 #[.int .u32 e,.int .i64 11] W (zak (.int .u32 (rot e 11)) W) from(zfk e 11 ue (by omega)).mono fun _ _ h=>h.new);have Te25:=qrf (fun W:World=>show Calls Tryz.prog 80 #[.int .u32 e,.int .i64 25] W (zak (.int .u32 (rot e 25)) W) from(zfk e 25 ue (by omega)).mono fun _ _ h=>h.new);have Ta2:=qrf (fun W:World=>show Calls Tryz.prog 80 #[.int .u32 a,.int .i64 2] W (zak (.int .u32 (rot a 2)) W) from(zfk a 2 ua (by omega)).mono fun _ _ h=>h.new);have Ta13:=qrf (fun W:World=>show Calls Tryz.prog 80 #[.int .u32 a,.int .i64 13] W (zak (.int .u32 (rot a 13)) W) from(zfk a 13 ua (by omega)).mono fun _ _ h=>h.new);have Ta22:=qrf (fun W:World=>show Calls Tryz.prog 80 #[.int .u32 a,.int .i64 22] W (zak (.int .u32 (rot a 22)) W) from(zfk a 22 ua (by omega)).mono fun _ _ h=>h.new);have jt:(t:Int)<64:=by omega
   clear ua ub uc ud ue uf ug ui hst hr HRR;have hpI:pI e f g i kt wt=IntKind.u32.wrap (IntKind.u32.wrap (IntKind.u32.wrap (IntKind.u32.wrap (i+bits .xor .u32 (bits .xor .u32 (rot e 6) (rot e 11)) (rot e 25))+bits .xor .u32 (bits .and .u32 e f) (bits .and .u32 (bits .xor .u32 (if IntKind.u32.signed=true then-1 else IntKind.u32.max) e) g))+kt)+wt):=rfl;have hqI:qI a b' c=(bits .xor .u32 (bits .xor .u32 (rot a 2) (rot a 13)) (rot a 22)+bits .xor .u32 (bits .xor .u32 (bits .and .u32 a b') (bits .and .u32 a c)) (bits .and .u32 b' c))%4294967296:=rfl;generalize rot e 6=r6 at*;generalize rot e 11=r11 at*;generalize rot e 25=r25 at*;generalize rot a 2=r2 at*;generalize rot a 13=r13 at*;generalize rot a 22=r22 at*;obtain⟨x1,q1⟩:∃x,bits .xor .u32 r6 r11=x:=⟨_,rfl⟩;obtain⟨x2,q2⟩:∃x,bits .xor .u32 x1 r25=x:=⟨_,rfl⟩;obtain⟨x3,q3⟩:∃x,IntKind.u32.wrap (i+x2)=x:=⟨_,rfl⟩;obtain⟨y1,q4⟩:∃x,bits .and .u32 e f=x:=⟨_,rfl⟩;obtain⟨y2,q5⟩:∃x,bits .xor .u32 (if IntKind.u32.signed=true then-1 else IntKind.u32.max) e=x:=⟨_,rfl⟩;obtain⟨y3,q6⟩:∃x,bits .and .u32 y2 g=x:=⟨_,rfl⟩;obtain⟨y4,q7⟩:∃x,bits .xor .u32 y1 y3=x:=⟨_,rfl⟩;obtain⟨x4,q8⟩:∃x,IntKind.u32.wrap (x3+y4)=x:=⟨_,rfl⟩;obtain⟨x5,q9⟩:∃x,IntKind.u32.wrap (x4+kt)=x:=⟨_,rfl⟩;obtain⟨p,q10⟩:∃x,IntKind.u32.wrap (x5+wt)=x:=⟨_,rfl⟩;rw[q1,q2,q3,q4,q5,q6,q7,q8,q9,q10] at hpI;obtain⟨z1,v1⟩:∃x,bits .xor .u32 r2 r13=x:=⟨_,rfl⟩;obtain⟨z2,v2⟩:∃x,bits .xor .u32 z1 r22=x:=⟨_,rfl⟩;obtain⟨z3,v3⟩:∃x,bits .and .u32 a b'=x:=⟨_,rfl⟩;obtain⟨z4,v4⟩:∃x,bits .and .u32 a c=x:=⟨_,rfl⟩;obtain⟨z5,v5⟩:∃x,bits .xor .u32 z3 z4=x:=⟨_,rfl⟩;obtain⟨z6,v6⟩:∃x,bits .and .u32 b' c=x:=⟨_,rfl⟩;obtain⟨z7,v7⟩:∃x,bits .xor .u32 z5 z6=x:=⟨_,rfl⟩;rw[v1,v2,v3,v4,v5,v6,v7] at hqI;have hst2:=HST.out;rw[show z5c kt wt (a,b',c,d,e,f,g,i)=((pI e f g i kt wt+qI a b' c)%4294967296,a,b',c,(d+pI e f g i kt wt)%4294967296,e,f,g) from rfl,hpI,hqI] at hst2;have HST2:=qrf hst2;have QP:=qrf (qok q1 (qok q2 (qok q3 (qok q4 (qok q5 (qok q6 (qok q7 (qok q8 (qok q9 q10)))))))));have QV:=qrf (qok v1 (qok v2 (qok v3 (qok v4 (qok v5 (qok v6 v7))))));clear hst2 hpI hqI HST q1 q2 q3 q4 q5 q6 q7 q8 q9 q10 v1 v2 v3 v4 v5 v6 v7;go_wp2_with fail
   refine zaw New [(true,0),(true,1),(true,3),(true,6),(true,10),(true,11),(true,12),(true,13),(true,14),(true,15),(true,16),(true,17),(true,19),(true,20),(true,21),(true,23),(true,24),(true,25),(false,2),(false,4),(true,5),(false,7),(true,8),(true,9),(true,18),(true,22),(true,26),(true,27)]
    qrz qr0 (by kernel_rfl) (by kernel_rfl) (by kernel_rfl) (by kernel_rfl) ?_
   have hU:=qr0 b (qr1 wr);repeat(first
    |(refine zaj rfl rfl (v:=?_) (fun W hW=>?_) ?_;rotate_left;(obtain⟨o0,o1⟩:=F2.out W (qr0 hU hW);obtain⟨q1,q2,q3,q4,q5,q6,q7,q8,q9,q10⟩:=QP.out;go_simp<;> with_reducible rfl);simp only[Act.put,qoi,qn8,qoj])
    |(refine za6 rfl rfl (fun K hK=>?_);go_simp
      first
      |(with_reducible refine(Te6.out _).mono ?_)
      |(with_reducible refine(Te11.out _).mono ?_)
      |(with_reducible refine(Te25.out _).mono ?_)
      rintro e9 w9 ⟨rfl,c9⟩;refine hK _ _ c9 ?_;clear hK;replace hU:=qr0 hU c9))
   refine zda ?_;go_wp2_with fail
   (with_reducible refine(Ta2.out _).mono ?_)
   rintro e9 w2 ⟨rfl,c2⟩;replace hU:=qr0 hU c2;go_wp2_with fail
   (with_reducible refine(Ta13.out _).mono ?_)
   rintro e9 w3 ⟨rfl,c3⟩;replace hU:=qr0 hU c3;obtain⟨v1,v2,v3,v4,v5,v6,v7⟩:=QV.out;go_wp2_with fail
   (with_reducible refine(Ta22.out _).mono ?_)
   rintro e9 w4 ⟨rfl,c4⟩;replace hU:=qr0 hU c4;clear Te6 Te11 Te25 Ta2 Ta13 Ta22 F2 c2 c3 c4 QP QV;go_wp2
   go_roundw
   case rel=>
    refine⟨t+1,by omega,by go_num,?_⟩;rw[HST2.out];exact⟨rfl,rfl,rfl,rfl,rfl,rfl,rfl,rfl,hU⟩
   case measure=>simp[intOf];omega
  ·have ht64:t=64:=by omega
   have HT:=qrf (show z16 s (zcw (zbk B) s t)=zsp s B by rw[ht64];rfl);obtain⟨x0,x1,x2,x3,x4,x5,x6,x7⟩:=F.out wr b;have R3:=qrf (HR2.out.below b HR2.out.lt);have bE:=qr6 (qr0 HB2.out b) (za3 (g:=w.heap.size+1+1) wr (za2 (z16 s (zcw (zbk B) s t)))) (by omega);have BE:=qrf bE;generalize zcw (zbk B) s t=r at*;have hsz:(Tryz.prog.info? 98).map (·.size)=some (za2 (z16 s r)).size:=by rw[show(za2 (z16 s r)).size=8 from rfl];kernel_rfl
   have HSZ:=qrf hsz;clear ht64 hsz bE FK F HS SU SL;go_wp2_with (refine wpList_store_row rfl 98 (.tmp 4) (.tmp 130) rfl (w.heap.size+1+1) (za2 (z16 s r)) rfl rfl _ _ (zaf R3.out) HSZ.out rfl (zfe _) ?_)
   exact bodyPost_ret (results_cell_row rfl _ _ (w.heap.size+1+1) _ (za2 (z16 s r)) (0,0) _ rfl (zaf (zau R3.out _)) (show Tryz.prog.underlying 98=some (.array 8 97) by kernel_rfl) rfl HSZ.out) rfl ⟨by rw[HT.out],BE.out⟩
end Go.Proofs.Y
namespace Go.Hm
theorem zpd{N b:Nat}{r s:List Nat}(h:b::s=vp N++r)(hb:b<128):N=b/\r=s:=by
 by_cases hN:N<128
 ·rw[zgd hN] at h
  simp only[qm8,qmx,qli] at h;exact⟨h.1.symm,h.2.symm⟩
 ·rw[zge hN] at h
  simp only[qm8,qli] at h;omega
theorem zpe{N b:Nat}{r s:List Nat}(h:b::s=vp N++r)(hb:128<=b):N%128+128=b/\0<N/128/\s=vp (N/128)++r:=by
 by_cases hN:N<128
 ·rw[zgd hN] at h
  simp only[qm8,qmx,qli] at h;omega
 ·rw[zge hN] at h
  simp only[qm8,qli] at h;exact⟨h.1.symm,by omega,h.2⟩
theorem qg0{b N:Nat}(hb:128<=b)(h8:b<256)(hN:0<N):b::vp N=vp (b-128+128*N):=by
 rw[zge (n:=b-128+128*N) (by omega)];congr 1
 ·omega
 ·congr 1;omega
theorem z2y:∀(k M N:Nat) (r s:List Nat),M<=k->vp M++r=vp N++s->M=N/\r=s:=by
 intro k;induction k using Nat.strongRecOn with
 |ind k ih=>
  intro M N r s hk h;by_cases hM:M<128
  ·rw[zgd hM] at h
   have:=zpd h hM;exact⟨this.1.symm,this.2.symm⟩
  ·rw[zge hM] at h
   have h1:=zpe h (by omega);have h2:=ih (M/128) (by omega) _ _ _ _ (ql6 _) h1.2.2;exact⟨by omega,h2.2⟩
def VIn(l:List Nat)(k v:Nat)(rl:List Nat):Prop:=
 v<128^k/\(∀N r,l=vp N++r-> ∃N',N=v+128^k*N'/\(k=0\/0<N')/\rl=vp N'++r)/\
 (∀N r,(k=0\/0<N)->rl=vp N++r->l=vp (v+128^k*N)++r)
theorem VIn.zero(l:List Nat):VIn l 0 0 l:=⟨by simp,fun N r h=>⟨N,by simp,.inl rfl,h⟩,fun N r _ h=>by simpa using h⟩
theorem VIn.step{l rl:List Nat}{k v b:Nat}(h:VIn l k v (b::rl))(hb:128<=b)(h8:b<256):VIn l (k+1) (v+128^k*(b-128)) rl:=by
 obtain⟨h1,h2,h3⟩:=h;have hp:128^(k+1)=128^k*128:=qm3 ..;have hm:128^k*(b-128)<=128^k*127:=qo7 _ (by omega);refine⟨by omega,fun N r e=>?_,fun N r hN e=>?_⟩
 ·obtain⟨N',e1,e2,e3⟩:=h2 N r e
  obtain⟨f1,f2,f3⟩:=zpe e3 hb;refine⟨N'/128,?_,.inr f2,f3⟩;rw[e1,hp,qn4,qlv,<-qna];congr 2
  omega
 ·have hN':0<N:=by rcases hN with hN|hN<;> omega
  have:=h3 (b-128+128*N) r (.inr (by omega)) (by rw[e,<-qg0 hb h8 hN',qm8]);rw[this,qna,hp,qn4,qlv]
theorem VIn.done{l rl:List Nat}{k v b:Nat}(h:VIn l k v (b::rl))(hb:b<128)(hk:k=0\/0<b):l=vp (v+128^k*b)++rl:=
 h.2.2 b rl hk (by rw[zgd hb];rfl)
theorem VIn.not_zero{l rl:List Nat}{k v:Nat}(h:VIn l k v (0::rl))(hk:0<k):∀N r,l=vp N++r->18446744073709551616<=N:=by intro N r e;obtain⟨N',_,e2,e3⟩:=h.2.1 N r e;have:=zpd e3 (by omega);omega
theorem VIn.not_nil{l:List Nat}{k v:Nat}(h:VIn l k v []):∀N r,l=vp N++r->18446744073709551616<=N:=by intro N r e;obtain⟨N',_,_,e3⟩:=h.2.1 N r e;have:=zue N';have:=congrArg List.length e3;simp at this;omega
theorem VIn.not_big{l rl:List Nat}{v b:Nat}(h:VIn l 9 v (b::rl))(hb:1<b):∀N r,l=vp N++r->18446744073709551616<=N:=by
 intro N r e;obtain⟨N',e1,e2,e3⟩:=h.2.1 N r e;by_cases hlt:b<128
 ·have:=(zpd e3 hlt).1
  omega
 ·have:=zpe e3 (by omega)
  omega
theorem qe5(k:Nat):(128:Nat)^k=2^(7*k):=by rw[qnw]
theorem VIn.fits{k v b:Nat}(hv:v<128^k)(hb:b<128)(hk:k<=8\/(k<=9/\b<=1)):v+128^k*b<18446744073709551616:=by
 rcases hk with hk|⟨hk,hb1⟩
 ·have h1:(128:Nat)^k<=128^8:=qnj (by omega) hk
  have h2:128^k*b<=128^8*b:=ql4 _ h1;omega
 ·have h1:(128:Nat)^k<=128^9:=qnj (by omega) hk
  have h2:128^k*b<=128^9*b:=ql4 _ h1;omega
theorem z7f(b:Nat)(h:b<256):bits .andNot .u8 (b:Int) 128=((b%128:Nat):Int):=by have:=u8_andNot_nat b 128 h (by omega);rw[show 255-128=127 from rfl,nat_mask7] at this;simpa using this
theorem qg1{k v b:Nat}(hv:v<128^k)(hb:b<128)(hk:k<=8\/(k<=9/\b<=1)):
 bits .or .u64 (v:Int) ((b:Int)*2^(7*k)%18446744073709551616)=((v+128^k*b:Nat):Int):=by
 have hf:=VIn.fits hv hb hk;have e2:(b:Int)*2^(7*k)=((b*2^(7*k):Nat):Int):=by simp
 have e0:128^k*b=b*2^(7*k):=by rw[qe5,qmr]
 rw[e2,show(((b*2^(7*k):Nat):Int)%18446744073709551616)=((b*2^(7*k):Nat):Int) from qn0 (by omega) (by omega),
  u64_or_nat v (b*2^(7*k)) (by omega) (by omega),qnk,zrf b v (7*k) (by rw[<-qe5];exact hv),e0,qnm]
theorem z0j{k v b:Nat}(hv:v<128^k)(h8:b<256)(hk:k<=8\/(k<=9/\b%128<=1)):
 bits .or .u64 (v:Int) (IntKind.u64.wrap (IntKind.u64.wrap (bits .andNot .u8 (b:Int) 128)*2^(7*k)))=((v+128^k*(b%128):Nat):Int):=by
 rw[z7f b h8,qrj,qrj,show(((b%128:Nat):Int)%18446744073709551616)=((b%128:Nat):Int) from by omega];exact qg1 hv (by omega) hk
end Go.Hm
namespace Go.Proofs.Y
open Go.RowKit Go.Hm
def qg2(g:Nat)(l:List Nat)(w:World)(e:Ending)(w':World):Prop:=
 (∃N r,l=vp N++r/\N<18446744073709551616/\e= .returned (.int .u64 (N:Int))/\Cur w' g r false/\w.grownBy w' (some g))\/
 ((∀N r,l=vp N++r->18446744073709551616<=N)/\e= .returned (.int .u64 0)/\Cur w' g [] true/\w.grownBy w' (some g))
def qkx(g:Nat)(l:List Nat)(w:World)(a:Act)(w':World):Prop:=
 ∃(u1 u2 u3 u4 u5 u6 u7 u8 u9 u10 u11 u12 u13 u14 u15 u16 u17 u18 u19 u20 u21 u22 u23 u24 u25 u26 u27 u28 u29 u30 u31 u32 u33 u34 u35 u36 u37 u38 u39 u40 u41:Value) (rl:List Nat) (bad:Bool),a={tmps:= #[.pointer (some ⟨g,0,none⟩),u1,u2,u3,u4,u5,u6,u7,u8,u9,u10,u11,u12,u13,u14,u15,u16,u17,u18,u19,u20,u21,u22,u23,u24,u25,u26,u27,u28,u29,u30,u31,u32,u33,u34,u35,u36,u37,u38,u39,u40,u41],defers:=[]}/\Cur w' g rl bad/\w.grownBy w' (some g)/\(∀N r,l=vp N++r->18446744073709551616<=N)
theorem Cur.lt8{w:World}{g:Nat}{l:List Nat}{bad:Bool}(h:Cur w g l bad):∀x∈l,x<256:=by obtain⟨A,c,_,_,_,_,h5,_⟩:=h;exact h5
theorem z7g{w:World}{g:Nat}{l:List Nat}(h:Cur w g l false)(h8:∀x∈l,x<256):
 Calls Tryz.prog 117 #[.pointer (some ⟨g,0,none⟩)] w (qg2 g l w):=by
 go_enter Tryz.func117,Tryz.ntmps117
 go_wp2
 refine wp_scope_jumps 0 (qkx g l w) (fun _ _=>0) rfl ?_ ?_
 ·go_wp2
  go_loopw [3,4] (fun v i wr=>∃(k x:Nat) (rl:List Nat),i= .int .i64 ((7*k:Nat):Int)/\k<=9/\v= .int .u64 (x:Int)/\VIn l k x rl/\(∀y∈rl,y<256)/\Cur wr g rl false/\w.grownBy wr (some g)) (fun _ i _=>100-(intOf i).toNat)
  case atStart=>exact⟨0,0,l,rfl,by omega,rfl,VIn.zero l,h8,h,qr2 g w⟩
  case round=>
   obtain⟨k,x,rl,rfl,hk,rfl,hV,h8',hC,hg⟩:=hrel;have HV:=qrf hV;cases rl with
   |nil=>
    have B:=qrf (zn0 hC (.inr (by simp)));go_wp2_with (first
     |(go_at_call 137;refine B.out.mono ?_;rintro e w1 ⟨rfl,C1,g1⟩
       have hB:=qrf (zj9 C1))
     |(go_at_call 98;refine hB.out.mono ?_;rintro e w2 ⟨rfl,rfl⟩)
     |go_step3)
    exact⟨rfl,_,_,_,_,_,_,_,_,_,_,_,_,_,_,_,_,_,_,_,_,_,_,_,_,_,_,_,_,_,_,_,_,_,_,_,_,_,_,_,_,_,_,_,rfl,C1,qr3 hg g1,HV.out.not_nil⟩
   |cons b rl=>
    have hb8:b<256:=h8' b (by simp);have B:=qrf (z0b hC);have hx:=hV.1;clear hV;by_cases hz:0<k/\b=0
    ·obtain⟨hz,rfl⟩:=hz
     go_wp2_with (first
      |(go_at_call 137;refine B.out.mono ?_;rintro e w1 ⟨rfl,C1,g1⟩
        have hB:=qrf (zj9 C1))
      |(go_at_call 98;refine hB.out.mono ?_;rintro e w2 ⟨rfl,rfl⟩)
      |go_step3)
     all_goals first
      |(exfalso;omega)
      |exact⟨rfl,_,_,_,_,_,_,_,_,_,_,_,_,_,_,_,_,_,_,_,_,_,_,_,_,_,_,_,_,_,_,_,_,_,_,_,_,_,_,_,_,_,_,_,rfl,C1,qr3 hg g1,HV.out.not_zero hz⟩
    ·by_cases h9:k=9
     ·subst h9
      by_cases hb1:1<b
      ·go_wp2_with (first
       |(go_at_call 137;refine B.out.mono ?_;rintro e w1 ⟨rfl,C1,g1⟩
         have hB:=qrf (zj9 C1))
       |(go_at_call 98;refine hB.out.mono ?_;rintro e w2 ⟨rfl,rfl⟩)
       |go_step3)
       all_goals first
        |(exfalso;omega)
        |exact⟨rfl,_,_,_,_,_,_,_,_,_,_,_,_,_,_,_,_,_,_,_,_,_,_,_,_,_,_,_,_,_,_,_,_,_,_,_,_,_,_,_,_,_,_,_,rfl,C1,qr3 hg g1,HV.out.not_big hb1⟩
      ·have HO:=z0j hx hb8 (.inr ⟨by omega,by omega⟩)
       rw[show(2:Int)^(7*9)=9223372036854775808 from by decide,show b%128=b from by omega] at HO;go_wp2_with (first
        |(go_at_call 137;refine B.out.mono ?_;rintro e w1 ⟨rfl,C1,g1⟩
          have hB:=qrf (zj9 C1))
        |(go_at_call 98;refine hB.out.mono ?_;rintro e w2 ⟨rfl,rfl⟩)
        |go_step3)
       all_goals first
        |(rename_i hq;exfalso;rcases hq with hq|hq;(simp at hq;omega);omega)
        |(simp only[Exit.jump];go_ret
          exact .inl ⟨_,_,HV.out.done (by omega) (.inl (by omega)),VIn.fits hx (by omega) (.inr ⟨by omega,by omega⟩),by simp,C1,qr3 hg g1⟩)
        |(simp only[Exit.jump];go_ret
          exact .inl ⟨_,_,HV.out.done (by omega) (.inr (by omega)),VIn.fits hx (by omega) (.inr ⟨by omega,by omega⟩),by simp,C1,qr3 hg g1⟩)
     ·have HO:=z0j hx hb8 (.inl (by omega))
      go_wp2_with (first
       |(go_at_call 137;refine B.out.mono ?_;rintro e w1 ⟨rfl,C1,g1⟩
         have hB:=qrf (zj9 C1))
       |(go_at_call 98;refine hB.out.mono ?_;rintro e w2 ⟨rfl,rfl⟩)
       |go_step3)
      all_goals first
       |(exfalso;omega)
       |(simp only[Exit.jump];go_ret
         exact .inl ⟨x+128^k*b,rl,HV.out.done (by omega) (by omega),VIn.fits hx (by omega) (.inl (by omega)),by rw[show((b:Int)%128)=(b:Int) from by omega];simp,C1,qr3 hg g1⟩)
       |(go_roundw
         case rel=>exact⟨k+1,x+128^k*(b-128),rl,by go_num,by omega,by rw[show((b:Int)%128)=((b-128:Nat):Int) from by omega];simp,HV.out.step (by omega) hb8,fun y hy=>h8' y (qps _ hy),C1,qr3 hg g1⟩
         case measure=>simp[intOf];omega)
 ·rintro a' w' ⟨u,u,u,u,u,u,u,u,u,u,u,u,u,u,u,u,u,u,u,u,u,u,u,u,u,u,u,u,u,u,u,u,u,u,u,u,u,u,u,u,u,rl,bad,rfl,C1,hg,hno⟩
  have hF:=qrf (zh2 C1);go_wp2_with (go_at_call 116;refine hF.out.mono ?_;rintro e w2 ⟨rfl,C2,g2⟩)
  simp only[Exit.jump];go_ret
  exact .inr ⟨hno,rfl,C2,qr3 hg g2⟩
theorem qg3{w:World}{g:Nat}{l:List Nat}{bad:Bool}(h:Cur w g l bad)(hn:bad=true\/l.length<1):
 Calls Tryz.prog 117 #[.pointer (some ⟨g,0,none⟩)] w (zdk (.returned (.int .u64 0)) g [] true w):=by
 have B:=qrf (zn0 h hn);clear hn;go_enter Tryz.func117,Tryz.ntmps117
 go_wp2
 refine wp_scope_jumps 0 (qkx g [] w) (fun _ _=>0) rfl ?_ ?_
 ·go_wp2
  refine wp_loop_rounds 1 ?_;rw[rounds_succ];go_wp2_with (first
   |(go_at_call 137;refine B.out.mono ?_;rintro e w1 ⟨rfl,C1,g1⟩
     have hB:=qrf (zj9 C1))
   |(go_at_call 98;refine hB.out.mono ?_;rintro e w2 ⟨rfl,rfl⟩)
   |go_step3)
  exact⟨rfl,_,_,_,_,_,_,_,_,_,_,_,_,_,_,_,_,_,_,_,_,_,_,_,_,_,_,_,_,_,_,_,_,_,_,_,_,_,_,_,_,_,_,_,rfl,C1,g1,(VIn.zero []).not_nil⟩
 ·rintro a' w' ⟨u,u,u,u,u,u,u,u,u,u,u,u,u,u,u,u,u,u,u,u,u,u,u,u,u,u,u,u,u,u,u,u,u,u,u,u,u,u,u,u,u,rl,bad',rfl,C1,hg,hno⟩
  have hF:=qrf (zh2 C1);go_wp2_with (go_at_call 116;refine hF.out.mono ?_;rintro e w2 ⟨rfl,C2,g2⟩)
  simp only[Exit.jump];go_ret
  exact⟨rfl,C2,qr3 hg g2⟩
theorem zx7{w:World}{g N:Nat}{r:List Nat}(h:Cur w g (vp N++r) false)(hN:N<18446744073709551616):
 Calls Tryz.prog 117 #[.pointer (some ⟨g,0,none⟩)] w (zdk (.returned (.int .u64 (N:Int))) g r false w):=
 (z7g h h.lt8).mono fun e w' hp=>by
  rcases hp with⟨M,s,h1,h2,h3,h4,h5⟩|⟨h1,_⟩
  ·obtain⟨rfl,rfl⟩:=z2y N N M r s (ql6 _) h1
   exact⟨h3,h4,h5⟩
  ·have:=h1 N r rfl
   omega
theorem z7h{w:World}{g:Nat}{l:List Nat}{bad:Bool}(h:Cur w g l bad)(hN:bad=true\/ ∀N r,l=vp N++r->18446744073709551616<=N):
 Calls Tryz.prog 117 #[.pointer (some ⟨g,0,none⟩)] w (zdk (.returned (.int .u64 0)) g [] true w):=by
 cases bad with
 |true=>exact qg3 h (.inl rfl)
 |false=>
  refine(z7g h h.lt8).mono fun e w' hp=>?_
  rcases hp with⟨M,s,h1,h2,h3,h4,h5⟩|⟨h1,h2,h3,h4⟩
  ·rcases hN with hN|hN
   ·simp at hN
   ·have:=hN M s h1
    omega
  ·exact⟨h2,h3,h4⟩
theorem qg4{w:World}{g N:Nat}{r:List Nat}{m:Int}(h:Cur w g (vp N++r) false)(hN:(N:Int)<=m)(hm:m<=9223372036854775807):
 Calls Tryz.prog 97 #[.pointer (some ⟨g,0,none⟩),.int .i64 m] w (zdk (.returned (.int .i64 (N:Int))) g r false w):=by
 have G:=qrf (zx7 h (by omega));go_enter Tryz.func97,Tryz.ntmps97
 go_wp2_with (go_at_call 117;refine G.out.mono ?_;rintro e w1 ⟨rfl,C1,g1⟩)
 go_ret
 exact⟨rfl,C1,g1⟩
theorem qiy{w:World}{g:Nat}{l:List Nat}{bad:Bool}{m:Int}(h:Cur w g l bad)(hN:bad=true\/ ∀N r,l=vp N++r->m<N)(hm0: -9223372036854775808<=m)(hm:m<=9223372036854775807):
 Calls Tryz.prog 97 #[.pointer (some ⟨g,0,none⟩),.int .i64 m] w (zdk (.returned (.int .i64 0)) g [] true w):=by
 by_cases hG:bad=true\/ ∀N r,l=vp N++r->18446744073709551616<=N
 ·have G:=qrf (z7h h hG)
  clear hG hN;go_enter Tryz.func97,Tryz.ntmps97
  by_cases hm1:m<0
  ·go_wp2_with (first
    |(go_at_call 117;refine G.out.mono ?_;rintro e w1 ⟨rfl,C1,g1⟩
      have hF:=qrf (zh2 C1))
    |(go_at_call 116;refine hF.out.mono ?_;rintro e w2 ⟨rfl,C2,g2⟩))
   go_ret
   exact⟨rfl,C2,qr3 g1 g2⟩
  ·go_wp2_with (first
    |(go_at_call 117;refine G.out.mono ?_;rintro e w1 ⟨rfl,C1,g1⟩))
   go_ret
   exact⟨rfl,C1,g1⟩
 ·simp only[not_or,Classical.not_forall] at hG
  obtain⟨hb,N,r,rfl,hlt⟩:=hG;have hb':bad=false:=by simpa using hb
  subst hb';have hmN:m<N:=by rcases hN with hN|hN;exact absurd hN hb;exact hN N r rfl
  have G:=qrf (zx7 h (by omega));clear hN hb;go_enter Tryz.func97,Tryz.ntmps97
  by_cases hm1:m<0
  ·go_wp2_with (first
    |(go_at_call 117;refine G.out.mono ?_;rintro e w1 ⟨rfl,C1,g1⟩
      have hF:=qrf (zh2 C1))
    |(go_at_call 116;refine hF.out.mono ?_;rintro e w2 ⟨rfl,C2,g2⟩))
   go_ret
   exact⟨rfl,C2,qr3 g1 g2⟩
  ·go_wp2_with (first
    |(go_at_call 117;refine G.out.mono ?_;rintro e w1 ⟨rfl,C1,g1⟩
      have hF:=qrf (zh2 C1))
    |(go_at_call 116;refine hF.out.mono ?_;rintro e w2 ⟨rfl,C2,g2⟩))
   go_ret
   exact⟨rfl,C2,qr3 g1 g2⟩
end Go.Proofs.Y
