/- Merged. -/
import Derived.Test.YtbahbnbpmfgimaaGreatDoorBun25
set_option maxHeartbeats 4000000
namespace Go.Proofs.Y
open Go.RowKit Go.Hm
theorem zep(l:List Nat):(sumI l).length=32:=zgj _
theorem ze1{s:List Nat}{L:List (List Nat)}{f:List Nat}(h:za4 s L=some f)(ht:zhq L<=9900000):f.length<=10000000:=by
 unfold za4 at h;split at h
 ·rename_i hc
  obtain rfl:=Option.some.inj h;rw[zlx];unfold zhq at ht;omega
 ·cases h
set_option maxRecDepth 100000 in
theorem zzj{w:World}{s:List Nat}{A:Option Addr}{n c:Nat}{D:List zdd}(h:RowsAt w A n c D)(hn:n<=9223372036854775806)(hs8:∀x∈s,x<256)(hs:s.length<=140737488351232)(ht:zhq (bytesOf D)<=9900000)(hD8:∀p∈bytesOf D,∀x∈p,x<256)(hC:ConstIn w):
 Calls Tryz.prog 31 #[.string (zad s),.slice A n c] w (zal (zj1 (zee s (bytesOf D))) w):=by
 have c0:New w (w.alloc (.cells (za0 .u8 zat).toArray 35)):=(Below.refl _ _).alloc (Nat.le_refl _) _;have FR:=Hz (zug (h.later c0) hn hs8 hs (by omega));have HC:=Hz hC;have G0:=Hz (Blk.new w 35 (za0 .u8 zat).toArray);have HO:zee s (bytesOf D)=zee s (bytesOf D):=rfl;conv at HO=>rhs;unfold zee
 replace HO:=Hz HO;have HF8:=Hz (fun f (hf:za4 s (bytesOf D)=some f)=>And.intro (zf3 hs8 hD8 hf) (ze1 hf ht));generalize za4 s (bytesOf D)=o at*;generalize zee s (bytesOf D)=ho at*;obtain⟨W0,hW0⟩:∃W,W=w.alloc (.cells (za0 .u8 zat).toArray 35):=⟨_,rfl⟩;rw[<-hW0] at FR c0 G0;have HW:=Hz hW0;have C0:=Hz c0;clear h hs8 hs ht hD8 hC hW0 c0;go_enter Tryz.func31,Tryz.ntmps31
 go_wp2_with fail
 have F:=FR.out;rw[HW.out] at F;refine F.mono ?_;rintro e w1 hf;obtain⟨A1,n1,c1,rfl,o1,b1⟩:=hf.u;have b1:New W0 w1:=by rw[HW.out];exact b1
 have o1:Own w1 W0.heap.size 5 (.slice A1 n1 c1) (zao .u8 (o.getD [])):=by rw[HW.out];exact o1
 have G1:=Hz (G0.out.below b1 G0.out.lt);have B1:=Hz (New.trans C0.out b1);clear F FR hf HW C0 G0;cases o with
 |none=>
  have hh:ho=zat:=by rw[HO.out];rfl
  subst hh;have H:=Hz (And.intro (zaz G1.out) (And.intro (z99 (l:=zat) (by simp[zat])) (And.intro (zeo .u8 zat) (zbg G1.out (za0 .u8 zat).toArray))));have BE:=Hz (New.far B1.out (zbo (g:=w.heap.size) w1 (za0 .u8 zat).toArray) (Nat.le_refl _));clear G1 B1 b1 o1 HO;go_wp2_with (refine wpList_store_row rfl 35 (.tmp 4) (.tmp 15) rfl w.heap.size (za0 .u8 zat).toArray rfl rfl _ _ H.out.1 H.out.2.1 rfl H.out.2.2.1 ?_)
  exact bodyPost_ret (results_cell_row rfl _ _ w.heap.size _ (za0 .u8 zat).toArray (0,0) _ rfl H.out.2.2.2 zcd rfl H.out.2.1) rfl ⟨rfl,BE.out⟩
 |some f=>
  have hh:ho=sumI f:=by rw[HO.out,Option.map_some,Option.getD_some]
  subst hh;obtain⟨f8,fl⟩:=HF8.out f rfl;obtain rfl:n1=f.length:=by have:=o1.len;rwa[zaa] at this
  have SU:=Hz (zlw (l:=f) (c:=c1) o1.reads f8 o1.cap.1 (by omega) (HC.out.new B1.out));clear o1 b1 HO HF8 HC;go_wp2_with fail
  (with_reducible refine SU.out.mono ?_)
  rintro e w2 ⟨rfl,b2⟩;have G2:=G1.out.below b2 G1.out.lt;have B2:=New.trans B1.out b2;have hz:(za0 .u8 zat).toArray.size=(za0 .u8 (sumI f)).toArray.size:=by simp[za0,zat,zep]
  have H:=Hz (And.intro (zaz G2) (And.intro (z99 (zep f)) (And.intro hz (And.intro (zeo .u8 (sumI f)) (zbg G2 (za0 .u8 (sumI f)).toArray)))));have BE:=Hz (New.far B2 (zbo (g:=w.heap.size) w2 (za0 .u8 (sumI f)).toArray) (Nat.le_refl _));obtain⟨cs,hcs⟩:∃cs,cs=(za0 .u8 (sumI f)).toArray:=⟨_,rfl⟩;have hdv:zj1 (sumI f)= .agg cs:=by rw[hcs];rfl
  have HV:=Hz hdv;rw[<-hcs] at H BE⊢;clear hcs hdv;clear G1 B1 G2 B2 b2 SU hz;go_wp2_with (refine wpList_store_row rfl 35 (.tmp 4) (.tmp 17) rfl w.heap.size cs rfl rfl _ _ H.out.1 H.out.2.1 H.out.2.2.1 H.out.2.2.2.1 ?_)
  rw[HV.out];exact bodyPost_ret (results_cell_row rfl _ _ w.heap.size _ cs (0,0) _ rfl H.out.2.2.2.2 zcd rfl H.out.2.1) rfl ⟨rfl,BE.out⟩
set_option maxRecDepth 100000 in
theorem new_any{w:World}:Calls Tryz.prog 9 #[] w fun e w'=>e= .returned (.pointer (some ⟨w.heap.size,0,none⟩))/\w'=w.alloc (.cells #[.slice none 0 0] 86):=by
 go_enter Tryz.func9,Tryz.ntmps9
 go_wp2
 go_ret
 exact⟨rfl,rfl⟩
open Go.RowKit Go.Hm
theorem qkh:WideMaps.ArrKey Tryz.prog 35 5 32:=⟨by kernel_rfl,by kernel_rfl,by kernel_rfl,by kernel_rfl⟩
theorem rowK:(35:TypeId)<Tryz.prog.types.size:=of_decide_eq_true (by kernel_rfl)
theorem zjv:Maps.Keyed Tryz.prog 35:=Maps.Keyed.of_law (deep_law_laid Tryz.laidOut (m:=2) (by omega) rowK (by kernel_rfl) (by kernel_rfl))
theorem qjo:∃m,Tryz.prog.types.size=m+1:=⟨Tryz.prog.types.size-1,by have:=Nat.lt_of_le_of_lt (Nat.zero_le _) rowK;omega⟩
theorem qjp(l:List Nat):qhx (sumI l):=by refine⟨zep l,fun x hx=>?_⟩;unfold sumI zud at hx;obtain⟨k,_,rfl⟩:=List.mem_map.1 hx;unfold qhv;omega
theorem qhy(l:List Nat):∃kl,keyOf Tryz.prog 35 (zj1 (sumI l))=some kl:=qfu qkh (by kernel_rfl) (by kernel_rfl) (by kernel_rfl) qjo (qjp l)
theorem z5p:Tryz.prog.underlying 143=some (.map 35 146):=by kernel_rfl
theorem zgk(w:World):(zeroValue 146).run Tryz.prog w= .ok (zij (0,0)) w:=by kernel_rfl
set_option maxRecDepth 100000 in
theorem zuh{w:World}{A B:Option Addr}{n m c e:Nat}{l k:List Nat}(h:Reads w w.heap.size 1 A n (zao .u8 l))(hk:Reads w w.heap.size 1 B m (zao .u8 k))(h8:∀x∈l,x<256)(k8:∀x∈k,x<256):
 Calls Tryz.prog 78 #[.slice A n c,.slice B m e] w (zdl (.bool (decide (l=k))) w):=by
 have BB:=Hz (zgh h8 k8);have q1:=zi1 (c:=c) h;have q2:=zi1 (c:=e) hk;clear h8 k8 h hk;go_enter Tryz.func78,Tryz.ntmps78
 go_wp2
 go_ret
 exact⟨by simp[BB.out],rfl⟩
end Go.Proofs.Y
namespace Go.Hm
open Go Go.RowKit
theorem MapF.mono{P:Program}{k:TypeId}{w:World}{b n m:Nat}{f:List Int->Option (Int × Int)}(h:MapF P k w b n f)(hn:n<=m):MapF P k w b m f:=by obtain⟨D,h1,h2⟩:=h;exact⟨D,h1.mono hn,h2⟩
theorem MapF.new{P:Program}{k:TypeId}{w w':World}{b n:Nat}{f:List Int->Option (Int × Int)}(h:MapF P k w b n f)(hb:New w w'):MapF P k w' b n f:=
 h.kept (row:=none) ⟨hb.os,hb.tape,hb.output,hb.size,fun j hj _=>hb.block j hj⟩ (by simp)
end Go.Hm
namespace Go.Proofs.Y
open Go.RowKit Go.Hm
theorem z5q(W:World)(n:Int):(Instr.makeMap 143 (some (.int .i64 n))).run Tryz.prog W= .ok (.map (some W.heap.size)) (W.alloc (.map #[] 0)):=by simp[Instr.makeMap,run_underlying z5p,asInt,asIntOf,Result.andThen]
set_option maxRecDepth 100000 in
theorem z5r{w:World}{A:Option Addr}{n c:Nat}{D:List zdd}(h:RowsAt w A n c D)(hn:n<=9223372036854775806)(h8:∀p∈bytesOf D,(∀x∈p,x<256)/\p.length<=10000000)(hC:ConstIn w):
 Calls Tryz.prog 77 #[.slice A n c,.func (.func 25) #[] #[]] w fun e w'=>e= .returned (.map (some w.heap.size))/\MapF Tryz.prog 35 w' w.heap.size n (zcv (bytesOf D) D.length)/\New w w':=by
 obtain rfl:=h.len;have HR:=Hz h;have H8:=Hz h8;have HC:=Hz hC;have HB:=Hz (zdm D);have hmm:=z5q;have b0:New w (w.alloc (.map #[] 0)):=(Below.refl _ _).alloc (Nat.le_refl _) _;have M0:Hid (MapF Tryz.prog 35 (w.alloc (.map #[] 0)) w.heap.size 0 (zcv (bytesOf D) 0)):=Hz (MapF.made w);have B0:=Hz b0;clear h h8 hC b0;go_enter Tryz.func77,Tryz.ntmps77
 go_wp2
 go_loopw [16] (fun i wr=>∃k:Nat,k<=D.length/\i= .int .i64 (k:Int)/\Hid (MapF Tryz.prog 35 wr w.heap.size k (zcv (bytesOf D) k))/\Hid (New w wr)) (fun i _=>D.length-(intOf i).toNat)
 case atStart=>exact⟨0,by omega,rfl,M0,B0⟩
 case round=>
  clear M0 B0;obtain⟨k,hk,rfl,M,b⟩:=hrel;by_cases hlt:k<D.length
  ·obtain⟨ad,rfl,_⟩:=HR.out.at_ hlt
   have hc:=HR.out.cells hlt wr b.out;have RD:=((HR.out.later b.out).parts.at_ hlt);have e1:=zeh D k;have g1:=H8.out _ (zfp (L:=bytesOf D) (k:=k) (by rw[HB.out];exact hlt));rw[e1] at g1;have HE1:=Hz e1;generalize D.getD k (none,0,[])=d at*;have SU:=Hz (zlw (c:=d.2.1) RD.1 g1.1 RD.2.1 g1.2 (HC.out.new b.out));go_wp2_with fail
   refine SU.out.mono ?_;rintro e w1 ⟨rfl,b1⟩;have M1:=M.out.new b1;obtain⟨cs,hcs⟩:∃cs,cs=(za0 .u8 (sumI d.2.2)).toArray:=⟨_,rfl⟩;have hz:(za0 .u8 zat).toArray.size=cs.size:=by rw[hcs];simp[za0,zat,zep]
   have hi:(Tryz.prog.info? 35).map (·.size)=some cs.size:=by rw[hcs];exact z99 (zep _)
   have ho:=zeo .u8 (sumI d.2.2);rw[<-hcs] at ho⊢;have HD:=Hz (show .agg cs=zj1 (sumI d.2.2) by rw[hcs];rfl);have M2:=Hz (M1.new (w':=(w1.alloc (.cells cs 35))) ((Below.refl _ _).alloc (Nat.le_refl _) _));have G2:=Hz (zaz (Blk.new w1 35 cs));have KY:=Hz (qhy d.2.2);have RDD:=Hz RD.1;have G8:=Hz g1.1;clear hcs M1 RD e1;have hPF:∀m,zcv (bytesOf D) (k+1) m=if m=sumI d.2.2 then(match zcv (bytesOf D) k m with|none=>some ((k:Int),-1)|some p=>if p.2= -1/\(bytesOf D).getD p.1.toNat []≠d.2.2 then some (p.1,(k:Int)) else some p) else zcv (bytesOf D) k m:=fun m=>by
    rw[zcv,HE1.out];all_goals
     by_cases hm:m=sumI d.2.2
     ·rw[if_pos hm,if_pos hm]
      cases zcv (bytesOf D) k m<;> rfl
     ·rw[if_neg hm,if_neg hm]
   cases hf:zcv (bytesOf D) k (sumI d.2.2) with
   |none=>
    have HF:=Hz hf;have HP:=Hz (show(fun m=>if m=sumI d.2.2 then some ((k:Int),(-1:Int)) else zcv (bytesOf D) k m)=zcv (bytesOf D) (k+1) from funext fun m=>by
     rw[hPF];by_cases hm:m=sumI d.2.2
     ·rw[if_pos hm,if_pos hm,hm,hf]
     ·rw[if_neg hm,if_neg hm])
    have c3:New (w1.alloc (.cells cs 35)) ((w1.alloc (.cells cs 35)).alloc (.cells #[.int .i64 0,.int .i64 0] 146)):=(Below.refl _ _).alloc (Nat.le_refl _) _;have M3:=Hz (M2.out.new c3);have G3:=Hz (zaz ((Blk.new w1 35 cs).alloc (.cells #[.int .i64 0,.int .i64 0] 146)));have B3:=Hz (New.trans (New.trans b.out b1) (New.trans ((Below.refl _ _).alloc (Nat.le_refl _) (.cells cs 35)) c3));clear hf hPF c3 b1;go_wp2_with (first
     |(refine wpList_store_row rfl 35 (.tmp 8) (.tmp 23) rfl w1.heap.size cs rfl rfl _ _ (heap_alloc_new _ _) hi hz ho ?_;rw[zbh])
     |(refine wpList_load_row rfl 35 (.tmp 8) rfl w1.heap.size rfl _ cs _ _ G2.out zcd rfl hi ?_)
     |(refine wpList_load_row rfl 35 (.tmp 8) rfl w1.heap.size rfl _ cs _ _ G3.out zcd rfl hi ?_)
     |(rw[HD.out];refine zc7 rfl (.tmp 25) (.tmp 26) 143 rfl zjv z5p (zgk _) M2.out KY.out rfl rfl ?_;rw[HF.out];simp only[zij,Option.getD_none,Option.isSome_none])
     |(rw[HD.out];refine zog rfl (.tmp 32) (.tmp 33) (.tmp 35) 143 rfl zjv z5p M3.out (by simp only[maxLen];omega) KY.out ((k:Int),-1) rfl rfl rfl ?_
       intro w4 M4 g4)
     |fail)
    rw[HP.out] at M4;have M5:=Hz M4;have B5:=Hz (zbe B3.out g4 (Nat.le_refl _) (Nat.le_refl _));clear M4 g4;go_roundw
    case rel=>exact⟨k+1,by omega,by go_num,M5,B5⟩
    case measure=>simp[intOf];omega
   |some p=>
    have hpi:=zoe (bytesOf D) k (sumI d.2.2);rw[hf] at hpi;obtain⟨a,ha,h1,_⟩:=hpi;obtain⟨p1,p2⟩:=p;obtain rfl:p1=(a:Int):=h1;have hal:a<D.length:=by omega
    have c3:New (w1.alloc (.cells cs 35)) ((w1.alloc (.cells cs 35)).alloc (.cells #[.int .i64 (a:Int),.int .i64 p2] 146)):=(Below.refl _ _).alloc (Nat.le_refl _) _;have M3:=Hz (M2.out.new c3);have G3:=Hz (zaz ((Blk.new w1 35 cs).alloc (.cells #[.int .i64 (a:Int),.int .i64 p2] 146)));have b3:=New.trans (New.trans b.out b1) (New.trans ((Below.refl _ _).alloc (Nat.le_refl _) (.cells cs 35)) c3);have ca:=HR.out.cells hal _ b3;have Ra:=((HR.out.later b3).parts.at_ hal).1;have Rd:=Hz (Reads.later RDD.out (New.trans b1 (New.trans ((Below.refl _ _).alloc (Nat.le_refl _) (.cells cs 35)) c3)));have ga:=(H8.out _ (zfp (L:=bytesOf D) (k:=a) (by rw[HB.out];exact hal))).1;have ea:=zeh D a;have hPF2:=hPF (sumI d.2.2);rw[if_pos rfl,hf] at hPF2;simp only[Int.toNat_natCast] at hPF2;rw[ea] at ga hPF2;generalize D.getD a (none,0,[])=x at*;have EQ:=Hz (zuh (c:=x.2.1) (e:=d.2.1) Ra Rd.out ga G8.out);have HF:=Hz hf;have B3:=Hz b3;by_cases hp2:p2= -1
    ·skip
     have d1:(p2==(-1:Int))=true:=by rw[beq_iff_eq];exact hp2
     subst hp2;by_cases hx:x.2.2=d.2.2
     ·rw[decide_eq_true hx] at EQ
      rw[if_neg (fun h=>h.2 hx)] at hPF2;have HP:=Hz (show zcv (bytesOf D) k=zcv (bytesOf D) (k+1) from funext fun m=>by
       by_cases hm:m=sumI d.2.2
       ·rw[hm,hf,hPF2]
       ·rw[hPF,if_neg hm])
      clear hf hPF hPF2 c3 b1 Ra ga ea b3 hx;go_wp2_with (first
       |(refine wpList_store_row rfl 35 (.tmp 8) (.tmp 23) rfl w1.heap.size cs rfl rfl _ _ (heap_alloc_new _ _) hi hz ho ?_;rw[zbh])
       |(refine wpList_load_row rfl 35 (.tmp 8) rfl w1.heap.size rfl _ cs _ _ G2.out zcd rfl hi ?_)
       |(refine wpList_load_row rfl 35 (.tmp 8) rfl w1.heap.size rfl _ cs _ _ G3.out zcd rfl hi ?_)
       |(rw[HD.out];refine zc7 rfl (.tmp 25) (.tmp 26) 143 rfl zjv z5p (zgk _) M2.out KY.out rfl rfl ?_;rw[HF.out];simp only[zij,Option.getD_some,Option.isSome_some])
       |(go_at_call 78;(with_reducible refine EQ.out.mono ?_);rintro e5 w5 ⟨rfl,rfl⟩)
       |fail)
      have M5:=Hz (show MapF Tryz.prog 35 _ w.heap.size (k+1) (zcv (bytesOf D) (k+1)) by rw[<-HP.out];exact M3.out.mono (by omega));go_roundw
      case rel=>exact⟨k+1,by omega,by go_num,M5,B3⟩
      case measure=>simp[intOf];omega
     ·rw[decide_eq_false hx] at EQ
      rw[if_pos ⟨rfl,hx⟩] at hPF2;have HP:=Hz (show(fun m=>if m=sumI d.2.2 then some ((a:Int),(k:Int)) else zcv (bytesOf D) k m)=zcv (bytesOf D) (k+1) from funext fun m=>by
       by_cases hm:m=sumI d.2.2
       ·rw[if_pos hm,hm,hPF2]
       ·rw[hPF,if_neg hm,if_neg hm])
      clear hf hPF hPF2 c3 b1 Ra ga ea b3 hx;go_wp2_with (first
       |(refine wpList_store_row rfl 35 (.tmp 8) (.tmp 23) rfl w1.heap.size cs rfl rfl _ _ (heap_alloc_new _ _) hi hz ho ?_;rw[zbh])
       |(refine wpList_load_row rfl 35 (.tmp 8) rfl w1.heap.size rfl _ cs _ _ G2.out zcd rfl hi ?_)
       |(refine wpList_load_row rfl 35 (.tmp 8) rfl w1.heap.size rfl _ cs _ _ G3.out zcd rfl hi ?_)
       |(rw[HD.out];refine zc7 rfl (.tmp 25) (.tmp 26) 143 rfl zjv z5p (zgk _) M2.out KY.out rfl rfl ?_;rw[HF.out];simp only[zij,Option.getD_some,Option.isSome_some])
       |(go_at_call 78;(with_reducible refine EQ.out.mono ?_);rintro e5 w5 ⟨rfl,rfl⟩)
       |(rw[HD.out];refine zog rfl (.tmp 49) (.tmp 50) (.tmp 54) 143 rfl zjv z5p M3.out (by simp only[maxLen];omega) KY.out ((a:Int),(k:Int)) rfl rfl rfl ?_
         intro w4 M4 g4)
       |fail)
      rw[HP.out] at M4;have M5:=Hz M4;have B5:=Hz (zbe B3.out g4 (Nat.le_refl _) (Nat.le_refl _));clear M4 g4;go_roundw
      case rel=>exact⟨k+1,by omega,by go_num,M5,B5⟩
      case measure=>simp[intOf];omega
    ·have d1:(p2==(-1:Int))=false:=by rw[beq_eq_false_iff_ne];exact hp2
     rw[if_neg (fun h=>hp2 h.1)] at hPF2;have HP:=Hz (show zcv (bytesOf D) k=zcv (bytesOf D) (k+1) from funext fun m=>by
      by_cases hm:m=sumI d.2.2
      ·rw[hm,hf,hPF2]
      ·rw[hPF,if_neg hm])
     clear hf hPF hPF2 c3 b1 Ra ga ea b3;go_wp2_with (first
      |(refine wpList_store_row rfl 35 (.tmp 8) (.tmp 23) rfl w1.heap.size cs rfl rfl _ _ (heap_alloc_new _ _) hi hz ho ?_;rw[zbh])
      |(refine wpList_load_row rfl 35 (.tmp 8) rfl w1.heap.size rfl _ cs _ _ G2.out zcd rfl hi ?_)
      |(rw[HD.out];refine zc7 rfl (.tmp 25) (.tmp 26) 143 rfl zjv z5p (zgk _) M2.out KY.out rfl rfl ?_;rw[HF.out];simp only[zij,Option.getD_some,Option.isSome_some])
      |fail)
     have M5:=Hz (show MapF Tryz.prog 35 _ w.heap.size (k+1) (zcv (bytesOf D) (k+1)) by rw[<-HP.out];exact M3.out.mono (by omega));go_roundw
     case rel=>exact⟨k+1,by omega,by go_num,M5,B3⟩
     case measure=>simp[intOf];omega
  ·obtain rfl:k=D.length:=by omega
   go_wp2
   go_ret
   exact⟨rfl,M.out,b.out⟩
end Go.Proofs.Y
namespace Go.Hm
open Go Go.RowKit
theorem PartsT.keep{e t:TypeId}{w w':World}{D:List zdd}{g:Nat}{cs:Array Value}(h:PartsT e w D)(hg:w.grownBy w' (some g))(hT:Blk w g t cs)(hne:e≠t):PartsT e w' D:=fun d hd=>⟨(h d hd).1.keep hg hT hne,(h d hd).2⟩
theorem zi4(w:World)(g i:Nat)(u:Value):w.grownBy (w.setCell ⟨g,i,none⟩ u) (some g):=(Turns.setCell (T:=[g]) u (by simp) w).far
theorem z5v(D:List zdd)(d:zdd)(k m:Nat)(h:D.length=k):(recs zfo D++List.replicate (m+1) (Value.slice none 0 0)).set k (.slice d.1 d.2.2.length d.2.1)=recs zfo (D++[d])++List.replicate m (Value.slice none 0 0):=by have h2:=zii D;rw[List.set_append_right _ _ (by omega),zq0,h2,h,Nat.sub_self,List.replicate_succ,List.set_cons_zero,List.append_assoc];rfl
structure TurnsB(B:Nat)(T:List Nat)(w w':World):Prop where
 os:w'.os=w.os
 tape:w'.tape=w.tape
 output:w'.output=w.output
 size:w.heap.size<=w'.heap.size
 block:∀k,k<B->k∉T->w'.heap[k]? =w.heap[k]?
section
variable{B:Nat}{T:List Nat}{w w' w2:World}
theorem TurnsB.refl(B:Nat)(T:List Nat)(w:World):TurnsB B T w w:=⟨rfl,rfl,rfl,Nat.le_refl _,fun _ _ _=>rfl⟩
theorem TurnsB.trans(h:TurnsB B T w w')(k:TurnsB B T w' w2):TurnsB B T w w2:=
 ⟨k.os.trans h.os,k.tape.trans h.tape,k.output.trans h.output,Nat.le_trans h.size k.size,fun i hi hT=>(k.block i hi hT).trans (h.block i hi hT)⟩
theorem TurnsB.of(h:Turns T w w')(hB:B<=w.heap.size):TurnsB B T w w':=⟨h.os,h.tape,h.output,h.size,fun k hk hT=>h.block k (Nat.lt_of_lt_of_le hk hB) hT⟩
theorem TurnsB.far{g:Nat}(h:w.grownBy w' (some g))(hg:B<=g)(hB:B<=w.heap.size):TurnsB B T w w':=⟨h.os,h.tape,h.output,h.size,fun k hk _=>h.block k (Nat.lt_of_lt_of_le hk hB) (fun e=>by injection e with e;omega)⟩
theorem TurnsB.alloc(o:Obj)(hB:B<=w.heap.size):TurnsB B T w (w.alloc o):= .of (Turns.of_new ((Below.refl _ w).alloc (Nat.le_refl _) o)) hB
theorem TurnsB.turns(h:TurnsB w.heap.size T w w'):Turns T w w':=⟨h.os,h.tape,h.output,h.size,h.block⟩
end
end Go.Hm
namespace Go.Proofs.Y
open Go.RowKit Go.Hm
def LogOf(t:TypeId)(w:World)(base g:Nat)(V:Value)(L:List (List Nat)):Prop:=
 ∃A n c D,V= .slice A n c/\Blk w g t #[.slice A n c]/\Own w base 24 (.slice A n c) (recs zfo D)/\PartsT 5 w D/\bytesOf D=L
abbrev LogAt(w:World)(base g:Nat)(V:Value)(L:List (List Nat)):Prop:=LogOf 86 w base g V L
theorem LogOf.new{t:TypeId}{w w':World}{base g:Nat}{V:Value}{L:List (List Nat)}(h:LogOf t w base g V L)(hb:New w w'):LogOf t w' base g V L:=by obtain⟨A,n,c,D,rfl,h1,h2,h3,h4⟩:=h;exact⟨A,n,c,D,rfl,h1.below hb h1.lt,h2.later hb,h3.below hb,h4⟩
theorem LogOf.lt{t:TypeId}{w:World}{base g:Nat}{V:Value}{L:List (List Nat)}(h:LogOf t w base g V L):g<w.heap.size:=by obtain⟨A,n,c,D,rfl,h1,h2,h3,h4⟩:=h;exact h1.lt
theorem LogOf.ge{t:TypeId}{w:World}{base g:Nat}{V:Value}{L:List (List Nat)}(h:LogOf t w base g V L):∀x∈zbm V,base<=x/\x<w.heap.size:=by obtain⟨A,n,c,D,rfl,h1,h2,h3,h4⟩:=h;exact zoh h2
theorem LogOf.rows{t:TypeId}{w:World}{base g:Nat}{V:Value}{L:List (List Nat)}(h:LogOf t w base g V L):∃A c D,V= .slice A L.length c/\RowsAt w A L.length c D/\bytesOf D=L/\w.cell? ⟨g,0,none⟩=some (.slice A L.length c):=by obtain⟨A,n,c,D,rfl,h1,h2,h3,rfl⟩:=h;have hn:=h2.len;rw[zii] at hn;have hc:=h2.cap;rw[zdm,<-hn];exact⟨A,c,D,rfl,⟨h2.reads,h3.ins,hc.1⟩,rfl,h1.cell 0⟩
theorem LogOf.turn{t:TypeId}{w w':World}{base g:Nat}{V:Value}{L:List (List Nat)}{T:List Nat}(h:LogOf t w base g V L)(k:Turns T w w')(hg:g∉T)(hV:∀x∈T,V.ownBlock≠some x)(hp:∀x∈T,x<w.heap.size-> ∀cs,¬Blk w x 5 cs):LogOf t w' base g V L:=by
 obtain⟨A,n,c,D,rfl,h1,h2,h3,h4⟩:=h;refine⟨A,n,c,D,rfl,h1.touch k hg,h2.touch k hV,fun d hd=>⟨⟨⟨(h3 d hd).1.1.1,fun hn=>?_⟩,fun hn ad ha=>?_⟩,(h3 d hd).2⟩,h4⟩
 ·obtain⟨ad,e1,hb,hc⟩:=(h3 d hd).1.1.2 hn
  obtain⟨cs,hB⟩:=(h3 d hd).1.2 hn ad e1;have hT:ad.block∉T:=fun hm=>hp _ hm hb cs hB
  refine⟨ad,e1,Nat.lt_of_lt_of_le hb k.size,fun j u hu=>?_⟩;rw[World.cell?_of_block (a:=ad.add j) (k.block (ad.add j).block (by rw[zaj];exact hb) (by rw[zaj];exact hT))];exact hc j u hu
 ·obtain⟨cs,hB⟩:=(h3 d hd).1.2 hn ad ha
  exact⟨cs,hB.touch k (fun hm=>hp _ hm hB.lt cs hB)⟩
def zfk(t:TypeId)(v:Value)(base g:Nat)(V:Value)(L:List (List Nat))(w:World)(e:Ending)(w':World):Prop:=
 e= .returned v/\ ∃V',LogOf t w' base g V' L/\(V'.ownBlock=V.ownBlock\/ ∃h,V'.ownBlock=some h/\w.heap.size<=h)/\Turns (g::zbm V) w w'
abbrev qfv(v:Value)(base g:Nat)(V:Value)(L:List (List Nat))(w:World)(e:Ending)(w':World):Prop:=zfk 86 v base g V L w e w'
set_option maxRecDepth 100000 in
theorem zkn{w:World}{base g:Nat}{V:Value}{L:List (List Nat)}(hL:LogAt w base g V L)(hbs:base<=w.heap.size)(hLn:L.length<=10000000){s:List Nat}{A:Option Addr}{n c:Nat}{D:List zdd}(h:RowsAt w A n c D)(hn:n<=9223372036854775806)(hs8:∀x∈s,x<256)(hs:s.length<=140737488351232)(ht:zhq (bytesOf D)<=9900000)(hD8:∀p∈bytesOf D,∀x∈p,x<256)(hC2:∀w',Turns (g::zbm V) w w'->ConstIn w'):
 Calls Tryz.prog 40 #[.pointer (some ⟨g,0,none⟩),.string (zad s),.slice A n c] w (qfv (zj1 (zee s (bytesOf D))) base g V (L++(za4 s (bytesOf D)).toList) w):=by
 have c0:New w (w.alloc (.cells (za0 .u8 zat).toArray 35)):=(Below.refl _ _).alloc (Nat.le_refl _) _;have FR:=Hz (zug (h.later c0) hn hs8 hs (by omega));have HC:=Hz hC2;have HL:=Hz hL;have G0:=Hz (Blk.new w 35 (za0 .u8 zat).toArray);have HO:zee s (bytesOf D)=zee s (bytesOf D):=rfl;conv at HO=>rhs;unfold zee
 replace HO:=Hz HO;have HF8:=Hz (fun f (hf:za4 s (bytesOf D)=some f)=>And.intro (zf3 hs8 hD8 hf) (ze1 hf ht));generalize za4 s (bytesOf D)=o at*;generalize zee s (bytesOf D)=ho at*;obtain⟨W0,hW0⟩:∃W,W=w.alloc (.cells (za0 .u8 zat).toArray 35):=⟨_,rfl⟩;rw[<-hW0] at FR c0 G0;have HW:=Hz hW0;have C0:=Hz c0;clear h hs8 hs ht hD8 hC2 hW0 c0 hL;go_enter Tryz.func40,Tryz.ntmps40
 go_wp2_with fail
 have F:=FR.out;rw[HW.out] at F;refine F.mono ?_;rintro e w1 hf;obtain⟨A1,n1,c1,rfl,o1,b1⟩:=hf.u;have b1:New W0 w1:=by rw[HW.out];exact b1
 have o1:Own w1 W0.heap.size 5 (.slice A1 n1 c1) (zao .u8 (o.getD [])):=by rw[HW.out];exact o1
 have G1:=Hz (G0.out.below b1 G0.out.lt);have B1:=Hz (New.trans C0.out b1);clear F FR hf HW C0 G0;cases o with
 |none=>
  have hh:ho=zat:=by rw[HO.out];rfl
  subst hh;have H:=Hz (And.intro (zaz G1.out) (And.intro (z99 (l:=zat) (by simp[zat])) (And.intro (zeo .u8 zat) (zbg G1.out (za0 .u8 zat).toArray))));have BE:=Hz (New.far B1.out (zbo (g:=w.heap.size) w1 (za0 .u8 zat).toArray) (Nat.le_refl _));clear G1 B1 b1 o1 HO;go_wp2_with (refine wpList_store_row rfl 35 (.tmp 6) (.tmp 17) rfl w.heap.size (za0 .u8 zat).toArray rfl rfl _ _ H.out.1 H.out.2.1 rfl H.out.2.2.1 ?_)
  refine bodyPost_ret (results_cell_row rfl _ _ w.heap.size _ (za0 .u8 zat).toArray (0,0) _ rfl H.out.2.2.2 zcd rfl H.out.2.1) rfl ⟨rfl,V,?_,.inl rfl,Turns.of_new BE.out⟩;rw[Option.toList_none,List.append_nil];exact HL.out.new BE.out
 |some f=>
  have hh:ho=sumI f:=by rw[HO.out,Option.map_some,Option.getD_some]
  subst hh;obtain⟨f8,fl⟩:=HF8.out f rfl;obtain rfl:n1=f.length:=by have:=o1.len;rwa[zaa] at this
  obtain⟨Al,nl,cl,Dl,rfl,HG,HO',HP,hLb⟩:=HL.out.new B1.out;have hnl:nl=L.length:=by have:=HO'.len;rw[zii] at this;rw[<-hLb,zdm];exact this
  have hl1:(recs zfo Dl).length=L.length:=by rw[zii,<-zdm,hLb]
  have k1:w1.cell? ⟨g,0,none⟩=some (.slice Al nl cl):=HG.cell 0;have hbs1:base<=w1.heap.size:=Nat.le_trans hbs B1.out.size;have hW1:=Hz B1.out.size;have hgw:g≠w.heap.size:=by have:=HL.out.lt;omega
  have HLB:=Hz hLb;have HNL:=Hz hnl;have HL1:=Hz hl1;clear HO HF8 hLb hnl hl1;have F8:=Hz f8
  go_wp2_with ((refine zj0 elR rfl (.tmp 22) (.tmp 24) rfl (W:=w1) (B:=0) HO' rfl rfl (Below.refl _ _) (Nat.zero_le _) hbs1 rfl (by rw[HL1.out];omega) (by rw[HL1.out];simp only[maxLen];omega) ?_)
               intro A7 c7 w7 _ _ o7 g7 b7 z7 a7;have e7:(recs zfo Dl).length+1=L.length+1:=by rw[HL1.out]
               rw[e7] at o7 a7⊢;have o7:Own w7 base 24 (.slice A7 (L.length+1) c7) (recs zfo (Dl++[(A1,c1,f)])):=by rw[zq0];exact o7
               have G7:=HG.push HO' g7 (by decide);have G7':=Hz (G1.out.push HO' g7 (by decide));have p7:=((HP.push HO' g7 (by decide)).snoc (d:=(A1,c1,f)) ((TR.of_own o1).push HO' g7 (by decide)) o1.cap.1 (by have:=o1.cap.2;simp only[maxLen] at this;omega));have r7:=((TR.of_own o1).push HO' g7 (by decide)).1;have k7:w7.cell? ⟨g,0,none⟩=some (.slice Al nl cl):=G7.cell 0;have f7:w7.frozen? ⟨g,0,none⟩=false:=G7.frozen 0;have T7:=Hz (Turns.row g7);have hc1:=o1.cap.1;have O7:=Hz o7;have P7:=Hz p7;have R7:=Hz r7;have HG7:=Hz G7;have A7':=Hz a7;clear o7 p7 e7 HG HO' HP o1 G7 G1 r7 g7 a7)
  have ts:Turns (g::zbm (.slice Al nl cl)) w (w7.setCell ⟨g,0,none⟩ (.slice A7 (L.length+1) c7)):=
   ((Turns.of_new B1.out).trans (T7.out.more (by intro x hx;simp[hx]))).trans (Turns.setCell _ (by simp) w7)
  have P8:=Hz (P7.out.keep (zi4 w7 g 0 (.slice A7 (L.length+1) c7)) HG7.out (by decide));have SU:=Hz (zlw (l:=f) (c:=c1) (P8.out (A1,c1,f) (by simp)).1.1 F8.out hc1 (by omega) (HC.out _ ts));have L8:LogAt (w7.setCell ⟨g,0,none⟩ (.slice A7 (L.length+1) c7)) base g (.slice A7 (L.length+1) c7) (L++[f]):=
   ⟨A7,L.length+1,c7,Dl++[(A1,c1,f)],rfl,HG7.out.set_ 0 _,O7.out.keepT (zi4 _ _ _ _) HG7.out (by decide),P8.out,by rw[zmw,HLB.out]⟩
  have G8:=Hz (G7'.out.far (p:=⟨g,0,none⟩) (by exact fun e=>hgw e.symm) (.slice A7 (L.length+1) c7));have L8':=Hz L8;have TS:=Hz ts;clear k1 k7 f7 ts L8 HL1 HLB HC G7' T7 O7 P7 R7 HG7 P8 b1 B1 o1;go_wp2_with fail
  (with_reducible refine SU.out.mono ?_)
  rintro e w9 ⟨rfl,b9⟩;have G9:=G8.out.below b9 G8.out.lt;have L9:=L8'.out.new b9;have T9:=TS.out.trans (Turns.of_new b9);have hz:(za0 .u8 zat).toArray.size=(za0 .u8 (sumI f)).toArray.size:=by simp[za0,zat,zep]
  have H:=Hz (And.intro (zaz G9) (And.intro (z99 (zep f)) (And.intro hz (And.intro (zeo .u8 (sumI f)) (zbg G9 (za0 .u8 (sumI f)).toArray)))));have T10:=Hz (Turns.new_ (((T9.more (T':=w.heap.size::g::zbm (.slice Al nl cl)) (by intro x hx;simp at hx⊢;simp[hx])).trans (Turns.of_far (zbo (g:=w.heap.size) w9 (za0 .u8 (sumI f)).toArray) (by simp)))) (Nat.le_refl _));have L10:=Hz (L9.turn (T:=[w.heap.size]) (Turns.of_far (zbo (g:=w.heap.size) w9 (za0 .u8 (sumI f)).toArray) (by simp)) (by simpa using hgw)
   (by intro x hx;simp at hx;subst hx;obtain⟨A',n',c',D',e',_,o',_⟩:=L9;rw[e'];exact o'.blk_ne G9 (by decide))
   (by intro x hx _ cs hB;simp at hx;subst hx;exact Blk.ne_ G9 hB (by decide) rfl))
  obtain⟨cs,hcs⟩:∃cs,cs=(za0 .u8 (sumI f)).toArray:=⟨_,rfl⟩;have hdv:zj1 (sumI f)= .agg cs:=by rw[hcs];rfl
  have HV:=Hz hdv;rw[<-hcs] at H T10 L10⊢;clear hcs hdv;clear G9 L9 T9 b9 SU hz L8' TS G8;go_wp2_with (refine wpList_store_row rfl 35 (.tmp 6) (.tmp 29) rfl w.heap.size cs rfl rfl _ _ H.out.1 H.out.2.1 H.out.2.2.1 H.out.2.2.2.1 ?_)
  rw[HV.out];exact bodyPost_ret (results_cell_row rfl _ _ w.heap.size _ cs (0,0) _ rfl H.out.2.2.2.2 zcd rfl H.out.2.1) rfl ⟨rfl,_,L10.out,A7'.out.imp id (fun⟨h,h1,h2⟩=>⟨h,h1,Nat.le_trans (hW1.out) h2⟩),T10.out⟩
def FramesPost(L:List (List Nat))(w:World)(e:Ending)(w':World):Prop:=
 ∃A c D,e= .returned (.slice A L.length c)/\Own w' w.heap.size 24 (.slice A L.length c) (recs zfo D)/\(∀d∈D,Own w' w.heap.size 5 (.slice d.1 d.2.2.length d.2.1) (zao .u8 d.2.2))/\bytesOf D=L/\New w w'
theorem FramesPost.rows{w w':World}{A:Option Addr}{n c:Nat}{D:List zdd}(o:Own w' w.heap.size 24 (.slice A n c) (recs zfo D))(h:∀d∈D,Own w' w.heap.size 5 (.slice d.1 d.2.2.length d.2.1) (zao .u8 d.2.2)):RowsAt w' A n c D:=by have hn:=o.len;rw[zii] at hn;subst hn;exact⟨o.reads,fun d hd=>⟨(h d hd).reads,(h d hd).cap.1,by have:=(h d hd).cap.2;simp only[maxLen] at this;omega⟩,o.cap.1⟩
set_option maxRecDepth 100000 in
theorem zw9{w:World}{base g:Nat}{V:Value}{L:List (List Nat)}(hL:LogAt w base g V L)(hLn:L.length<=10000000)(hl:∀p∈L,p.length<=140737488355328):
 Calls Tryz.prog 22 #[.pointer (some ⟨g,0,none⟩)] w (FramesPost L w):=by
 obtain⟨A,c,D,_,HR,hb,hcell⟩:=hL.rows;have hD:D.length=L.length:=by rw[<-hb,zdm]
 have HR:=Hz HR;have HB:=Hz hb;have HD:=Hz hD;have H8:=Hz hl;have HC:=Hz (fun(W:World) (hW:New w W)=>(Below.cell hW (p:=⟨g,0,none⟩) hL.lt).trans hcell);obtain⟨n,hn⟩:∃n,n=L.length:=⟨_,rfl⟩;rw[<-hn] at HR hcell HC HD hLn;have HN:=Hz hn;clear hL hl hb hn hD;go_enter Tryz.func22,Tryz.ntmps22
 go_wp2_with (refine zb6 elR rfl (.tmp 10) (.tmp 10) rfl (W:=w) (B:=w.heap.size) n n rfl rfl rfl rfl (Nat.le_refl _) (Below.refl _ _) (Nat.le_refl _) rfl (by omega) (by simp only[maxLen];omega) ?_
              intro w1 o1 g1 b1 s1;have k1:=HC.out w1 b1;have O1:Hid (∃D2:List zdd,D2.length=0/\Own w1 w.heap.size 24 (.slice (some ⟨w.heap.size,0,none⟩) n n) (recs zfo D2++List.replicate (n-0) (.slice none 0 0))/\(∀d∈D2,Own w1 w.heap.size 5 (.slice d.1 d.2.2.length d.2.1) (zao .u8 d.2.2))/\bytesOf D2=L.take 0):=Hz ⟨[],rfl,o1,(fun d hd=>nomatch hd),rfl⟩;have B1:=Hz b1;clear o1 g1 s1 b1)
 clear k1 hcell;go_loopw [17] (fun i wr=>∃k:Nat,k<=n/\i= .int .i64 (k:Int)/\Hid (∃D2:List zdd,D2.length=k/\Own wr w.heap.size 24 (.slice (some ⟨w.heap.size,0,none⟩) n n) (recs zfo D2++List.replicate (n-k) (.slice none 0 0))/\(∀d∈D2,Own wr w.heap.size 5 (.slice d.1 d.2.2.length d.2.1) (zao .u8 d.2.2))/\bytesOf D2=L.take k)/\Hid (New w wr)) (fun i _=>n-(intOf i).toNat)
 case atStart=>exact⟨0,by omega,rfl,O1,B1⟩
 case round=>
  clear O1 B1;obtain⟨k,hk,rfl,O,b⟩:=hrel;by_cases hlt:k<n
  ·have hkD:k<D.length:=by rw[HD.out];exact hlt
   obtain⟨ad,rfl,_⟩:=HR.out.at_ hkD;have kc:=HR.out.cells hkD wr b.out;have RD:=((HR.out.later b.out).parts.at_ hkD).1;have e1:=zeh D k;have tk:=zac L k [] (by rw[<-HN.out];exact hlt);have g1:=H8.out _ (zfp (L:=L) (k:=k) (by rw[<-HN.out];exact hlt));rw[HB.out] at e1;rw[e1] at g1 tk;generalize D.getD k (none,0,[])=d at*;have TK:=Hz tk;have CL:=Hz (zi3 (c:=d.2.1) RD g1);clear e1 tk g1 RD
   go_wp2_with (go_at_call 42;refine CL.out.mono ?_;rintro e w5 ⟨A5,n5,c5,rfl,o5,b5⟩
                obtain⟨D2,h1,h2,h3,h4⟩:=O.out;have o2:=h2.later b5;obtain⟨g',u,hA,hge,hlt',hx,k0,f0,st⟩:=o2.at_ (i:=k) hlt;obtain rfl:w.heap.size=g':=by injection hA with hA;injection hA
                have k0:w5.cell? ⟨w.heap.size,k,none⟩=some u:=k0;have f0:w5.frozen? ⟨w.heap.size,k,none⟩=false:=f0;obtain⟨cs,hcs⟩:=Own.row o2 w.heap.size rfl;have s5:=st (.slice A5 n5 c5);have S5:=Hz s5;have CS:=Hz hcs;have O5:=Hz o5;have OO:=Hz (And.intro h1 (And.intro h3 h4));have B5:=Hz (New.trans b.out b5);have BB:=Hz b5;clear h1 h2 h3 h4 o2 st s5 hcs o5 b5 hx O)
   clear k0 f0 kc;have hn5:n5=d.2.2.length:=by have:=O5.out.len;rwa[zaa] at this
   subst hn5;have b6:=Hz (B5.out.setCell (p:=⟨w.heap.size,k,none⟩) (Nat.le_refl _) (.slice A5 d.2.2.length c5));have O6:Hid (∃D2:List zdd,D2.length=k+1/\Own (w5.setCell ⟨w.heap.size,k,none⟩ (.slice A5 d.2.2.length c5)) w.heap.size 24 (.slice (some ⟨w.heap.size,0,none⟩) n n) (recs zfo D2++List.replicate (n-(k+1)) (.slice none 0 0))/\(∀x∈D2,Own (w5.setCell ⟨w.heap.size,k,none⟩ (.slice A5 d.2.2.length c5)) w.heap.size 5 (.slice x.1 x.2.2.length x.2.1) (zao .u8 x.2.2))/\bytesOf D2=L.take (k+1)):=Hz (by
    obtain⟨h1,h3,h4⟩:=OO.out;refine⟨D2++[(A5,c5,d.2.2)],by rw[List.length_append,h1];rfl,?_,?_,by rw[zmw,h4,TK.out]⟩
    ·have s6:=S5.out
     rw[show n-k=(n-(k+1))+1 by omega] at s6;rw[<-z5v D2 (A5,c5,d.2.2) k _ h1];exact s6
    ·intro x hx
     rcases List.mem_append.1 hx with hx|hx
     ·exact((h3 x hx).later BB.out).keepT (zi4 _ _ _ _) CS.out (by decide)
     ·obtain rfl:=List.mem_singleton.1 hx
      exact((O5.out.base_le (b':=w.heap.size) (b.out.size)).keepT (zi4 _ _ _ _) CS.out (by decide)))
   clear S5 CS O5 OO B5 BB TK;go_roundw
   case rel=>exact⟨k+1,by omega,by go_num,O6,b6⟩
   case measure=>simp[intOf];omega
  ·obtain rfl:k=n:=by omega
   obtain⟨D2,h1,h2,h3,h4⟩:=O.out;rw[Nat.sub_self,List.replicate_zero,List.append_nil] at h2;have hL:bytesOf D2=L:=by rw[h4,List.take_of_length_le (by rw[<-HN.out];omega)]
   have F:Hid (FramesPost L w (.returned (.slice (some ⟨w.heap.size,0,none⟩) k k)) wr):=Hz ⟨_,k,D2,by rw[<-HN.out],by rw[<-HN.out];exact h2,h3,hL,b.out⟩;clear h1 h2 h3 h4 hL O b;go_wp2
   go_ret
   exact F.out
end Go.Proofs.Y
namespace Go.Hm
open Go Go.RowKit
section
variable{P:Program}{e:TypeId}{k:IntKind}
theorem zh2(d:Nat)(he:P.underlying e=some (.int k))(hk:P.plainKey e=true)(l m:List Int)(w:World):∀is:List Nat,(∀i∈is,i<l.length/\i<m.length)->
 (Op.eqItems (d+1) e 1 (za0 k l).toArray (za0 k m).toArray is).run P w= .ok (is.all fun i=>l.getD i 0==m.getD i 0) w
 | [],_=>by simp[Op.eqItems]
 |i::is,h=>by
  obtain⟨h1,h2⟩:=h i (by simp);have p1:=run_part_plain (P:=P) w hk (xs:=(za0 k l).toArray) (off:=i*1) (v:= .int k (l.getD i 0)) (by simpa using zn1 k l i h1);have p2:=run_part_plain (P:=P) w hk (xs:=(za0 k m).toArray) (off:=i*1) (v:= .int k (m.getD i 0)) (by simpa using zn1 k m i h2);have ih:=zh2 d he hk l m w is (fun j hj=>h j (by simp[hj]));have q:=run_equalIn_int (P:=P) w d e k k (l.getD i 0) (m.getD i 0) he;simp only[Op.eqItems,Sem.run_bind,p1,p2,q,Result.andThen_ok,List.all_cons];cases hb:(l.getD i 0==m.getD i 0)
  ·simp
  ·simp[ih]
theorem z5w{l m:List Int}(h:l.length=m.length):((List.range l.length).all fun i=>l.getD i 0==m.getD i 0)=(l==m):=by
 rw[Bool.eq_iff_iff,List.all_eq_true,beq_iff_eq];constructor
 ·intro hh
  refine List.ext_getElem h fun i h1 h2=>?_
  have:=hh i (List.mem_range.2 h1);rw[List.getD_eq_getElem?_getD,List.getElem?_eq_getElem h1,List.getD_eq_getElem?_getD,List.getElem?_eq_getElem h2] at this;simpa using this
 ·rintro rfl i _
  simp
theorem zok{t:TypeId}{n:Nat}(hu:P.underlying t=some (.array n e))(he:P.underlying e=some (.int k))(hk:P.plainKey e=true)(hi:(P.info? e).isSome=true)(hc:P.cellsOf e=1)(l m:List Int)(hl:l.length=n)(hm:m.length=n)(w:World):
 (binOp .eql t (.agg (za0 k l).toArray) (.agg (za0 k m).toArray)).run P w= .ok (.bool (l==m)) w:=by
 cases hq:P.info? e with
 |none=>rw[hq] at hi;cases hi
 |some i=>
  rw[run_eql_struct,run_equalIn_array w 9999 _ _ hu hq,hc,zh2 9998 he hk l m w _ (fun i hi=>by have:=List.mem_range.1 hi;omega),<-hl,z5w (by omega)];simp[Result.andThen]
end
open Go Go.RowKit
theorem zui(B:List (List Nat)):zcu [] B=none:=rfl
theorem zsg(A B:List (List Nat))(k:Nat)(hk:k<A.length):zcu (A.drop k) B=(match(B.find? fun y=>decide (A.getD k []≠y/\sumI (A.getD k [])=sumI y)) with|some y=>some (A.getD k [],y)|none=>zcu (A.drop (k+1)) B):=by
 have e:A.drop k=A.getD k []::A.drop (k+1):=by rw[List.drop_eq_getElem_cons hk,List.getD_eq_getElem?_getD,List.getElem?_eq_getElem hk,Option.getD_some]
 rw[e];show List.findSome? _ _=_;rw[List.findSome?_cons];cases(B.find? fun y=>decide (A.getD k []≠y/\sumI (A.getD k [])=sumI y))<;> rfl
end Go.Hm
namespace Go.Proofs.Y
open Go.RowKit Go.Hm
theorem qhz(l m:List Nat)(W:World):(binOp .eql 35 (.agg (za0 .u8 (sumI l)).toArray) (.agg (za0 .u8 (sumI m)).toArray)).run Tryz.prog W= .ok (.bool (sumI l==sumI m)) W:=
 zok zcd (by kernel_rfl) (by kernel_rfl) (by kernel_rfl) (by kernel_rfl) _ _ (zep l) (zep m) W
def TwoPost(o:Option (List Nat × List Nat))(w:World)(e:Ending)(w':World):Prop:=
 ∃A n c B m d,e= .returned (.tuple #[.slice A n c,.slice B m d,.bool o.isSome])/\Reads w' w'.heap.size 1 A n (zao .u8 ((o.map Prod.fst).getD []))/\Reads w' w'.heap.size 1 B m (zao .u8 ((o.map Prod.snd).getD []))/\(n<=c/\c<=9223372036854775807)/\(m<=d/\d<=9223372036854775807)/\New w w'
theorem TwoPost.none_{w w':World}(h:New w w'):TwoPost none w (.returned (.tuple #[.slice none 0 0,.slice none 0 0,.bool false])) w':=
 ⟨none,0,0,none,0,0,rfl,Reads.none_,Reads.none_,⟨by omega,by omega⟩,⟨by omega,by omega⟩,h⟩
theorem TwoPost.some_{w w' W:World}{A B:Option Addr}{n c m d base base2:Nat}{x y:List Nat}(h:New w w')(o1:Own W base 5 (.slice A n c) (zao .u8 x))(hb:New W w')(o2:Own w' base2 5 (.slice B m d) (zao .u8 y)):TwoPost (some (x,y)) w (.returned (.tuple #[.slice A n c,.slice B m d,.bool true])) w':=
 ⟨A,n,c,B,m,d,rfl,(o1.later hb).reads,o2.reads,⟨o1.cap.1,by have:=o1.cap.2;simp only[maxLen] at this;omega⟩,⟨o2.cap.1,by have:=o2.cap.2;simp only[maxLen] at this;omega⟩,h⟩
set_option maxRecDepth 100000 in
theorem zxa{w:World}{A B:Option Addr}{n c m d:Nat}{D E:List zdd}(h:RowsAt w A n c D)(k:RowsAt w B m d E)(hn:n<=9223372036854775806)(hm:m<=9223372036854775806)(h8:∀p∈bytesOf D,(∀x∈p,x<256)/\p.length<=10000000)(k8:∀p∈bytesOf E,(∀x∈p,x<256)/\p.length<=10000000)(hC:ConstIn w):
 Calls Tryz.prog 44 #[.slice A n c,.slice B m d,.func (.func 25) #[] #[]] w (TwoPost (zcu (bytesOf D) (bytesOf E)) w):=by
 obtain rfl:=h.len;obtain rfl:=k.len;have HR:=Hz h;have KR:=Hz k;have H8:=Hz h8;have K8:=Hz k8;have HC:=Hz hC;have HB:=Hz (zdm D);have KB:=Hz (zdm E);have PA:=Hz (z5r k hm k8 hC);obtain⟨X,hX⟩:∃X,X=zcu (bytesOf D) (bytesOf E):=⟨_,rfl⟩;rw[<-hX];have HX:Hid (X=zcu ((bytesOf D).drop 0) (bytesOf E)):=Hz hX;clear h k h8 k8 hC hX;go_enter Tryz.func44,Tryz.ntmps44
 go_wp2_with fail
 (with_reducible refine PA.out.mono ?_)
 rintro e w0 ⟨rfl,M0,b0⟩;have M0:=Hz M0;have B0:=Hz b0;clear b0 PA;go_wp2
 go_loopw [19] (fun i wr=>∃k:Nat,k<=D.length/\i= .int .i64 (k:Int)/\Hid (X=zcu ((bytesOf D).drop k) (bytesOf E))/\Hid (MapF Tryz.prog 35 wr w.heap.size E.length (zcv (bytesOf E) E.length))/\Hid (New w wr)) (fun i _=>D.length-(intOf i).toNat)
 case atStart=>exact⟨0,by omega,rfl,HX,M0,B0⟩
 case round=>
  clear M0 B0 HX;obtain⟨k,hk,rfl,HX,M,b⟩:=hrel;by_cases hlt:k<D.length
  ·obtain⟨ad,rfl,_⟩:=HR.out.at_ hlt
   have hc:=HR.out.cells hlt wr b.out;have RD:=((HR.out.later b.out).parts.at_ hlt);have e1:=zeh D k;have g1:=H8.out _ (zfp (L:=bytesOf D) (k:=k) (by rw[HB.out];exact hlt));have hst:=zsg (bytesOf D) (bytesOf E) k (by rw[HB.out];exact hlt);rw[z1t,KB.out] at hst;rw[e1] at g1 hst;rw[<-HX.out] at hst;generalize D.getD k (none,0,[])=d at*;have SU:=Hz (zlw (c:=d.2.1) RD.1 g1.1 RD.2.1 g1.2 (HC.out.new b.out));have HST:=Hz hst;clear hst;go_wp2_with fail
   refine SU.out.mono ?_;rintro e w1 ⟨rfl,b1⟩;have M1:=Hz (M.out.new b1);obtain⟨cs,hcs⟩:∃cs,cs=(za0 .u8 (sumI d.2.2)).toArray:=⟨_,rfl⟩;have HD:=Hz (show .agg cs=zj1 (sumI d.2.2) by rw[hcs];rfl);rw[<-hcs];have KY:=Hz (qhy d.2.2);have RDD:=Hz RD.1;have G8:=Hz g1;have HE1:=Hz e1;have B1:=Hz (New.trans b.out b1);clear hcs RD e1 SU M;cases hf:zcv (bytesOf E) E.length (sumI d.2.2) with
   |none=>
    have HF:=Hz hf;have HN:=HST.out;rw[hf] at HN;have HX2:Hid (X=zcu ((bytesOf D).drop (k+1)) (bytesOf E)):=Hz HN;have c2:New w1 (w1.alloc (.cells #[.int .i64 0,.int .i64 0] 146)):=(Below.refl _ _).alloc (Nat.le_refl _) _;have M2:=Hz (M1.out.new c2);have B2:=Hz (New.trans B1.out c2);clear hf HN c2 b1 HST;go_wp2_with (first
     |(rw[HD.out];refine zc7 rfl (.tmp 24) (.tmp 27) 143 rfl zjv z5p (zgk _) M1.out KY.out rfl rfl ?_;rw[HF.out];simp only[zij,Option.getD_none,Option.isSome_none])
     |fail)
    go_roundw
    case rel=>exact⟨k+1,by omega,by go_num,HX2,M2,B2⟩
    case measure=>simp[intOf];omega
   |some p=>
    have hpi:=zoe (bytesOf E) E.length (sumI d.2.2);rw[hf] at hpi;obtain⟨a,ha,h1,_,_,h4⟩:=hpi;obtain⟨p1,p2⟩:=p;obtain rfl:p1=(a:Int):=h1;have hp2b:p2≠ -1-> ∃b,b<E.length/\p2=(b:Int):=by
     rcases h4 with⟨h5,_⟩|⟨b,hb,h5,_⟩
     ·exact fun h=>absurd h5 h
     ·exact fun _=>⟨b,hb,h5⟩
    have HN:=HST.out;rw[hf] at HN;simp only[Int.toNat_natCast] at HN;have c2:New w1 (w1.alloc (.cells #[.int .i64 (a:Int),.int .i64 p2] 146)):=(Below.refl _ _).alloc (Nat.le_refl _) _;have M2:=Hz (M1.out.new c2);have b3:=New.trans B1.out c2;have g3:=Blk.new w1 146 #[.int .i64 (a:Int),.int .i64 p2];obtain⟨ae,rfl,_⟩:=KR.out.at_ ha;have ca:=KR.out.cells ha _ b3;have Ra:=((KR.out.later b3).parts.at_ ha).1;have KA:=Hz (fun(W:World) (hW:New w W)=>KR.out.cells ha W hW);have La:=(K8.out _ (zfp (L:=bytesOf E) (k:=a) (by rw[KB.out];exact ha)));have ea:=zeh E a;rw[ea] at La HN;have rd:=Reads.later RDD.out (New.trans b1 c2);generalize E.getD a (none,0,[])=x at*;have EQ:=Hz (zuh (c:=d.2.1) (e:=x.2.1) rd Ra G8.out.1 La.1);have C1:=Hz (fun(W:World) (hW:New (w1.alloc (.cells #[.int .i64 (a:Int),.int .i64 p2] 146)) W)=>zi3 (c:=d.2.1) (Reads.later rd hW) (by have:=G8.out.2;omega));have C2:=Hz (fun(W:World) (hW:New (w1.alloc (.cells #[.int .i64 (a:Int),.int .i64 p2] 146)) W)=>zi3 (c:=x.2.1) (Reads.later Ra hW) (by have:=La.2;omega));have GC:=Hz (fun(W:World) (hW:New (w1.alloc (.cells #[.int .i64 (a:Int),.int .i64 p2] 146)) W)=>And.intro ((g3.below hW g3.lt).cell 0) ((g3.below hW g3.lt).cell 1));have HF:=Hz hf;have B3:=Hz b3;by_cases hx:d.2.2=x.2.2
    ·rw[decide_eq_true hx] at EQ
     rw[if_neg (fun h=>h hx)] at HN;by_cases hp2:p2= -1
     ·have d1:(p2==(-1:Int))=true:=by rw[beq_iff_eq];exact hp2
      have d2:(p2 != (-1:Int))=false:=by rw[bne_eq_false_iff_eq];exact hp2
      rw[if_neg (fun h=>h hp2)] at HN;have HX2:Hid (X=zcu ((bytesOf D).drop (k+1)) (bytesOf E)):=Hz HN;subst hp2;clear hf HN c2 b1 HST h4 hp2b rd Ra b3 La ea hx C1 C2 GC g3;go_wp2_with (first
       |(rw[HD.out];refine zc7 rfl (.tmp 24) (.tmp 27) 143 rfl zjv z5p (zgk _) M1.out KY.out rfl rfl ?_;rw[HF.out];simp only[zij,Option.getD_some,Option.isSome_some])
       |(go_at_call 78;(with_reducible refine EQ.out.mono ?_);rintro e5 w5 ⟨rfl,rfl⟩)
       |fail)
      go_roundw
      case rel=>exact⟨k+1,by omega,by go_num,HX2,M2,B3⟩
      case measure=>simp[intOf];omega
     ·have d1:(p2==(-1:Int))=false:=by rw[beq_eq_false_iff_ne];exact hp2
      have d2:(p2 != (-1:Int))=true:=by rw[bne_iff_ne];exact hp2
      rw[if_pos hp2] at HN;obtain⟨q,hq,rfl⟩:=hp2b hp2;have KQ:=Hz (fun(W:World) (hW:New w W)=>KR.out.cells hq W hW);have Rq:=((KR.out.later b3).parts.at_ hq).1;have Lq:=(K8.out _ (zfp (L:=bytesOf E) (k:=q) (by rw[KB.out];exact hq)));have eq:=zeh E q;rw[Int.toNat_natCast,eq] at HN;rw[eq] at Lq;generalize E.getD q (none,0,[])=y at*;have C3:=Hz (fun(W:World) (hW:New (w1.alloc (.cells #[.int .i64 (a:Int),.int .i64 (q:Int)] 146)) W)=>zi3 (c:=y.2.1) (Reads.later Rq hW) (by have:=Lq.2;omega));have HN:=Hz HN;clear hf c2 b1 HST h4 hp2b rd Ra b3 La ea hx C2 hp2 Rq Lq eq M2 g3;go_wp2_with (first
       |(rw[HD.out];refine zc7 rfl (.tmp 24) (.tmp 27) 143 rfl zjv z5p (zgk _) M1.out KY.out rfl rfl ?_;rw[HF.out];simp only[zij,Option.getD_some,Option.isSome_some])
       |(go_at_call 78;(with_reducible refine EQ.out.mono ?_);rintro e5 w5 ⟨rfl,rfl⟩)
       |fail)
      refine zaw New [(true,0),(true,2),(true,3),(true,4),(true,5),(true,6),(false,1),(false,7),(true,8),(true,9),(true,10)]
       New.refl New.trans (by kernel_rfl) (by kernel_rfl) (by kernel_rfl) (by kernel_rfl) ?_
      have hU:=New.drew (w1.alloc (.cells #[.int .i64 (a:Int),.int .i64 (q:Int)] 146));iterate 6 (
       refine zar rfl rfl (v:=?_) (fun W hW=>?_) ?_;rotate_left
       ·have c0:=GC.out W (New.trans hU hW)
        have c2:=KQ.out W (New.trans B3.out (New.trans hU hW));go_simp<;> with_reducible rfl
       simp only[Act.put,List.setIfInBounds_toArray,List.set_cons_zero,List.set_cons_succ])
      refine za7 rfl rfl (fun K hK=>?_);go_simp
      (with_reducible refine(C1.out _ hU).mono ?_)
      rintro e8 u8 ⟨A8,n8,c8,rfl,o8,b8⟩;refine hK _ _ b8 ?_;clear hK;replace hU:=New.trans hU b8;refine za7 rfl rfl (fun K hK=>?_);go_simp
      (with_reducible refine(C3.out _ hU).mono ?_)
      rintro e9 u9 ⟨A9,n9,c9,rfl,o9,b9⟩;refine hK _ _ b9 ?_;clear hK;replace hU:=New.trans hU b9;iterate 3 (
       refine zar rfl rfl (v:=?_) (fun W hW=>?_) ?_;rotate_left
       ·skip
        go_simp<;> with_reducible rfl
       simp only[Act.put,List.setIfInBounds_toArray,List.set_cons_zero,List.set_cons_succ])
      refine zdh ?_;have RES:=Hz (TwoPost.some_ (New.trans B3.out hU) o8 b9 o9);clear o8 o9 hU b8 b9;go_wp2
      go_ret3
      rw[HN.out];exact RES.out
    ·rw[decide_eq_false hx] at EQ
     rw[if_pos hx] at HN;have HN:=Hz HN;clear hf c2 b1 HST h4 hp2b rd Ra b3 La ea hx M2 g3;go_wp2_with (first
      |(rw[HD.out];refine zc7 rfl (.tmp 24) (.tmp 27) 143 rfl zjv z5p (zgk _) M1.out KY.out rfl rfl ?_;rw[HF.out];simp only[zij,Option.getD_some,Option.isSome_some])
      |(go_at_call 78;(with_reducible refine EQ.out.mono ?_);rintro e5 w5 ⟨rfl,rfl⟩)
      |fail)
     refine zaw New [(true,0),(true,2),(true,3),(true,4),(true,5),(true,6),(false,1),(false,7),(true,8),(true,9),(true,10)]
      New.refl New.trans (by kernel_rfl) (by kernel_rfl) (by kernel_rfl) (by kernel_rfl) ?_
     have hU:=New.drew (w1.alloc (.cells #[.int .i64 (a:Int),.int .i64 p2] 146));iterate 6 (
      refine zar rfl rfl (v:=?_) (fun W hW=>?_) ?_;rotate_left
      ·have c0:=GC.out W (New.trans hU hW)
       have c2:=KA.out W (New.trans B3.out (New.trans hU hW));go_simp<;> with_reducible rfl
      simp only[Act.put,List.setIfInBounds_toArray,List.set_cons_zero,List.set_cons_succ])
     refine za7 rfl rfl (fun K hK=>?_);go_simp
     (with_reducible refine(C1.out _ hU).mono ?_)
     rintro e8 u8 ⟨A8,n8,c8,rfl,o8,b8⟩;refine hK _ _ b8 ?_;clear hK;replace hU:=New.trans hU b8;refine za7 rfl rfl (fun K hK=>?_);go_simp
     (with_reducible refine(C2.out _ hU).mono ?_)
     rintro e9 u9 ⟨A9,n9,c9,rfl,o9,b9⟩;refine hK _ _ b9 ?_;clear hK;replace hU:=New.trans hU b9;iterate 3 (
      refine zar rfl rfl (v:=?_) (fun W hW=>?_) ?_;rotate_left
      ·skip
       go_simp<;> with_reducible rfl
      simp only[Act.put,List.setIfInBounds_toArray,List.set_cons_zero,List.set_cons_succ])
     refine zdh ?_;have RES:=Hz (TwoPost.some_ (New.trans B3.out hU) o8 b9 o9);clear o8 o9 hU b8 b9;go_wp2
     go_ret3
     rw[HN.out];exact RES.out
  ·obtain rfl:k=D.length:=by omega
   have hx:=HX.out;rw[List.drop_of_length_le (by rw[HB.out];omega),zui] at hx;have HN:=Hz hx;clear hx;go_wp2
   go_ret3
   rw[HN.out];exact TwoPost.none_ b.out
end Go.Proofs.Y
