/- Merged. -/
import Derived.Test.YtmgfkpnghlmheaaGreatBun16
import Derived.Test.YtmgfkpnghlmheaaGreatBun19
set_option maxHeartbeats 4000000
namespace Go.Proofs.Y
open Go.RowKit Go.Hm
def qgp(S:St):zc9 × St:=if(zbc (lenS 65536 S).2).1=0/\(zbc (lenS 65536 S).2).2≠none then((((lenS 65536 S).1:Int),false,zaz,zaz),(zbc (lenS 65536 S).2).2) else(zbw,none)
def znh(s:zc9)(g:Nat)(S:St)(w:World)(e:Ending)(w':World):Prop:=e= .returned (zb4 s)/\CurS w' g S/\w.grownBy w' (some g)
set_option maxRecDepth 100000 in
theorem qfv{w:World}{g:Nat}{S:St}{t:Int}(h:CurS w g S)(h1:(zbc (lenS 65536 S).2).1≠1)(ht:0<=t/\t<=3):
 Calls Tryz.prog 149 #[.pointer (some ⟨g,0,none⟩),.int .i64 t] w
  (znh (qgp S).1 g (qgp S).2 w):=by
 obtain⟨X,hX⟩:∃X,X=qgp S:=⟨_,rfl⟩;rw[<-hX];unfold qgp at hX;have hle:=zb1 (m:=65536) S (by omega) h.ok;have hlt:=h.lt;have ha:New w (w.alloc (.cells (zb8 zbw).toArray 63)):=(Below.refl _ _).alloc (Nat.le_refl _) _;have h0:=h.below ha;have L1:=Hz (zb9 (m:=65536) h0 (by omega) (by omega));have BZ0:Blk (w.alloc (.cells (zb8 zbw).toArray 63)) w.heap.size 63 (zb8 zbw).toArray:=Blk.new _ _ _;generalize lenS 65536 S=H at*;obtain⟨n,S1⟩:=H;dsimp only at*;have hbl:=zhp (S:=S1);have hRt:zb5 t ((n:Int),false,zaz,zaz)=true:=by unfold zb5;rw[if_neg (by dsimp only;omega)];simp
 have SR:=fun(W:World)=>zg5 (w:=W) (t:=t) (s:=((n:Int),false,zaz,zaz)) (by unfold zdk zaz;simp)
 rw[hRt] at SR;have SR:Hid (∀W,Calls Tryz.prog 119 #[.int .i64 t,.agg #[.int .i64 (n:Int),.bool false,.bool false,.int .i64 0,.string ⟨#[]⟩,.int .i64 0,.int .i64 0,.bool false,.int .i64 0,.string ⟨#[]⟩,.int .i64 0,.int .i64 0]] W (zap (.bool true) W)):=Hz SR;have HX:=Hz hX;clear hRt h hX;go_enter Tryz.func149,Tryz.ntmps149
 go_wp2_with fail
 refine L1.out.mono ?_;rintro e w1 ⟨rfl,s1,g1⟩;have hbl:=hbl s1.ok;have C2:=Hz (ze2 (s1.below ((Below.refl _ _).alloc (Nat.le_refl _) (.cells #[.int .i64 (n:Int),.bool false,.bool false,.int .i64 0,.string ⟨#[]⟩,.int .i64 0,.int .i64 0,.bool false,.int .i64 0,.string ⟨#[]⟩,.int .i64 0,.int .i64 0] 63))));have hz1:=g1.size;have BZ1:=(BZ0.grown g1 (by intro e;injection e with e;omega)).alloc (.cells #[.int .i64 (n:Int),.bool false,.bool false,.int .i64 0,.string ⟨#[]⟩,.int .i64 0,.int .i64 0,.bool false,.int .i64 0,.string ⟨#[]⟩,.int .i64 0,.int .i64 0] 63);have BT1:=Blk.new w1 63 #[.int .i64 (n:Int),.bool false,.bool false,.int .i64 0,.string ⟨#[]⟩,.int .i64 0,.int .i64 0,.bool false,.int .i64 0,.string ⟨#[]⟩,.int .i64 0,.int .i64 0];have G1:=(Far.of_new ha (g:=g)).trans (g1.trans (Far.of_new ((Below.refl _ w1).alloc (Nat.le_refl _) (.cells #[.int .i64 (n:Int),.bool false,.bool false,.int .i64 0,.string ⟨#[]⟩,.int .i64 0,.int .i64 0,.bool false,.int .i64 0,.string ⟨#[]⟩,.int .i64 0,.int .i64 0] 63))));generalize zbc S1=Bq at*;obtain⟨y,S2⟩:=Bq;dsimp only at*;clear L1 h0 BZ0 s1 g1 ha;go_wp2_with fail
 refine C2.out.mono ?_;rintro e w2 ⟨rfl,s2,g2⟩;have hz2:=g2.size;simp only[World.size_alloc] at hz1 hz2;have BZ:=BZ1.grown g2 (by intro e;injection e with e;omega);have BT:=BT1.grown g2 (by intro e;injection e with e;omega);have G2:=G1.trans g2;clear C2 BZ1 BT1 G1 g2;obtain⟨x0,x1,x2,x3,x4,x5,x6,x7,x8,x9,x10,x11⟩:=za7 BT;have y1:((y:Int)==1)=false:=beq_eq_false_iff_ne.2 (by omega);by_cases hy:1<y
 ·have hX:=HX.out
  rw[if_neg (by omega)] at hX;clear HX;have HX:=Hz hX;clear hX;have t1:decide ((1:Int)<(y:Int))=true:=by simp;omega
  have F:=Hz (zj2 s2);go_wp2_with fail
  refine F.out.mono ?_;rintro e w3 ⟨rfl,s3,g3⟩;have hz3:=g3.size;have BZ3:=BZ.grown g3 (by intro e;injection e with e;omega);have G3:=Hz (G2.trans g3);have HS3:=Hz s3;clear F BZ BT G2 g3 x0 x1 x2 x3 x4 x5 x6 x7 x8 x9 x10 x11 s2 s3
  go_wp2_with (refine zah rfl 63 (.tmp 4) (.tmp 37) rfl w.heap.size _ rfl rfl BZ3 (by kernel_rfl) (by simp[zb8,zbw,zam]) (by simp[Value.oneCell']) ?_
               intro W5 BR G5;obtain⟨s0,s1,s2,s3,s4,s5,s6,s7,s8,s9,s10,s11⟩:=za7 BR)
  have hX:=HX.out;subst hX;exact bodyPost_ret (v:=zb4 zbw) (by simp[results,Tryz.results149,go_sem,s0,s1,s2,s3,s4,s5,s6,s7,s8,s9,s10,s11,zb4,zb8,zam,zbw,zaz,show zad []=⟨#[]⟩ from rfl]) rfl ⟨rfl,HS3.out.keep G5 BZ3 (by omega) (by decide),za9 G3.out G5 (Nat.le_refl _)⟩
 ·obtain rfl:y=0:=by omega
  have t1:decide ((1:Int)<((0:Nat):Int))=false:=by simp
  have BD:=Hz (zy5 s2);cases S2 with
  |none=>
   have hX:=HX.out;rw[if_neg (by simp)] at hX;clear HX;have HX:=Hz hX;clear hX;go_wp2_with fail
   refine BD.out.mono ?_;rintro e w2' ⟨rfl,rfl⟩;have F:=Hz (zj2 s2);go_wp2_with fail
   refine F.out.mono ?_;rintro e w3 ⟨rfl,s3,g3⟩;have hz3:=g3.size;have BZ3:=BZ.grown g3 (by intro e;injection e with e;omega);have G3:=Hz (G2.trans g3);have HS3:=Hz s3;clear F BZ BT G2 g3 x0 x1 x2 x3 x4 x5 x6 x7 x8 x9 x10 x11 s2 s3
   go_wp2_with (refine zah rfl 63 (.tmp 4) (.tmp 37) rfl w.heap.size _ rfl rfl BZ3 (by kernel_rfl) (by simp[zb8,zbw,zam]) (by simp[Value.oneCell']) ?_
                intro W5 BR G5;obtain⟨s0,s1,s2,s3,s4,s5,s6,s7,s8,s9,s10,s11⟩:=za7 BR)
   have hX:=HX.out;subst hX;exact bodyPost_ret (v:=zb4 zbw) (by simp[results,Tryz.results149,go_sem,s0,s1,s2,s3,s4,s5,s6,s7,s8,s9,s10,s11,zb4,zb8,zam,zbw,zaz,show zad []=⟨#[]⟩ from rfl]) rfl ⟨rfl,HS3.out.keep G5 BZ3 (by omega) (by decide),za9 G3.out G5 (Nat.le_refl _)⟩
  |some S2=>
   have hX:=HX.out;rw[if_pos ⟨rfl,by simp⟩] at hX;clear HX;have HX:=Hz hX;clear hX;go_wp2_with fail
   refine BD.out.mono ?_;rintro e w2' ⟨rfl,rfl⟩;go_wp2_with fail
   refine(SR.out _).mono ?_;rintro e w3 ⟨rfl,b3⟩;have hz3:=b3.size;have BZ3:=BZ.below b3 BZ.lt;have BT3:=BT.below b3 BT.lt;have G3:=Hz (G2.trans (Far.of_new b3));have HS3:=Hz (s2.below b3);clear BZ BT G2 b3 x0 x1 x2 x3 x4 x5 x6 x7 x8 x9 x10 x11 s2;obtain⟨x0,x1,x2,x3,x4,x5,x6,x7,x8,x9,x10,x11⟩:=za7 BT3
   go_wp2_with (refine zah rfl 63 (.tmp 4) (.tmp 38) rfl w.heap.size _ rfl rfl BZ3 (by kernel_rfl) (by simp[zb8,zbw,zam]) (by simp[Value.oneCell']) ?_
                intro W5 BR G5;obtain⟨s0,s1,s2,s3,s4,s5,s6,s7,s8,s9,s10,s11⟩:=za7 BR)
   have hX:=HX.out;subst hX;exact bodyPost_ret (v:=zb4 ((n:Int),false,zaz,zaz)) (by simp[results,Tryz.results149,go_sem,s0,s1,s2,s3,s4,s5,s6,s7,s8,s9,s10,s11,zb4,zb8,zam,zaz,show zad []=⟨#[]⟩ from rfl]) rfl ⟨rfl,HS3.out.keep G5 BZ3 (by omega) (by decide),za9 G3.out G5 (Nat.le_refl _)⟩
open Go.RowKit Go.Hm
theorem qja:Tryz.prog.underlying 26=some (.slice (Tryz.prog.elem 26)):=by kernel_rfl
theorem qjb(w:World):(sizeOf (Tryz.prog.elem 26)).run Tryz.prog w= .ok 1 w:=by kernel_rfl
theorem z7g(k:IntKind)(l:List Int)(i:Nat):(zep k l).drop i=zep k (l.drop i):=by simp[zep]
theorem zqh(k:IntKind)(l:List Int)(i:Nat):(zep k l).take i=zep k (l.take i):=by simp[zep]
theorem Reads.part{w:World}{B n cap:Nat}{A:Option Addr}{l:List Int}(h:Reads w B 1 A n (zep .i64 l)){f e:Nat}(hf:f<=e)(he:e<=n)(hc:n<=cap):
 Reads w B 1 (if cap=f then A else A.map (·.add (f*1))) (e-f) (zep .i64 ((l.drop f).take (e-f))):=by
 have r1:=(h.cut (k:=f) (cap:=cap) (by omega) hc).take (k:=e-f) (by omega);rw[Nat.mul_one,Nat.mul_one,z7g,zqh] at r1;rw[Nat.mul_one];exact r1
set_option maxRecDepth 100000 in
theorem ze6{w:World}{A:Option Addr}{n c:Nat}{l:List Int}(h:Reads w w.heap.size 1 A n (zep .i64 l))(hl:∀x∈l,zew x)(hn:n<=9223372036854775807):
 Calls Tryz.prog 213 #[.slice A n c] w (OptB (zjq l) w):=by
 obtain rfl:=h.lenI;obtain⟨X,hX⟩:∃X,X=zjq l:=⟨_,rfl⟩;rw[<-hX];unfold zjq at hX;by_cases h1:65536<l.length
 ·rw[if_pos h1] at hX
  have HX:=Hz hX;have i1:(65536:Int)<(l.length:Int):=by omega
  clear hX h hl;go_enter Tryz.func213,Tryz.ntmps213
  go_wp2
  go_ret2
  rw[HX.out];exact⟨rfl,New.refl _⟩
 rw[if_neg h1] at hX;by_cases h0:l.length=0
 ·rw[if_pos h0] at hX
  have HX:=Hz hX;have i1: ¬(65536:Int)<(l.length:Int):=by omega
  have e0:((l.length:Int)==0)=true:=by rw[h0];rfl
  have H0:=Hz h0;clear hX h hl h0;go_enter Tryz.func213,Tryz.ntmps213
  go_wp2
  go_ret2
  rw[HX.out];exact⟨none,0,0,rfl,Own.nil_,New.refl _⟩
 rw[if_neg h0] at hX;have i1: ¬(65536:Int)<(l.length:Int):=by omega
 have e0:((l.length:Int)==0)=false:=by rw[beq_eq_false_iff_ne];omega
 have i0:(0:Int)<(l.length:Int):=by omega
 obtain⟨ad,rfl,_,c0⟩:=h.int (i:=0) (by omega);rw[zke] at c0;have hx:=hl _ (zg0 (show 0<l.length by omega));have ZG:=Hz (fun W:World=>zn6 (l.getD 0 0) W hx.1 hx.2);have PT:=Hz (fun W:World=>zcx none 0 0 [] (zig (l.getD 0 0)) W Reads.none_ (by omega) (by have:=zjp hx;omega));have hvl:=zaj (zjp hx);have SP:=Hz (fun(W:World) (hW:New w W)=>z2q (c:=c) (Reads.later h hW) (by omega));have hin:=zgy l;have hsl:=zea l;have B0:=Hz (zhq (zdq l));have BS:=Hz (zhr (zdq l));have hbl:=zf7 hin;have hpart:=fun k=>(show∀x∈blk (zdq l) k,zew x from zt5 hin k)
 have hbk:=fun k (hk:k<nblk (zdq l).length)=>show(blockD (blk (zdq l) k)).length<=268 from zqr (zt5 hin k) (by rw[zob];unfold nblk at hk;omega) (by rw[zob];omega)
 have hNB:Hid (nblk (l.length-1)=nblk (zdq l).length):=Hz (by rw[hsl]);have HX:=Hz hX;have HBL:=Hz hbl;have HPT:=Hz hpart;have HBK:=Hz hbk;have HSL:=Hz hsl;have hs65:(zdq l).length<=65536:=by omega
 clear hX h hl hin hsl hbl hpart hbk hx h0 h1;generalize zdq l=s at*;generalize l.getD 0 0=x at*;generalize hV:vp (zig x)=V at*;clear hV;go_enter Tryz.func213,Tryz.ntmps213
 go_wp2_with fail
 refine(ZG.out _).mono ?_;rintro e w1 ⟨rfl,rfl⟩;go_wp2_with fail
 refine(PT.out _).mono ?_;rintro e w1 ⟨A1,n1,c1,rfl,o1,b1⟩;rw[List.nil_append] at o1;obtain rfl:n1=V.length:=by have:=o1.len;rwa[zaa] at this
 clear ZG PT c0;go_wp2_with fail
 refine(SP.out _ b1).mono ?_;rintro e w2 ⟨A2,n2,c2,rfl,o2,b2⟩;obtain rfl:n2=s.length:=by have:=o2.len;rwa[zcw] at this
 have h21:=zgg o2 (o1.base_le (Nat.zero_le _));have o1:=o1.later b2;have b02:=New.trans b1 b2;have o2:=o2.base_le (b':=w.heap.size) b1.size;have hc2:=o2.cap.1;clear SP b1 b2;have KB1:=Hz (fun W=>zrs s.length W (by omega));have hK:nblk s.length<=2048:=by unfold nblk;omega
 have HK:Hid (nblk s.length=(s.length+31)/32):=Hz rfl;go_wp2_with fail
 refine(KB1.out _).mono ?_;rintro e w3 ⟨rfl,rfl⟩;clear KB1;generalize hKK:nblk s.length=K at*;have HKK:=Hz hKK;clear hKK;go_wp2_with fail
 go_loopw [4,26] (fun v i wr=>∃(k:Nat) (AE:Option Addr) (cE:Nat),k<=K/\i= .int .i64 (k:Int)/\v= .slice AE (V++zcd s k).length cE/\Go.Hm.Own wr w.heap.size 5 (.slice AE (V++zcd s k).length cE) (za3 .u8 (V++zcd s k))/\Go.Hm.Own wr w.heap.size 3 (.slice A2 s.length c2) (zep .i64 s)/\(Value.ownBlock (.slice A2 s.length c2)=none\/Value.ownBlock (.slice A2 s.length c2)≠Value.ownBlock (.slice AE (V++zcd s k).length cE))/\New w wr) (fun _ i _=>K-(intOf i).toNat)
 case atStart=>exact⟨0,A1,c1,Nat.zero_le _,rfl,by rw[B0.out,List.append_nil],by rw[B0.out,List.append_nil];exact o1,o2,by rw[B0.out,List.append_nil];exact h21,b02⟩
 case round=>
  clear o1 o2 h21 b02;obtain⟨k,AE,cE,hk,rfl,rfl,o,u,hap,b⟩:=hrel;by_cases hlt:k<K
  ·have hK2:=HK.out
   obtain⟨f,hf⟩:∃f,f=k*32:=⟨_,rfl⟩;obtain⟨g,hg⟩:∃g,g=f+32:=⟨_,rfl⟩;obtain⟨e,he⟩:∃e,e=min g s.length:=⟨_,rfl⟩;have hfs:f<s.length:=by omega
   have w1:IntKind.i64.wrap ((k:Int)*32)=(f:Int):=by rw[IntKind.wrap_i64];omega
   have w2:IntKind.i64.wrap ((f:Int)+32)=(g:Int):=by rw[IntKind.wrap_i64];omega
   have m1:min (g:Int) (s.length:Int)=(e:Int):=by omega
   have m2:(if(s.length:Int)<(g:Int) then(s.length:Int) else(g:Int))=(e:Int):=by split<;> omega
   have m3:(if s.length<g then(s.length:Int) else(g:Int))=(e:Int):=by split<;> omega
   have SL:=fun W=>zg8 qja qjb A2 s.length c2 f e (by omega) (by omega) W
   have RP:=Reads.part (cap:=c2) u.reads (f:=f) (e:=e) (by omega) (by omega) hc2;have hbe:(s.drop f).take (e-f)=blk s k:=by
    unfold blk;rw[<-hf];by_cases q:g<=s.length
    ·rw[show e-f=32 by omega]
    ·rw[List.take_of_length_le (by rw[List.length_drop];omega),List.take_of_length_le (by rw[List.length_drop];omega)]
   rw[hbe] at RP;obtain⟨A',hA'⟩:∃A',A'=(if c2=f then A2 else A2.map (·.add (f*1))):=⟨_,rfl⟩;rw[<-hA'] at SL RP;have LB:=Hz (zvs (c:=c2-f) RP (HPT.out k) (by omega) (by omega));have hkb:=HBK.out k hlt;have hb2:=HBL.out k (by omega);have BSk:=Hz (show V++zcd s (k+1)=V++zcd s k++blockD (blk s k) by rw[BS.out k,List.append_assoc]);have hkl:(V++zcd s k).length=V.length+(zcd s k).length:=List.length_append;have hbq:(V++zcd s k).length<=600000:=by omega
   have HO:=Hz (And.intro hf (And.intro hg he));clear hbe hA' RP hf hg he hK2 hb2 hkl;generalize V++zcd s k=VB at*;generalize blockD (blk s k)=BD at*;generalize e-f=ef at*;generalize c2-f=cf at*;have hki:(k:Int)<(K:Int):=by omega
   go_wp2_with fail
   refine LB.out.mono ?_;rintro e w3 ⟨A3,n3,c3,rfl,o3,b3⟩;obtain rfl:n3=BD.length:=by have:=o3.len;rwa[zaa] at this
   have u3:=u.later b3;have oo3:=o.later b3;have b03:=New.trans b b3;have z3:=b03.size;clear u o b b3 LB SL m1 m2 m3;go_wp2_with (first
    |(refine zas elB rfl (.tmp 45) (.tmp 46) rfl (W:=w) (B:=w.heap.size) oo3 o3.reads rfl rfl b03 (Nat.le_refl _) z3 (by omega) (by simp only[maxLen];omega) ?_
      intro A5 c5 w5 _ _ o5 g5 b5 d5;have u5:=u3.kept g5 hap;have hap5:=zik hap d5 u3))
   go_roundw
   have hq5:=o5.len;rw[zaa] at hq5;rw[hq5] at o5 hap5;case rel=>exact⟨k+1,A5,c5,by omega,by go_num,by rw[BSk.out,<-hq5],by rw[BSk.out];exact o5,u5,by rw[BSk.out];exact hap5,b5⟩
   case measure=>simp[intOf];omega
  ·obtain rfl:k=K:=by omega
   have hXe:X=some (V++zcd s k):=by rw[HX.out,hNB.out]
   go_wp2_with fail
   go_ret2
   rw[hXe];exact⟨_,_,_,rfl,o,b⟩
open Go.RowKit Go.Hm
def qi0(x:List Int)(g:Nat)(S:St)(w:World)(e:Ending)(w':World):Prop:=
 ∃A n c,e= .returned (.slice A n c)/\n=x.length/\Go.Hm.Own w' w.heap.size 3 (.slice A n c) (zep .i64 x)/\CurS w' g S/\w.grownBy w' (some g)
set_option maxRecDepth 100000 in
theorem zte{w:World}{g:Nat}{S:St}{n:Nat}(h:CurS w g S)(hn:n<=65536):
 Calls Tryz.prog 243 #[.pointer (some ⟨g,0,none⟩),.int .i64 (n:Int)] w (qi0 (zdj n S).1 g (zdj n S).2 w):=by
 have C1:=Hz (zkr h);obtain⟨X,hX⟩:∃X,X=zdj n S:=⟨_,rfl⟩;rw[<-hX];unfold zdj at hX;have ha:=zjx h.ok;have hz:=zyu ha;generalize zh4 S=H at*;obtain⟨a,S1⟩:=H;dsimp only at*;have Z1:=Hz (fun W=>zn7 a W ha);generalize zag a=z at*;have HX:=Hz hX;clear h hX;go_enter Tryz.func243,Tryz.ntmps243
 go_wp2_with fail
 refine C1.out.mono ?_;rintro e w1 ⟨rfl,s1,g1⟩;clear C1;go_wp2_with fail
 refine(Z1.out _).mono ?_;rintro e w2 ⟨rfl,rfl⟩;clear Z1;have hX:=HX.out;have C2:=Hz (ze2 s1);have hb:=zhp s1.ok;generalize zbc S1=Bq at*;obtain⟨b,S2⟩:=Bq;dsimp only at*;clear HX;have HX:=Hz hX;clear hX;go_wp2_with fail
 refine C2.out.mono ?_;rintro e w2 ⟨rfl,s2,g2⟩;clear C2 s1;have hbw:IntKind.i64.wrap (b:Int)=(b:Int):=IntWalk.i64_in _ (by omega);go_wp2_with fail
 refine(zid (b:Int) (n:Int) w2 (by omega) (by omega) (by omega) (by omega)).mono ?_;rintro e w3 ⟨rfl,rfl⟩;go_wp2_with fail
 refine(zc8 (n:=nby (b:Int) (n:Int)) s2 (by have:=zzc b n;omega) (by have:=zzc b n;omega)).mono ?_;rintro e w4 ⟨A4,n4,c4,rfl,e4,o4,s4,g4⟩;have hX:=HX.out;have h8:=(zcq (n:=nby (b:Int) (n:Int)) s2.ok).2;generalize zbt (nby (b:Int) (n:Int)) S2=Tq at*;obtain⟨x,S4⟩:=Tq;dsimp only at*;subst e4;clear HX;have HX:=Hz hX;clear hX s2;have hxl:x.length<=9223372036854775807:=by have:=o4.cap;simp only[maxLen] at this;omega
 have C5:=Hz (zgv (c:=c4) (b:Int) (n:Int) o4.reads h8 hxl (by omega) (by omega) (by omega) (by omega));go_wp2_with fail
 refine C5.out.mono ?_;intro e w5 h5;have hX:=HX.out;have hul:= @zjy x;have hun:=Hz (fun m (e:zbf x (b:Int) (n:Int)=some m)=>And.intro (hul e) (zho h8 e).2.2.2.1);clear hul;generalize zbf x (b:Int) (n:Int)=o5 at*;clear HX C5;have G4:=(g1.trans g2).trans g4;cases o5 with
 |none=>
  obtain⟨rfl,b5⟩:=h5;dsimp only at hX;go_wp2_with fail
  refine(zj2 (s4.below b5)).mono ?_;rintro e w6 ⟨rfl,s6,g6⟩;go_wp2
  go_ret
  rw[hX];exact⟨none,0,0,rfl,rfl,Own.nil_,s6,(G4.trans (Far.of_new b5)).trans g6⟩
 |some m=>
  obtain⟨A5,n5,c5,rfl,o5,b5⟩:=h5;dsimp only at hX;obtain⟨hml,hmw⟩:=hun.out m rfl;obtain rfl:n5=m.length:=by have:=o5.len;rwa[zaa] at this
  subst hml;have HX:=Hz hX;have HMW:=Hz hmw;have R5:=Hz o5.reads;have s5:=s4.below b5;have G5:=G4.trans (Far.of_new b5);have hz5:=G5.size;have HS:=Hz (And.intro s5 G5);clear hX hmw o5 b5 s4 G4 g1 g2 g4 hun s5 G5
  go_wp2_with (refine zb7 elI rfl (.tmp 33) (.tmp 33) rfl (W:=w5) (B:=w5.heap.size) m.length m.length rfl rfl rfl rfl (Nat.le_refl _) (Below.refl _ _) (Nat.le_refl _) rfl (by omega) (by simp only[maxLen];omega) ?_
               intro w6 o6 _ b6 s6)
  go_loopw [37] (fun i wr=>∃k:Nat,k<=m.length/\i= .int .i64 (k:Int)/\Go.Hm.Own wr w5.heap.size 3 (.slice (some ⟨w5.heap.size,0,none⟩) m.length m.length) (zep .i64 (((m.take k).map fun y:Nat=>wrI (z+(y:Int)))++List.replicate (m.length-k) 0))/\New w5 wr) (fun i _=>m.length-(intOf i).toNat)
  case atStart=>exact⟨0,Nat.zero_le _,rfl,by simpa[zdi] using o6,b6⟩
  case round=>
   clear o6 b6 s6;obtain⟨k,hk,rfl,o,b⟩:=hrel;by_cases hlt:k<m.length
   ·obtain⟨ad,rfl,_,c0⟩:=(Reads.later R5.out b).num hlt
    have htk:=zae m k 0 hlt;obtain⟨hg0,hgl,hc,hf,hset⟩:=o.int0 (i:=k) hlt;have hsl:((m.take k).map fun y:Nat=>wrI (z+(y:Int))).length=k:=by rw[List.length_map,List.length_take];omega
    have hs2:=hset (wrI (z+(m.getD k 0:Nat)));rw[zix _ hsl hlt] at hs2;have e1:((m.take k).map fun y:Nat=>wrI (z+(y:Int)))++[wrI (z+(m.getD k 0:Nat))]=(m.take (k+1)).map fun y:Nat=>wrI (z+(y:Int)):=by rw[htk,List.map_append];rfl
    rw[e1] at hs2;have HSet:=Hz hs2;generalize(((m.take k).map fun y:Nat=>wrI (z+(y:Int)))++List.replicate (m.length-k) 0).getD k 0=q at*;have hy:=HMW.out _ (show m.getD k 0∈m by rw[List.getD_eq_getElem?_getD,List.getElem?_eq_getElem hlt];exact List.getElem_mem hlt);generalize m.getD k 0=y at*;have hw1:IntKind.i64.wrap (y:Int)=wrI (y:Int):=rfl;have hw2:IntKind.i64.wrap (z+wrI (y:Int))=wrI (z+(y:Int)):=by unfold wrI;rw[IntKind.wrap_i64,IntKind.wrap_i64,IntKind.wrap_i64];omega
    have i1:(k:Int)<(m.length:Int):=by omega
    have HB2:=Hz (fun q=>(below_drewN b q).setCell (p:=⟨w5.heap.size,k,none⟩) (Nat.le_refl _) (.int .i64 (wrI (z+(y:Int)))));clear htk hset hs2 hsl e1 hy;go_wp2
    go_roundw
    case rel=>exact⟨k+1,by omega,by go_num,by first|exact HSet.out|exact(HSet.out).drewN _,by first|exact HB2.out _|exact HB2.out 0⟩
    case measure=>simp[intOf];omega
   ·obtain rfl:k=m.length:=by omega
    rw[List.take_length,Nat.sub_self,List.replicate_zero,List.append_nil] at o;obtain⟨s5,G5⟩:=HS.out;go_wp2
    go_ret
    rw[HX.out];exact⟨_,_,_,rfl,by simp,o.base_le hz5,s5.below b,G5.trans (Far.of_new b)⟩
theorem qcg(P Z:List Int):zie 0 (P++Z)=zie (zie 0 P) Z:=by unfold zie;rw[List.getLast?_append];cases Z.getLast? <;> rfl
def zhe(P x:List Int)(q:Nat):List Int:=P++zfb (zie 0 P) (x.take q)
theorem zl5(P x:List Int):zhe P x 0=P:=by simp[zhe,zfb]
theorem z2x(P x:List Int){q:Nat}(h:q<x.length):zhe P x (q+1)=zhe P x q++[wrI (zie 0 (zhe P x q)+x.getD q 0)]:=by unfold zhe;rw[zae x q 0 h,z04,qcg,List.append_assoc]
theorem z7p(P x:List Int):zhe P x x.length=P++zfb (zie 0 P) x:=by unfold zhe;rw[List.take_length]
theorem z7q(P x:List Int){q:Nat}(h:q<=x.length):(zhe P x q).length=P.length+q:=by unfold zhe;rw[List.length_append,zkk,List.length_take];omega
set_option maxRecDepth 100000 in
theorem zpn{w:World}{g:Nat}{S:St}{n:Nat}(h:CurS w g S)(h0:0<n)(hn:n<=65536):
 Calls Tryz.prog 232 #[.pointer (some ⟨g,0,none⟩),.int .i64 (n:Int)] w (qi0 (zqb n S).1 g (zqb n S).2 w):=by
 have HG:=Hz h.lt;have C1:=Hz (zkr h);have ha:=zjx h.ok;obtain⟨X,hX⟩:∃X,X=zqb n S:=⟨_,rfl⟩;rw[<-hX];unfold zqb at hX;generalize zh4 S=H at*;obtain⟨a,S1⟩:=H;dsimp only at*;have Z1:=Hz (fun W=>zn7 a W ha);generalize zag a=z at*;obtain⟨m,hm⟩:∃m,m=n-1:=⟨_,rfl⟩;rw[<-hm] at hX;have KB1:=Hz (fun W=>zrs m W (by omega));have hK:nblk m<=2048:=by unfold nblk;omega
 have HK:Hid (nblk m=(m+31)/32):=Hz rfl;generalize nblk m=K at*;have T0:Hid (zll m 0 ([z],S1)=([z],S1)):=Hz rfl;have TS:Hid (∀k,zll m (k+1) ([z],S1)=((zll m k ([z],S1)).1++zfb (zie 0 (zll m k ([z],S1)).1) (zdj (min 32 (m-k*32)) (zll m k ([z],S1)).2).1,(zdj (min 32 (m-k*32)) (zll m k ([z],S1)).2).2)):=Hz (fun k=>rfl);have TL:=Hz (fun k=>zwv m ([z],S1) k);have TP:=Hz (fun k=>zyy m ([z],S1) (by simp) k);have hw1:IntKind.i64.wrap ((n:Int)-1)=(m:Int):=by rw[IntKind.wrap_i64];omega
 have HX:=Hz hX;have HM:=Hz hm;clear h hX hm;generalize zll m=RT at*;go_enter Tryz.func232,Tryz.ntmps232
 go_wp2_with fail
 refine C1.out.mono ?_;rintro e w1 ⟨rfl,s1,g1⟩;clear C1;go_wp2_with fail
 refine(Z1.out _).mono ?_;rintro e w2 ⟨rfl,rfl⟩;clear Z1;have ol:Go.Hm.Own (w1.alloc (.cells #[.int .i64 z] 3)) w1.heap.size 3 (.slice (some ⟨w1.heap.size,0,none⟩) 1 1) (zep .i64 [z]):=World.ownsRow_lit (e:=3) (size:=1) (base:=w1.heap.size) w1 #[.int .i64 z] 1 (Nat.le_refl _) (by decide) rfl;have sl:=s1.below ((Below.refl _ _).alloc (Nat.le_refl _) (.cells #[.int .i64 z] 3));have gl:w.grownBy (w1.alloc (.cells #[.int .i64 z] 3)) (some g):=g1.trans (Far.of_new ((Below.refl _ _).alloc (Nat.le_refl _) _));have hz1:=g1.size;have hz2:=gl.size;go_wp2_with fail
 refine(KB1.out _).mono ?_;rintro e w2 ⟨rfl,rfl⟩;clear KB1;have hg0:g<w1.heap.size:=s1.lt;have hgw:g<w.heap.size:=HG.out;have ol:=ol.base_le (b':=w.heap.size) hz1;generalize w1.alloc (.cells #[.int .i64 z] 3)=w2 at*;clear s1 g1 hg0;go_wp2_with fail
 go_loopw [5,16] (fun v i wr=>∃(k:Nat) (AE:Option Addr) (cE:Nat),k<=K/\i= .int .i64 (k:Int)/\v= .slice AE (RT k ([z],S1)).1.length cE/\Go.Hm.Own wr w.heap.size 3 (.slice AE (RT k ([z],S1)).1.length cE) (zep .i64 (RT k ([z],S1)).1)/\CurS wr g (RT k ([z],S1)).2/\w.grownBy wr (some g)) (fun _ i _=>K-(intOf i).toNat)
 case atStart=>exact⟨0,_,1,Nat.zero_le _,rfl,by rw[T0.out];rfl,by rw[T0.out];exact ol,by rw[T0.out];exact sl,gl⟩
 case round=>
  clear ol sl gl hz1 hz2;obtain⟨k,AE,cE,hk,rfl,rfl,o,s,G⟩:=hrel;have tl:=TL.out k;have tp:=TP.out k;rw[List.length_singleton] at tl;by_cases hlt:k<K
  ·have hK2:=HK.out
   obtain⟨f,hf⟩:∃f,f=k*32:=⟨_,rfl⟩;obtain⟨r,hr⟩:∃r,r=m-f:=⟨_,rfl⟩;obtain⟨e,he⟩:∃e,e=min 32 r:=⟨_,rfl⟩;have TSk:=TS.out k;rw[<-hf,<-hr,<-he] at TSk;have w1:IntKind.i64.wrap ((k:Int)*32)=(f:Int):=by rw[IntKind.wrap_i64];omega
   have w2:IntKind.i64.wrap ((m:Int)-(f:Int))=(r:Int):=by rw[IntKind.wrap_i64];omega
   have m1:min (32:Int) (r:Int)=(e:Int):=by omega
   have m2:(if(r:Int)<32 then(r:Int) else 32)=(e:Int):=by split<;> omega
   have m3:(if r<32 then(r:Int) else 32)=(e:Int):=by split<;> omega
   have he32:e<=32:=by omega
   generalize RT k ([z],S1)=p at*;obtain⟨P,S⟩:=p;dsimp only at*;have RB:=Hz (zte s (n:=e) (by omega));have hxl:=zqs e S;generalize zdj e S=q at*;obtain⟨x,S2⟩:=q;dsimp only at*;have HTS:=Hz TSk;have hP:P.length<=65600:=by omega
   have hki:(k:Int)<(K:Int):=by omega
   clear TSk hf hr he hK2;go_wp2_with fail
   refine RB.out.mono ?_;rintro e2 w3 ⟨A3,n3,c3,rfl,rfl,o3,s3,g3⟩;have hap:=zgg o3 (o.base_le (Nat.zero_le _));have o2:=o.kept g3 (.inr (fun e=>by have:=(o.lt _ e).1;omega));have hz0:=G.size;have o3:=o3.base_le (b':=w.heap.size) hz0;have G3:=G.trans g3;clear o s G g3 RB m1 m2 m3 w1 w2;go_wp2_with fail
   go_loopw [5,28] (fun v i wr=>∃(j:Nat) (AF:Option Addr) (cF:Nat),j<=x.length/\i= .int .i64 (j:Int)/\v= .slice AF (zhe P x j).length cF/\Go.Hm.Own wr w.heap.size 3 (.slice AF (zhe P x j).length cF) (zep .i64 (zhe P x j))/\Go.Hm.Own wr w.heap.size 3 (.slice A3 x.length c3) (zep .i64 x)/\(Value.ownBlock (.slice A3 x.length c3)=none\/Value.ownBlock (.slice A3 x.length c3)≠Value.ownBlock (.slice AF (zhe P x j).length cF))/\CurS wr g S2/\w.grownBy wr (some g)) (fun _ i _=>x.length-(intOf i).toNat)
   case atStart=>exact⟨0,AE,cE,Nat.zero_le _,rfl,by rw[zl5],by rw[zl5];exact o2,o3,by rw[zl5];exact hap,s3,G3⟩
   case round=>
    clear o2 o3 hap s3 G3;obtain⟨j,AF,cF,hj,rfl,rfl,o,u,hap,s,G⟩:=hrel;by_cases hlj:j<x.length
    ·have hyl:=z7q P x hj
     have hys:=z2x P x hlj;obtain⟨ax,rfl,_,c0⟩:=u.reads.int hlj;have hYp:0<(zhe P x j).length:=by omega
     obtain⟨t,ht⟩:∃t,t=(zhe P x j).length-1:=⟨_,rfl⟩;obtain⟨ay,rfl,_,c1⟩:=o.reads.int (i:=t) (by omega);have hla:=qab hYp 0;rw[<-ht] at hla;rw[<-hla] at c1;have HYS:=Hz hys;have wl:IntKind.i64.wrap (((zhe P x j).length:Int)-1)=(t:Int):=by rw[IntKind.wrap_i64];omega
     have hti:(t:Int)<((zhe P x j).length:Int):=by omega
     have hY6:(zhe P x j).length<=70000:=by omega
     have hji:(j:Int)<(x.length:Int):=by omega
     generalize zhe P x j=Y at*;generalize zie 0 Y=la at*;generalize x.getD j 0=st at*;have wa:IntKind.i64.wrap (la+st)=wrI (la+st):=rfl;have hsz:=G.size;clear hys hla ht hyl;go_wp2_with (first
      |(refine zhi elI rfl (.tmp 32) (.tmp 41) rfl (W:=w) (B:=0) o rfl rfl (zlp G) (Nat.zero_le _) hsz rfl (by rw[zcw];omega) (by rw[zcw];simp only[maxLen];omega) ?_
        rw[zcw];intro A9 c9 w9 hc9 _ o9 g9 _ hz9 d9;have s9:=s.push o g9 (by decide) (by decide);have G9:=ze1 G g9 (fun b e=>(o.lt b e).1);have u9:=u.kept g9 hap;have hap9:=zik hap d9 u))
     go_roundw
     have e9:(Y++[wrI (la+st)]).length=Y.length+1:=by simp
     case rel=>exact⟨j+1,A9,c9,by omega,by go_num,by rw[HYS.out,e9],by rw[HYS.out,e9,zxw];exact o9,u9,by rw[HYS.out,e9];exact hap9,s9,G9⟩
     case measure=>simp[intOf];omega
    ·obtain rfl:j=x.length:=by omega
     rw[z7p] at o hap⊢;go_wp2_with fail
     go_roundw
     case rel=>exact⟨k+1,AF,cF,by omega,by go_num,by rw[HTS.out],by rw[HTS.out];exact o,by rw[HTS.out];exact s,G⟩
     case measure=>simp[intOf];omega
  ·obtain rfl:k=K:=by omega
   go_wp2_with fail
   go_ret
   rw[HX.out];exact⟨_,_,_,rfl,rfl,o,s,G⟩
end Go.Proofs.Y
