/- Merged. -/
import Derived.Test.YtbahbnbpmfgimaaGreatDoorBun34
import Derived.Test.YtbahbnbpmfgimaaGreatDoorBun42
set_option maxHeartbeats 8000000
namespace Go.Hm
open Go Go.RowKit
abbrev dZ:zex:=(none,0,[])
def zr0(d:zex):Value:= .slice d.1 d.2.2.length d.2.1
theorem zp1{α:Type}{f:α->List Value}(hf:∀x,(f x).length=1):∀(X:List α) (x:α) (k:Nat) {v:Value},f x=[v]->(recs f X).toArray.setIfInBounds k v=(recs f (X.set k x)).toArray
 | [],x,k,v,hv=>by simp[recs]
 |y::X,x,0,v,hv=>by
  have h1:=hf y
  match hy:f y,h1 with
  | [a],_=>simp[recs,hy,hv]
 |y::X,x,k+1,v,hv=>by
  have h1:=hf y;have h2:=zp1 hf X x k hv
  match hy:f y,h1 with
  | [a],_=>
    have e:∀Z:List α,recs f (y::Z)=a::recs f Z:=fun Z=>by simp[recs,hy]
    rw[List.set_cons_succ,e,e];rw[List.setIfInBounds_toArray] at h2⊢;rw[List.set_cons_succ];have:=congrArg Array.toList h2;simp only at this;rw[this]
theorem qdp{α:Type}{f:α->List Value}(hf:∀x,(f x).length=1)(X:List α)(d:α)(k:Nat)(h:k<X.length){v:Value}(hv:f (X.getD k d)=[v]):(recs f X).toArray[k]? =some v:=by have e:=zn9 (f:=f) (sz:=1) hf X d k 0 h (by omega);rw[Nat.mul_one,Nat.add_zero] at e;rw[List.getElem?_toArray,e,hv];rfl
theorem ztt{α:Type}{D:List α}{j:Nat}{d x:α}(h:j<D.length):(D.set j x).getD j d=x:=by rw[List.getD_eq_getElem?_getD,List.getElem?_set_self h];rfl
theorem z02{α:Type}{D:List α}{i j:Nat}{d x:α}(h:i≠j):(D.set j x).getD i d=D.getD i d:=by rw[List.getD_eq_getElem?_getD,List.getElem?_set_ne (by omega),List.getD_eq_getElem?_getD]
end Go.Hm
namespace Go.Proofs.Y
open Go.RowKit Go.Hm
structure ColsIn(w:World)(B:Nat)(D:List zex):Prop where
 rows:RowsIn w B D
 apart:∀i j,i<D.length->j<D.length->i≠j->(zr0 (D.getD i dZ)).ownBlock=none\/(zr0 (D.getD i dZ)).ownBlock≠(zr0 (D.getD j dZ)).ownBlock
theorem ColsIn.later{w w':World}{B:Nat}{D:List zex}(h:ColsIn w B D)(hb:New w w'):ColsIn w' B D:=⟨h.rows.later hb,h.apart⟩
theorem ColsIn.keepT{w w':World}{B g:Nat}{t:TypeId}{cs:Array Value}{D:List zex}(h:ColsIn w B D)(hT:Blk w g t cs)(hne:75≠t)(hg:w.grownBy w' (some g)):ColsIn w' B D:=⟨h.rows.keepT hT hne hg,h.apart⟩
theorem ColsIn.nil{w:World}{B n:Nat}:ColsIn w B (List.replicate n dZ):=by
 refine⟨fun d hd=>?_,fun i j hi hj hne=>?_⟩
 ·rw[List.eq_of_mem_replicate hd]
  exact zdo
 ·rw[List.length_replicate] at hi
  left;rw[List.getD_eq_getElem?_getD,List.getElem?_replicate,if_pos hi];rfl
theorem ColsIn.at_{w:World}{B j:Nat}{D:List zex}(h:ColsIn w B D)(hj:j<D.length):w.ownsRow B 75 5 (zr0 (D.getD j dZ)) (D.getD j dZ).2.2.length (recs zay (D.getD j dZ).2.2):=h.rows _ (zai dZ hj)
theorem ColsIn.put{w w':World}{B j:Nat}{D:List zex}{d:zex}(h:ColsIn w B D)(hj:j<D.length)(hd:w'.ownsRow B 75 5 (zr0 d) d.2.2.length (recs zay d.2.2))(hg:w.grownBy w' (zr0 (D.getD j dZ)).ownBlock)
 (hat:(zr0 d).ownBlock=(zr0 (D.getD j dZ)).ownBlock\/ ∃g,(zr0 d).ownBlock=some g/\w.heap.size<=g):ColsIn w' B (D.set j d):=by
 have hap:∀i,i<D.length->i≠j->(zr0 (D.getD i dZ)).ownBlock=none\/(zr0 (D.getD i dZ)).ownBlock≠(zr0 d).ownBlock:=by
  intro i hi hne;rcases hat with hat|⟨g,hat,hgg⟩
  ·rw[hat]
   exact h.apart i j hi hj hne
  ·rcases hu:(zr0 (D.getD i dZ)).ownBlock with _|k
   ·exact .inl rfl
   ·right
    rw[hat];intro e;injection e with e;have:=(World.ownsRow.lt (h.at_ hi) _ hu).2;omega
 refine⟨fun x hx=>?_,fun i k hi hk hne=>?_⟩
 ·obtain⟨i,hi,rfl⟩:=List.getElem_of_mem hx
  have e:(D.set j d)[i]'hi=(D.set j d).getD i dZ:=by rw[List.getD_eq_getElem?_getD,List.getElem?_eq_getElem hi];rfl
  have hi:i<D.length:=by simpa using hi
  rw[e];by_cases hij:i=j
  ·subst hij
   rw[ztt hj];exact hd
  ·rw[z02 hij]
   exact World.ownsRow.kept (h.at_ hi) hg (h.apart i j hi hj hij)
 ·rw[List.length_set] at hi hk
  by_cases hij:i=j
  ·subst hij
   rw[ztt hi,z02 (fun e=>hne e.symm)];exact zf9 (hap k hk (fun e=>hne e.symm))
  ·rw[z02 hij]
   by_cases hkj:k=j
   ·subst hkj
    rw[ztt hk];exact hap i hi hij
   ·rw[z02 hkj]
    exact h.apart i k hi hk hne
structure TabSt(w0:World)(B gt gd:Nat)(L:List zbc)(Aq:Option Addr)(cq:Nat)(r:Int)(fa:Array Value)(w:World)(D:List zex):Prop where
 new:New w0 w
 tab:Blk w gt 56 #[.slice Aq L.length cq,.int .i64 r,.slice (some ⟨gd,0,none⟩) L.length L.length]
 cols:w.ownsRow B 71 3 (.slice Aq L.length cq) L.length (recs zls L)
 data:Blk w gd 76 (recs zk2 D).toArray
 rows:ColsIn w B D
 res:Blk w (w0.heap.size+1) 56 #[.slice none 0 0,.int .i64 0,.slice none 0 0]
 foot:Blk w w0.heap.size 79 fa
theorem TabSt.later{w0 w w':World}{B gt gd:Nat}{L:List zbc}{Aq:Option Addr}{cq:Nat}{r:Int}{fa:Array Value}{D:List zex}(h:TabSt w0 B gt gd L Aq cq r fa w D)(hb:New w w'):TabSt w0 B gt gd L Aq cq r fa w' D:=
 ⟨New.trans h.new hb,h.tab.below hb h.tab.lt,za5 h.cols hb,h.data.below hb h.data.lt,h.rows.later hb,h.res.below hb h.res.lt,h.foot.below hb h.foot.lt⟩
theorem TabSt.put{w0 w w6 w7:World}{B gt gd j:Nat}{L:List zbc}{Aq:Option Addr}{cq:Nat}{r:Int}{fa:Array Value}{D:List zex}{d:zex}(h:TabSt w0 B gt gd L Aq cq r fa w D)(hj:j<D.length)(hB:w0.heap.size<=gd)
 (hn:New w0 w6)(o6:w6.ownsRow B 75 5 (zr0 d) d.2.2.length (recs zay d.2.2))(g6:w.grownBy w6 (zr0 (D.getD j dZ)).ownBlock)
 (hat:(zr0 d).ownBlock=(zr0 (D.getD j dZ)).ownBlock\/ ∃g,(zr0 d).ownBlock=some g/\w.heap.size<=g)
 (BD7:Blk w7 gd 76 ((recs zk2 D).toArray.setIfInBounds j (zr0 d)))(g7:w6.grownBy w7 (some gd)):TabSt w0 B gt gd L Aq cq r fa w7 (D.set j d):=by
 have row:=h.rows.at_ hj;have BD6:=h.data.grown g6 (fun e=>zas row h.data (by decide) e.symm);have BT6:=h.tab.grown g6 (fun e=>zas row h.tab (by decide) e.symm);have BR6:=h.res.grown g6 (fun e=>zas row h.res (by decide) e.symm);have BF6:=h.foot.grown g6 (fun e=>zas row h.foot (by decide) e.symm);have C6:=World.ownsRow.kept h.cols g6 (zd0 h.cols row (by decide));refine⟨zbe hn g7 hB (Nat.le_refl _),BT6.grown g7 (fun e=>by injection e with e;exact Blk.ne_ BT6 BD6 (by decide) e),World.ownsRow.kept C6 g7 (.inr (zas C6 BD6 (by decide))),?_,(h.rows.put hj o6 g6 hat).keepT BD6 (by decide) g7,
  BR6.grown g7 (fun e=>by injection e with e;exact Blk.ne_ BR6 BD6 (by decide) e),BF6.grown g7 (fun e=>by injection e with e;exact Blk.ne_ BF6 BD6 (by decide) e)⟩
 have e:=zp1 (f:=zk2) (fun _=>rfl) D d j (v:=zr0 d) rfl;rw[e] at BD7;exact BD7
structure PgsIn(w:World)(A:Option Addr)(c:Nat)(R:List zix):Prop where
 row:Reads w w.heap.size 1 A R.length (recs zib R)
 cap:R.length<=c
 pages:∀d∈R,BytIn w d/\(∀x∈d.2.2,x<256)/\d.2.2.length<=140737488351232
theorem PgsIn.later{w w':World}{A:Option Addr}{c:Nat}{R:List zix}(h:PgsIn w A c R)(hb:New w w'):PgsIn w' A c R:=⟨Reads.later h.row hb,h.cap,fun d hd=>⟨(h.pages d hd).1.later hb,(h.pages d hd).2⟩⟩
theorem PgsIn.cut{w:World}{A:Option Addr}{c m:Nat}{R:List zix}(h:PgsIn w A c R)(hm:m<=R.length):PgsIn w (if c=m then A else A.map (·.add (m*1))) (c-m) (R.drop m):=by
 refine⟨?_,by have:=h.cap;rw[List.length_drop];omega,fun d hd=>h.pages d (List.mem_of_mem_drop hd)⟩;have:=h.row.cut (k:=m) hm h.cap;rw[List.length_drop];have e:(recs zib R).drop (m*1)=recs zib (R.drop m):=by
  rw[Nat.mul_one];clear this h;induction R generalizing m with
  |nil=>simp[recs]
  |cons x R ih=>
   cases m with
   |zero=>rfl
   |succ m=>
    have:=ih (m:=m) (by simpa using hm);simpa[recs,zib] using this
 rw[e] at this;exact this
open Go.RowKit Go.Hm
def z03(b:List Nat)(w:World)(e:Ending)(w':World):Prop:=
 New w w'/\match openO b with
 |none=>e= .returned (.tuple #[.agg #[.slice none 0 0,.int .i64 0,.slice none 0 0],.slice none 0 0,.int .i64 2])
 |some x=>∃Ac cc L r Ag cg G A n c,e= .returned (.tuple #[zlb Ac cc L r Ag cg G,.slice A n c,.int .i64 0])/\zbt L r G=x.1/\FootIn w' Ac cc L Ag G/\G.length<=cg/\Go.Hm.Own w' w.heap.size 5 (.slice A n c) (zao .u8 x.2)
theorem zwj{L:List zbc}{r:Int}{G:List GrD}(h:zfa (zbt L r G)):∀g∈G,∀x∈g.2.2.2,∀p∈x.2.2,zec p.2.2:=fun g hg x hx p hp=>
 (h.2 (grP g) (List.mem_map.2 ⟨g,hg,rfl⟩) x.2.2 (List.mem_map.2 ⟨x,hx,rfl⟩) p hp).fine
theorem wrS{x:Int}(h: -9223372036854775808<=x/\x<=9223372036854775807):wrap64 x=x:=by unfold wrap64;omega
set_option maxRecDepth 100000 in
theorem z04{w:World}{A:Option Addr}{c:Nat}{b:List Nat}(h:Reads w w.heap.size 1 A b.length (zao .u8 b))(h8:∀x∈b,x<256)(hb:b.length<=140737488351232)(hc:b.length<=c)(hc2:c<=9223372036854775807):
 Calls Tryz.prog 32 #[.slice A b.length c] w (z03 b w):=by
 obtain⟨W,hW⟩:∃W,W=w.alloc (.cells #[.slice none 0 0,.int .i64 0,.slice none 0 0] 79):=⟨_,rfl⟩;have n1:New w W:=by rw[hW];exact(Below.refl _ _).alloc (Nat.le_refl _) _
 have BZ:Blk W w.heap.size 79 #[.slice none 0 0,.int .i64 0,.slice none 0 0]:=by rw[hW];exact Blk.new _ _ _
 have O:=Hz (zwg (c:=c) (Reads.later h n1) h8 hb hc hc2);rw[hW] at O;have N1:=Hz n1;have HZ:=Hz BZ;have H8:=Hz (fun s hs=>qeq h8 (s:=s) hs);have HL:=Hz (fun s hs=>z0l (b:=b) (s:=s) hs);have HO:Hid (openO b=match zph b with
  |none=>none
  |some s=>match znd (fun r=>r) s with
   |none=>none
   |some F=>if ze0 F (F.groups.length:Int) 0 0=(b.length:Int)-12-(s.length:Int) then some (F,s) else none):=Hz rfl
 have HW:=Hz hW;unfold z03;generalize openO b=X at*;clear h h8 n1 BZ hW;go_enter Tryz.func32,Tryz.ntmps32
 go_wp2_with fail
 refine O.out.mono ?_;rintro e W1 ⟨b1,hpost⟩;rw[<-HW.out] at b1;have BZ1:=HZ.out.below b1 HZ.out.lt;clear O;cases hs:zph b with
 |none=>
  rw[hs] at hpost;obtain rfl:=hpost;have hx:X=none:=by rw[HO.out,hs]
  subst hx;clear hs
  go_wp2_with (refine zaf rfl 79 (.tmp 2) (.tmp 15) rfl w.heap.size _ rfl rfl BZ1 (by kernel_rfl) rfl (by simp[Value.oneCell']) ?_
               intro W2 BR G2;obtain⟨r0,r1,r2⟩:=zan BR)
  exact bodyPost_ret (v:= .tuple #[.agg #[.slice none 0 0,.int .i64 0,.slice none 0 0],.slice none 0 0,.int .i64 2]) (by simp[results,Tryz.results32,go_sem,r0,r1,r2]) rfl ⟨zbe (New.trans N1.out b1) G2 (Nat.le_refl _) (Nat.le_refl _),rfl⟩
 |some s=>
  rw[hs] at hpost;obtain⟨A1,c1,rfl,R1,hc1,hc12⟩:=hpost;obtain⟨hl1,hl2⟩:=HL.out s hs;have hsl:s.length+12<=b.length:=by omega
  have hb1:=b1.size;have D:=Hz (zwi (c:=c1) (R1.more (by have:=b1.size;rw[HW.out] at this;exact this)) (H8.out s hs) (by omega));have IF:=Hz (zpr (H8.out s hs) (by omega));have hx:=HO.out;rw[hs] at hx;have HX:=Hz hx;have RS:=Hz R1;have HSL:=Hz hsl;have HB:=Hz hb;clear hx hs HO R1 hl1 hl2 hsl hb1 hb hc hc1 hc2 hc12 HL H8;go_wp2_with fail
  refine D.out.mono ?_;intro e W2 hq;clear D;cases hF:znd (fun r=>r) s with
  |none=>
   rw[hF] at hq;obtain⟨rfl,b2⟩:=hq;have hx:X=none:=by rw[HX.out,hF]
   subst hx;have BZ2:=(BZ1.below b2 BZ1.lt);clear hF BZ1
   go_upto_region 5 with(refine zaf rfl 79 (.tmp 7) (.tmp 19) rfl W2.heap.size _ rfl rfl (Blk.new W2 79 #[.slice none 0 0,.int .i64 0,.slice none 0 0]) (by kernel_rfl) rfl (by simp[Value.oneCell']) ?_
                         intro W3 BF G3;have b3:New W2 W3:=zbe ((Below.refl _ _).alloc (Nat.le_refl _) _) G3 (Nat.le_refl _) (Nat.le_refl _);have BZ3:=BZ2.below b3 BZ2.lt;clear BF G3 BZ2)
   go_upto_region 6 with fail
   go_wp2_with (refine zaf rfl 79 (.tmp 2) (.tmp 37) rfl w.heap.size _ rfl rfl BZ3 (by kernel_rfl) rfl (by simp[Value.oneCell']) ?_
                intro W4 BR G4;obtain⟨r0,r1,r2⟩:=zan BR)
   exact bodyPost_ret (v:= .tuple #[.agg #[.slice none 0 0,.int .i64 0,.slice none 0 0],.slice none 0 0,.int .i64 2]) (by simp[results,Tryz.results32,go_sem,r0,r1,r2]) rfl ⟨zbe (New.trans N1.out (New.trans b1 (New.trans b2 b3))) G4 (Nat.le_refl _) (Nat.le_refl _),rfl⟩
  |some F=>
   rw[hF] at hq;obtain⟨Ac,cc,L,r,Ag,cg,G,rfl,hFP,⟨FX,hcg⟩,b2⟩:=hq;obtain⟨f1,f2,f3⟩:=IF.out.sound F hF;rw[<-hFP] at f1 f2 f3;have hx:=HX.out;rw[hF,<-hFP] at hx;have hgl:(zbt L r G).groups.length=G.length:=by unfold zbt;simp
   dsimp only at hx;rw[hgl] at hx;have FI:=FX 0 W2 (Nat.zero_le _) (World.grownBy.refl W2 _);have PL:=fun(W:World) (hW:New W2 W)=>zvq (r:=r) (cc:=cc) (cg:=cg) (g:=(G.length:Int)) (c:=0) (p:=0) (FI.later hW) (zwj f2)
   generalize ze0 (zbt L r G) (G.length:Int) 0 0=V at*;unfold zlb at PL⊢;replace PL:=Hz PL;have BZ2:=(BZ1.below b2 BZ1.lt);have HFX:=Hz FX;have RS2:=Hz (fun(W:World) (hW:New W2 W)=>zg4 (c:=c1) (Reads.later ((RS.out.more (by have:=b1.size;rw[HW.out] at this;exact this)).later b2) hW) (by have:=HSL.out;have:=HB.out;omega));have hz12:=b1.size;have hz22:=b2.size;replace hx:=Hz hx;clear hF BZ1 HX IF f1 f3 f2 hgl hFP FX FI
   go_upto_region 5 with(refine zaf rfl 79 (.tmp 7) (.tmp 19) rfl W2.heap.size _ rfl rfl (Blk.new W2 79 #[.slice none 0 0,.int .i64 0,.slice none 0 0]) (by kernel_rfl) rfl (by simp[Value.oneCell']) ?_
                         intro W3 BF G3;have b3:New W2 W3:=zbe ((Below.refl _ _).alloc (Nat.le_refl _) _) G3 (Nat.le_refl _) (Nat.le_refl _);have BZ3:=BZ2.below b3 BZ2.lt;obtain⟨x0,x1,x2⟩:=zan BF;clear G3 BZ2)
   go_wp2_with fail
   refine(PL.out W3 b3).mono ?_;rintro e W4 ⟨rfl,b4⟩;clear PL x0 x1 x2;have b24:=New.trans b3 b4;have BZ4:=BZ3.below b4 BZ3.lt;have BF4:=BF.below b4 BF.lt;obtain⟨i1,i2⟩:wrap64 ((b.length:Int)-12)=(b.length:Int)-12/\wrap64 ((b.length:Int)-12-(s.length:Int))=(b.length:Int)-12-(s.length:Int):=by have:=HSL.out;have:=HB.out;exact⟨wrS (by omega),wrS (by omega)⟩
   clear BZ3 BF b3 b4;by_cases hv:V=(b.length:Int)-12-(s.length:Int)
   ·have hX:X=some (zbt L r G,s):=by rw[hx.out,if_pos hv]
    have q:(V != (b.length:Int)-12-(s.length:Int))=false:=by simpa using hv
    clear hv hx;subst hX;go_wp2_with fail
    refine zcs New 3 [(0,0),(1,1),(2,2),(2,3),(1,4),(1,5)] New.refl New.trans (by kernel_rfl) (by kernel_rfl) (by kernel_rfl) (by kernel_rfl) ?_;have F:=Hz (fun(W:World) (hW:New W4.drew W)=>BF4.below (New.trans (New.drew _) hW) BF4.lt);refine zct rfl rfl (v:=?_) (fun W hW=>?_) ?_;rotate_left;(obtain⟨x0,x1,x2⟩:=zan (F.out W hW);go_simp<;> with_reducible rfl);simp only[Act.put,List.setIfInBounds_toArray,List.set_cons_zero,List.set_cons_succ];refine zb1 rfl rfl (v:=?_) (fun W=>?_) ?_;rotate_left;(go_simp<;> with_reducible rfl);simp only[Act.put,List.setIfInBounds_toArray,List.set_cons_zero,List.set_cons_succ];refine zbf rfl rfl (fun K hK=>?_);go_simp
    refine(RS2.out W4.drew (New.trans b24 (New.drew _))).mono ?_;rintro e W5 ⟨A5,n5,c5,rfl,o5,b5⟩;refine hK _ _ (.inr (.inr b5)) ?_;clear hK;have BZ5:=BZ4.below (New.trans (New.drew _) b5) BZ4.lt;refine zbf rfl rfl (fun K hK=>?_);refine zlq 79 (.tmp 2) (.tmp 38) rfl w.heap.size _ rfl rfl BZ5 (by kernel_rfl) (by simp) (by simp[Value.oneCell']) ?_;intro W6 BR G6;refine hK _ _ (.inr (.inl rfl)) ?_;clear hK BZ5 F;refine zb1 rfl rfl (v:=?_) (fun W=>?_) ?_;rotate_left;(go_simp<;> with_reducible rfl);simp only[Act.put,List.setIfInBounds_toArray,List.set_cons_zero,List.set_cons_succ];refine zb1 rfl rfl (v:=?_) (fun W=>?_) ?_;rotate_left;(go_simp<;> with_reducible rfl);simp only[Act.put,List.setIfInBounds_toArray,List.set_cons_zero,List.set_cons_succ];refine zf2 ?_;go_wp2_with fail
    obtain⟨r0,r1,r2⟩:=zan BR;have b25:=New.trans b24 (New.trans (New.drew _) b5);have hz5:=b25.size;have hbase:w.heap.size<W4.heap.size:=by have:=HZ.out.lt;have:=b1.size;have:=b24.size;omega
    have o5:Go.Hm.Own W5 W4.heap.size 5 (.slice A5 n5 c5) (zao .u8 s):=o5;refine bodyPost_ret (v:= .tuple #[.agg #[.slice Ac L.length cc,.int .i64 r,.slice Ag G.length cg],.slice A5 n5 c5,.int .i64 0]) (by simp[results,Tryz.results32,go_sem,r0,r1,r2]) rfl ⟨zbe (New.trans N1.out (New.trans b1 (New.trans b2 b25))) G6 (Nat.le_refl _) (Nat.le_refl _),?_⟩;exact⟨Ac,cc,L,r,Ag,cg,G,A5,n5,c5,rfl,rfl,HFX.out w.heap.size W6 (by have:=HZ.out.lt;have:=b1.size;omega) ((Far.of_new b25).trans G6),hcg,(o5.kept G6 (.inr (fun e=>by have:=(o5.lt _ e).1;omega))).base_le (by omega)⟩
   ·have hX:X=none:=by rw[hx.out,if_neg hv]
    have q:(V != (b.length:Int)-12-(s.length:Int))=true:=by simpa using hv
    clear hv hx HFX RS2 BF4;subst hX
    go_wp2_with (refine zaf rfl 79 (.tmp 2) (.tmp 37) rfl w.heap.size _ rfl rfl BZ4 (by kernel_rfl) rfl (by simp[Value.oneCell']) ?_
                 intro W5 BR G5;obtain⟨r0,r1,r2⟩:=zan BR)
    exact bodyPost_ret (v:= .tuple #[.agg #[.slice none 0 0,.int .i64 0,.slice none 0 0],.slice none 0 0,.int .i64 2]) (by simp[results,Tryz.results32,go_sem,r0,r1,r2]) rfl ⟨zbe (New.trans N1.out (New.trans b1 (New.trans b2 b24))) G5 (Nat.le_refl _) (Nat.le_refl _),rfl⟩
open Go.RowKit Go.Hm
structure WrT where
 Ac:Option Addr
 cc:Nat
 L:List zbc
 r:Int
 Ad:Option Addr
 cd:Nat
 D:List zex
 gr:Int
 pr:Int
 Ae:Option Addr
 ce:Nat
 E:List Int
abbrev WrT.dat(T:WrT):List (List zab):=T.D.map (·.2.2)
structure WrIn(w:World)(T:WrT):Prop where
 tab:TabIn w T.Ac T.cc T.L T.Ad T.D
 encs:Reads w w.heap.size 1 T.Ae T.E.length (za0 .i64 T.E)
 len:T.D.length=T.L.length
 elen:T.E.length=T.L.length
 few:T.L.length<=64
 rows:0<=T.r/\T.r<=65536
 all:∀d∈T.D,((d.2.2.length:Nat):Int)=T.r
 right:∀c,c<T.L.length-> ∀y∈(T.D.getD c dZ).2.2,zae y (T.L.getD c zfr).2.1 (T.L.getD c zfr).2.2=true
 data:∀d∈T.D,∀y∈d.2.2,CellFine y
 conf:(1<=T.gr/\T.gr<=65536)/\1<=T.pr/\T.pr<=65536
theorem WrIn.later{w w':World}{T:WrT}(h:WrIn w T)(hb:New w w'):WrIn w' T:=⟨h.tab.later hb,Reads.later h.encs hb,h.len,h.elen,h.few,h.rows,h.all,h.right,h.data,h.conf⟩
def wrC(T:WrT)(V:Value)(z:Int):Array Value:= #[.slice T.Ac T.L.length T.cc,.int .i64 T.r,.slice T.Ad T.D.length T.cd,.int .i64 T.gr,.int .i64 T.pr,.slice T.Ae T.E.length T.ce,V,.int .i64 z]
structure WrOf(w:World)(base g:Nat)(T:WrT)(V:Value)(F:List (List Nat))(z:Int):Prop where
 blk:Blk w g 107 (wrC T V z)
 pages:∃A c P,V= .slice A P.length c/\w.ownsRow base 24 1 (.slice A P.length c) P.length (recs zib P)/\P.map byP=F/\ ∀d∈P,TR w 5 d.1 d.2.2.length (zao .u8 d.2.2)
def KeepW(W W':World):Prop:=W.heap.size<=W'.heap.size/\ ∀t b cs,t≠107->t≠24->Blk W b t cs->Blk W' b t cs
theorem KeepW.refl(W:World):KeepW W W:=⟨Nat.le_refl _,fun _ _ _ _ _ h=>h⟩
theorem KeepW.trans{a b c:World}(h:KeepW a b)(k:KeepW b c):KeepW a c:=⟨Nat.le_trans h.1 k.1,fun t x cs h1 h2 hb=>k.2 t x cs h1 h2 (h.2 t x cs h1 h2 hb)⟩
theorem KeepW.new{W W':World}(h:New W W'):KeepW W W':=⟨h.size,fun _ _ _ _ _ hb=>hb.below h hb.lt⟩
theorem KeepW.of{W W':World}{g:Nat}{t:TypeId}{cs:Array Value}(hg:W.grownBy W' (some g))(hB:Blk W g t cs)(ht:t=107\/t=24):KeepW W W':=
 ⟨hg.size,fun t' x cs' h1 h2 hb=>hb.grown hg (fun e=>by
  injection e with e;subst e;unfold Blk at hb hB;rw[hb] at hB;injection hB with hB;injection hB with _ hB;rcases ht with ht|ht
  ·exact h1 (hB.trans ht)
  ·exact h2 (hB.trans ht))⟩
theorem KeepW.row{W W':World}{base n:Nat}{v:Value}{xs:List Value}(o:W.ownsRow base 24 1 v n xs)(hg:W.grownBy W' v.ownBlock):KeepW W W':=by
 rcases hu:v.ownBlock with _|k
 ·rw[hu] at hg
  exact⟨hg.size,fun _ _ _ _ _ hb=>hb.grown hg (by simp)⟩
 ·rw[hu] at hg
  refine⟨hg.size,fun t' x cs' h1 h2 hb=>hb.grown hg (fun e=>?_)⟩;injection e with e;subst e;exact zas o hb (fun e=>h2 e.symm) hu
theorem zeg{w:World}{g:Nat}{ty:TypeId}{a0 a1 a2 a3 a4 a5 a6 a7:Value}(h:Blk w g ty #[a0,a1,a2,a3,a4,a5,a6,a7]):
 w.cell? ⟨g,0,none⟩=some a0/\w.cell? ⟨g,1,none⟩=some a1/\w.cell? ⟨g,2,none⟩=some a2/\w.cell? ⟨g,3,none⟩=some a3/\w.cell? ⟨g,4,none⟩=some a4/\w.cell? ⟨g,5,none⟩=some a5/\w.cell? ⟨g,6,none⟩=some a6/\w.cell? ⟨g,7,none⟩=some a7:=by
 have h0:=h.cell 0;have h1:=h.cell 1;have h2:=h.cell 2;have h3:=h.cell 3;have h4:=h.cell 4;have h5:=h.cell 5;have h6:=h.cell 6;have h7:=h.cell 7;simp at h0 h1 h2 h3 h4 h5 h6 h7;exact⟨h0,h1,h2,h3,h4,h5,h6,h7⟩
theorem WrOf.new{w w':World}{base g:Nat}{T:WrT}{V:Value}{F:List (List Nat)}{z:Int}(h:WrOf w base g T V F z)(hb:New w w'):WrOf w' base g T V F z:=by obtain⟨h1,A,c,P,e,h2,h3,h4⟩:=h;exact⟨h1.below hb h1.lt,A,c,P,e,za5 h2 hb,h3,fun d hd=>(h4 d hd).below hb⟩
def z9l(T:WrT)(c:Nat)(s:Int × Int)(w0:World)(base g:Nat)(F:List (List Nat))(z:Int)(w:World)(e:Ending)(w':World):Prop:=
 match pgW T.L T.E T.dat c (some (F,z)) s with
 |none=>e= .returned (.tuple #[zth (0,0,zbx),.bool false])/\KeepW w w'/\New w0 w'
 |some x=>e= .returned (.tuple #[zth (zd5 T.L T.E T.dat c s),.bool true])/\(∃V',WrOf w' base g T V' x.1 x.2)/\KeepW w w'/\New w0 w'
end Go.Proofs.Y
