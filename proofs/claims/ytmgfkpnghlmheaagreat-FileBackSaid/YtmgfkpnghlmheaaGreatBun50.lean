/- Texts merged and made short: FewS, FilFb, FileBack. -/
import Derived.Test.YtmgfkpnghlmheaaGreatBun1
import Derived.Test.YtmgfkpnghlmheaaGreatBun18
import Derived.Test.YtmgfkpnghlmheaaGreatBun22
import Derived.Test.YtmgfkpnghlmheaaGreatBun23
import Derived.Test.YtmgfkpnghlmheaaGreatBun47
import Derived.Test.YtmgfkpnghlmheaaGreatBun48
import Derived.Test.YtmgfkpnghlmheaaGreatBun49
import Derived.Test.YtmgfkpnghlmheaaGreatBun5
set_option maxHeartbeats 4000000
namespace Go.Proofs.YtmgfkpnghlmheaaGreat
open Go.RowKit Go.Hm
def ztr(L:List za0):Int:=(L.map fun c=>(c.1.length:Int)).sum
def z3k(l:List zab):Int:=(l.map fun c=>(c.2.2.1.length:Int)).sum
def zyi(D:List zdo):Int:=(D.map fun d=>(d.2.2.length:Int)+z3k d.2.2).sum
theorem z80{L:List za0}{k:Nat}(h:k<L.length):ztr (L.take (k+1))=ztr (L.take k)+((L.getD k ([],0,false)).1.length:Int):=by
 rw[zad _ k ([],0,false) h];simp[ztr]
theorem z81{l:List zab}{k:Nat}(h:k<l.length):z3k (l.take (k+1))=z3k (l.take k)+((l.getD k (false,0,[],0,0)).2.2.1.length:Int):=by
 rw[zad _ k (false,0,[],0,0) h];simp[z3k]
theorem z82{D:List zdo}{k:Nat}(h:k<D.length):zyi (D.take (k+1))=zyi (D.take k)+(((D.getD k (none,0,[])).2.2.length:Int)+z3k (D.getD k (none,0,[])).2.2):=by
 rw[zad _ k (none,0,[]) h];simp[zyi]
theorem zyj(a b:Int):IntKind.i64.wrap (IntKind.i64.wrap a+b)=IntKind.i64.wrap (a+b):=by
 rw[IntKind.wrap_i64,IntKind.wrap_i64,IntKind.wrap_i64];omega
def zwb(n:Int)(w:World)(e:Ending)(w':World):Prop:=∃b,e= .returned (.bool b)∧(b=true→IntKind.i64.wrap n≤3000)∧New w w'
set_option maxRecDepth 100000 in
theorem z83{w:World}{Ac:Option Addr}{cc:Nat}{L:List za0}{r:Int}{Ad:Option Addr}{cd:Nat}{D:List zdo}(h:TabIn w Ac cc L Ad D):
 Calls Tryz.prog 10 #[.agg #[.slice Ac L.length cc,.int .i64 r,.slice Ad D.length cd]] w (zwb (ztr L+zyi D) w):=by
 obtain⟨W0,hW0⟩:∃W,W=w.alloc (.cells #[.slice Ac L.length cc,.int .i64 r,.slice Ad D.length cd] 25):=⟨_,rfl⟩
 have b0:New w W0:=by rw[hW0];exact(Below.refl _ _).alloc (Nat.le_refl _) _
 have B0:Blk W0 w.heap.size 25 #[.slice Ac L.length cc,.int .i64 r,.slice Ad D.length cd]:=by rw[hW0];exact Blk.new _ _ _
 obtain⟨x0,x1,x2⟩:=zaf B0;have T:=Hz (h.later b0);have l1:=h.few;have l2:=h.few2
 go_enter Tryz.func10,Tryz.ntmps10
 have HW:=Hz hW0;rw[hW0] at x0 x1 x2;clear hW0 h
 go_wp2_with fail
 rw[←HW.out];rw[←HW.out] at x0 x1 x2
 go_loopw [3,4] (fun v i wr=>∃(k:Nat) (x:Int),i= .int .i64 (k:Int)∧v= .int .i64 x∧k≤L.length∧W0=wr∧Hid (x=IntKind.i64.wrap (ztr (L.take k)))) (fun _ i _=>L.length-(intOf i).toNat)
 case atStart=>exact⟨0,0,rfl,rfl,by omega,rfl,Hz (by rw[List.take_zero];rfl)⟩
 case round=>
  obtain⟨k,x,rfl,rfl,hk,rfl,HX⟩:=hrel;by_cases hlt:k<L.length
  ·obtain⟨ad,rfl,hbk,d0,d1,d2⟩:=T.out.cols.colT hlt
   have hx:=(T.out.fine _ (zps ([],0,false) hlt)).2;have HS:=Hz (z80 hlt);generalize(L.getD k ([],0,false)).1=s2 at*;have zs:=zbf s2
   have hiz:(k:Int)<(L.length:Int):=by omega
   have hX2:IntKind.i64.wrap (x+(s2.length:Int))=IntKind.i64.wrap (ztr (L.take (k+1))):=by rw[HS.out,HX.out,zyj]
   generalize hy:IntKind.i64.wrap (x+(s2.length:Int))=y at*;have HX2:=Hz hX2;clear hX2 HX HS
   go_wp2
   go_roundw
   case rel=>exact⟨k+1,_,by go_num,rfl,by omega,trivial,HX2⟩
   case measure=>simp[intOf];omega
  ·obtain rfl:k=L.length:=by omega
   go_wp2
   go_loopw [3,5] (fun v i wr=>∃(k:Nat) (x:Int),i= .int .i64 (k:Int)∧v= .int .i64 x∧k≤D.length∧W0=wr∧Hid (x=IntKind.i64.wrap (ztr L+zyi (D.take k)))) (fun _ i _=>D.length-(intOf i).toNat)
   case atStart=>exact⟨0,_,rfl,rfl,by omega,rfl,Hz (by rw[HX.out,List.take_length,List.take_zero];simp[zyi])⟩
   case round=>
    clear HX;obtain⟨k,x,rfl,rfl,hk,rfl,HX⟩:=hrel;by_cases hlt:k<D.length
    ·obtain⟨ad,rfl,hbk,c0⟩:=T.out.data.colD hlt
     have E:=Hz (T.out.within _ (zps (none,0,[]) hlt));have HD:=Hz (z82 hlt);generalize(D.getD k (none,0,[])).1=aA at*;generalize(D.getD k (none,0,[])).2.2=l at*;generalize(D.getD k (none,0,[])).2.1=cA at*
     have hiz:(k:Int)<(D.length:Int):=by omega
     have hll:l.length≤9223372036854775807:=by have:=E.out.2.2.1;have:=E.out.2.2.2.1;omega
     have hX2:IntKind.i64.wrap (x+(l.length:Int))=IntKind.i64.wrap (ztr L+zyi (D.take k)+(l.length:Int)):=by rw[HX.out,zyj]
     generalize hy:IntKind.i64.wrap (x+(l.length:Int))=y at*;have HX2:=Hz hX2;clear hX2 HX
     go_wp2
     go_loopw [3,6] (fun v i wr=>∃(j:Nat) (x:Int),i= .int .i64 (j:Int)∧v= .int .i64 x∧j≤l.length∧W0=wr∧Hid (x=IntKind.i64.wrap (ztr L+zyi (D.take k)+(l.length:Int)+z3k (l.take j)))) (fun _ i _=>l.length-(intOf i).toNat)
     case atStart=>exact⟨0,_,rfl,rfl,by omega,rfl,Hz (by rw[HX2.out,List.take_zero];simp[z3k])⟩
     case round=>
      clear HX2;obtain⟨j,x,rfl,rfl,hj,rfl,HX⟩:=hrel;by_cases hlt2:j<l.length
      ·obtain⟨E1,E2,_⟩:=E.out
       obtain⟨ad2,e2,hbk2,d0,d1,d2,d3,d4⟩:=E1.cell5 hlt2;subst e2;have hx:=(E2 _ (zps (false,0,[],0,0) hlt2)).1;have HS:=Hz (z81 hlt2);generalize(l.getD j (false,0,[],0,0)).2.2.1=s2 at*;have zs:=zbf s2
       have hiz2:(j:Int)<(l.length:Int):=by omega
       have hX2:IntKind.i64.wrap (x+(s2.length:Int))=IntKind.i64.wrap (ztr L+zyi (D.take k)+(l.length:Int)+z3k (l.take (j+1))):=by rw[HS.out,HX.out,zyj];congr 1;omega
       generalize hy2:IntKind.i64.wrap (x+(s2.length:Int))=y2 at*;have HX2:=Hz hX2;clear hX2 HX HS;clear E1 E2 d0 d1 d3 d4
       go_wp2
       go_roundw
       case rel=>exact⟨j+1,_,by go_num,rfl,by omega,trivial,HX2⟩
       case measure=>simp[intOf];omega
      ·obtain rfl:j=l.length:=by omega
       go_wp2
       go_roundw
       case rel=>exact⟨k+1,_,by go_num,rfl,by omega,trivial,Hz (by rw[HX.out,HD.out,List.take_length];congr 1;omega)⟩
       case measure=>simp[intOf];omega
    ·obtain rfl:k=D.length:=by omega
     have hX:=HX.out;rw[List.take_length] at hX;have HX:=Hz hX;clear hX
     go_wp2
     all_goals go_ret
     all_goals refine⟨_,rfl,fun hb=>?_,b0⟩
     all_goals first|(cases hb;done)|(rw[←HX.out];simpa using hb)|(rw[←HX.out];assumption)|(rw[←HX.out];simp_all)|skip
open Go.RowKit Go.Hm
theorem z9c:∀l:List zab,z3k l=(fsum (zbb l):Int)
 | []=>rfl
 |c::l=>by
  have ih:=z9c l
  have e:fsum (zbb (c::l))=c.2.2.1.length+fsum (zbb l):=by unfold zbb;rw[List.map_cons,zft]
  have e2:z3k (c::l)=(c.2.2.1.length:Int)+z3k l:=by simp[z3k]
  rw[e,e2,ih];omega
theorem z9d:∀D:List zdo,zyi D=((((D.map (·.2.2)).map List.length).sum:Nat):Int)+((((D.map (·.2.2)).map fun l=>fsum (zbb l)).sum:Nat):Int)
 | []=>rfl
 |d::D=>by
  have ih:=z9d D
  have e2:zyi (d::D)=((d.2.2.length:Int)+z3k d.2.2)+zyi D:=by simp[zyi]
  rw[e2,ih,z9c];simp only[List.map_cons,List.sum_cons];omega
theorem z9e:∀L:List za0,(∀c∈L,c.1.length≤100)→0≤ztr L∧ztr L≤100*(L.length:Int)
 | [],_=>by simp[ztr]
 |c::L,h=>by
  have ih:=z9e L fun x hx=>h x (by simp[hx])
  have h1:=h c (by simp)
  have e:ztr (c::L)=(c.1.length:Int)+ztr L:=by simp[ztr]
  rw[e,List.length_cons];omega
theorem qib(C:List (List zab)):(C.map Wt).sum=598*(C.map List.length).sum+(C.map fun l=>fsum (zbb l)).sum:=by
 have e:C.map Wt=C.map fun l=>l.length*598+fsum (zbb l):=by
  apply List.map_congr_left;intro l _;unfold Wt;omega
 rw[e,zeo (fun l:List zab=>l.length*598),ztn];omega
theorem qgm{c:zab}{t:Int}{nu:Bool}(h:zac c t nu=true):c.2.2.1.length≤65536:=by
 cases h0:c.1 with
 |false=>exact zfi (zjy (zi9 h) h0)
 |true=>
  unfold zac at h;rw[if_pos h0] at h;simp at h;rw[h.2.2.1];simp
theorem z0y{α:Type}{f:α→Nat}{k:Nat}:∀(l:List α),(∀x∈l,f x≤k)→(l.map f).sum≤l.length*k
 | [],_=>by simp
 |x::l,h=>by
  have h1:=h x (by simp)
  have h2:=z0y (f:=f) l fun y hy=>h y (by simp[hy])
  simp only[List.map_cons,List.sum_cons,List.length_cons,Nat.succ_mul];omega
theorem z9f{L:List za0}{r:Int}{DD:List zdo}(h0:zdz L r DD=0)(hf:IntKind.i64.wrap (ztr L+zyi DD)≤3000):((DD.map (·.2.2)).map Wt).sum≤16777216∧((DD.map (·.2.2)).map List.length).sum≤7000:=by
 obtain⟨a1,a2,a3,a4,a5⟩:=zhf h0;have hr:=zwd h0
 have hck:zch L=0:=by
  unfold zdz at h0;split at h0
  ·rename_i q;exact absurd h0 q
  ·rename_i q;exact Decidable.not_not.1 q
 have hL:=(zdg L).1 hck
 have hn:=z9e L fun c hc=>(hL.2.1 c hc).2.1
 have hlen:(DD.map (·.2.2)).length=L.length:=by rw[List.length_map];exact a1
 have hcol:∀l∈DD.map (·.2.2),l.length≤65536∧∀y∈l,y.2.2.1.length≤65536:=fun l hl=>by
  obtain⟨i,hi,e⟩:=List.getElem_of_mem hl
  have hi2:i<L.length:=by omega
  have hl2:(DD.map (·.2.2)).getD i []=l:=by rw[List.getD_eq_getElem?_getD,List.getElem?_eq_getElem hi,e];rfl
  have h1:=hr i hi2;rw[hl2] at h1;obtain⟨d,hd,rfl⟩:=List.mem_map.1 hl;refine⟨by have:=a5 d hd;omega,fun y hy=>qgm (h1 y hy)⟩
 have s1:=z0y (f:=List.length) (k:=65536) (DD.map (·.2.2)) fun l hl=>(hcol l hl).1
 have s2:=z0y (f:=fun l=>fsum (zbb l)) (k:=65536*65536) (DD.map (·.2.2)) fun l hl=>by
  obtain⟨h1,h2⟩:=hcol l hl
  have h3:=z0y (f:=List.length) (k:=65536) (zbb l) fun s hs=>by
   obtain⟨y,hy,rfl⟩:=List.mem_map.1 hs;exact h2 y hy
  have h4:(zbb l).length=l.length:=by unfold zbb;rw[List.length_map]
  rw[h4] at h3;have h5:l.length*65536≤65536*65536:=Nat.mul_le_mul_right _ h1;exact Nat.le_trans h3 h5
 rw[hlen] at s1 s2;have m1:L.length*65536≤64*65536:=Nat.mul_le_mul_right _ a4;have m2:L.length*(65536*65536)≤64*(65536*65536):=Nat.mul_le_mul_right _ a4;have hD:=z9d DD;have hw:=qib (DD.map (·.2.2));rw[IntKind.wrap_i64] at hf;omega
theorem qdj{w:World}{Ac:Option Addr}{cc:Nat}{L:List za0}{r:Int}{Ad:Option Addr}{DD:List zdo}{gr pr:Int}{E:List Int}(h:TabIn w Ac cc L Ad DD)(hfi:∀d∈DD,∀y∈d.2.2,CellFine y)(h0:zdz L r DD=0)(h1:zcn gr pr E L=0)(hf:IntKind.i64.wrap (ztr L+zyi DD)≤3000):
 ∃b,writeO L r DD gr pr E=(0,b)∧(∀x∈b,x<256)∧b.length≤2147483660∧readO b=some (zbu L r E (DD.map (·.2.2)) gr pr,DD.map (·.2.2)):=by
 obtain⟨a1,a2,a3,a4,a5⟩:=zhf h0
 have hck:zch L=0:=by
  unfold zdz at h0;split at h0
  ·rename_i q;exact absurd h0 q
  ·rename_i q;exact Decidable.not_not.1 q
 have hcf:(1≤gr∧gr≤65536)∧1≤pr∧pr≤65536:=by
  unfold zcn at h1;split at h1
  ·omega
  ·rename_i hg
   have hg:=Decidable.not_not.1 hg;exact⟨⟨hg.1,hg.2.1⟩,hg.2.2.1,hg.2.2.2.1⟩
 have hok:WrOk L r (DD.map (·.2.2)) gr pr:=⟨(zdg L).1 hck,fun c hc=>(h.fine c hc).1,by rw[List.length_map];exact a1,⟨a2,a3⟩,fun l hl=>by
  obtain⟨d,hd,rfl⟩:=List.mem_map.1 hl
  exact a5 d hd,fun l hl c hc=>by
  obtain⟨d,hd,rfl⟩:=List.mem_map.1 hl
  exact zi3 (hfi d hd c hc),hcf⟩
 obtain⟨p1,p2⟩:=z9f h0 hf;obtain⟨b,hb⟩:=z9b hok h0 h1 p1 p2;obtain⟨-,-,-,-,-,-,t7,t8,t9⟩:=z0t hok hb h0 h1;exact⟨b,hb,t8,t9,t7⟩
open Go.RowKit Go.Hm
set_option maxRecDepth 100000 in
theorem zto{w:World}{Ac:Option Addr}{cc:Nat}{L:List za0}{r:Int}{Ad:Option Addr}{cd:Nat}{D:List zdo}{g p:Int}{Ae:Option Addr}{ce:Nat}{E:List Int}
 (h:TabIn w Ac cc L Ad D)(hf:∀d∈D,∀y∈d.2.2,CellFine y)(he:Reads w w.heap.size 1 Ae E.length (zep .i64 E))(hen:E.length≤4611686018427387903):
 Calls Tryz.prog 5 #[.agg #[.slice Ac L.length cc,.int .i64 r,.slice Ad D.length cd],.agg #[.int .i64 g,.int .i64 p,.slice Ae E.length ce]] w (zt7 w):=by
 obtain⟨W1,hW1⟩:∃W,W=(w.alloc (.cells #[.slice Ac L.length cc,.int .i64 r,.slice Ad D.length cd] 25)).alloc (.cells #[.int .i64 g,.int .i64 p,.slice Ae E.length ce] 28):=⟨_,rfl⟩
 have b1:New w W1:=by rw[hW1];exact((Below.refl _ _).alloc (Nat.le_refl _) _).alloc (by simp) _
 have BT:Blk W1 w.heap.size 25 #[.slice Ac L.length cc,.int .i64 r,.slice Ad D.length cd]:=by rw[hW1];exact(Blk.new _ _ _).alloc _
 have BC:Blk W1 (w.heap.size+1) 28 #[.int .i64 g,.int .i64 p,.slice Ae E.length ce]:=by
  rw[hW1];have:=Blk.new (w.alloc (.cells #[.slice Ac L.length cc,.int .i64 r,.slice Ad D.length cd] 25)) 28 #[.int .i64 g,.int .i64 p,.slice Ae E.length ce];rwa[World.size_alloc] at this
 have T:=Hz (fun(W:World) (hW:New W1 W)=>h.later (New.trans b1 hW));have RE:=Hz (fun(W:World) (hW:New W1 W)=>Reads.later he (New.trans b1 hW));have F:=Hz (fun(W:World) (hW:New W1 W)=>zaf (BT.below hW BT.lt));have G:=Hz (fun(W:World) (hW:New W1 W)=>zaf (BC.below hW BC.lt));have SM:=Hz (zyh W1);have HB:=Hz (fun(h0:zdz L r D=0) (h1:zcn g p E L=0) hh=>qdj (r:=r) h hf h0 h1 hh);have HF:=Hz hf;have HW:=Hz hW1;replace b1:=Hz b1;clear h hf he BT BC hW1
 go_enter Tryz.func5,Tryz.ntmps5
 go_wp2_with fail
 rw[←HW.out];refine SM.out.mono ?_;rintro e w1 ⟨rfl,n1⟩;have P:=Hz (z83 (r:=r) (cd:=cd) (T.out w1 n1));obtain⟨x0,x1,x2⟩:=F.out w1 n1;have n1:=Hz n1;clear SM HW
 go_wp2_with fail
 refine P.out.mono ?_;rintro e w2 ⟨bb,rfl,hbb,b2⟩;have n2:=Hz (New.trans n1.out b2);clear P x0 x1 x2 n1 b2;obtain⟨y0,y1,y2⟩:=G.out w2 n2.out
 cases bb with
 |false=>
  go_wp2_with fail
  go_ret
  exact⟨rfl,New.trans b1.out n2.out⟩
 |true=>
  have hbb:=Hz (hbb rfl);by_cases h100:100<E.length
  ·have t1:decide (100<(E.length:Int))=true:=by simp;omega
   go_wp2_with fail
   go_ret
   exact⟨rfl,New.trans b1.out n2.out⟩
  ·have t1:decide (100<(E.length:Int))=false:=by simp;omega
   obtain⟨x0,x1,x2⟩:=F.out w2 n2.out;have WR:=zjb (w:=w2) ⟨Ac,cc,L,r,Ad,cd,D,g,p,Ae,ce,E⟩ (T.out w2 n2.out) (RE.out w2 n2.out) HF.out hen;dsimp only at WR
   have CK:=fun(W:World) (hW:New W1 W)=>zvx (cc:=cc) (r:=r) (cd:=cd) (T.out W hW).cols (T.out W hW).fine (T.out W hW).cap (T.out W hW).few (T.out W hW).data (T.out W hW).few2 (T.out W hW).within
   have LK:=fun(W:World) (hW:New W1 W)=>zqt (g:=g) (p:=p) (c:=ce) (c2:=cc) (RE.out W hW) ((T.out W hW).cols) hen
   have HO:Hid (writeO L r D g p E=if zdz L r D≠0 then(zdz L r D,[]) else if zcn g p E L≠0 then(zcn g p E L,[]) else writeO L r D g p E):=Hz (by
    by_cases k1:zdz L r D=0
    ·by_cases k2:zcn g p E L=0
     ·rw[if_neg (by rw[k1];simp),if_neg (by rw[k2];simp)]
     ·rw[if_neg (by rw[k1];simp),if_pos k2]
      unfold writeO;rw[if_neg (by rw[k1];simp),if_pos k2]
    ·rw[if_pos k1]
     unfold writeO
     rw[if_pos k1])
   by_cases k1:zdz L r D=0
   ·by_cases k2:zcn g p E L=0
    ·obtain⟨b,hb,hb8,hbl,hrd⟩:=HB.out k1 k2 hbb.out
     rw[hb] at WR;rw[k1] at CK;rw[k2] at LK;have WR:=Hz WR;have CK:=Hz CK;have LK:=Hz LK;have HR:=Hz (And.intro hb8 hrd);have h64:=Hz (show L.length≤64∧D.length=L.length from⟨(zhf k1).2.2.2.1,(zhf k1).1⟩);clear HO HB k1 k2 hb hb8 hrd hbb
     go_wp2_with fail
     refine WR.out.mono ?_;rintro e w3 ⟨A3,m3,c3,rfl,o3,b3⟩
     obtain rfl:m3=b.length:=by have:=o3.len;rwa[zaa] at this
     have n3:=Hz (New.trans n2.out b3);have o3:=Hz o3;clear x0 x1 x2 y0 y1 y2 WR n2 b3;obtain⟨x0,x1,x2⟩:=F.out w3 n3.out;have C3:=Hz (CK.out w3 n3.out)
     go_wp2_with fail
     refine C3.out.mono ?_;rintro e w4 ⟨rfl,b4⟩;have n4:=Hz (New.trans n3.out b4);have o4:=Hz (o3.out.later b4);clear x0 x1 x2 C3 CK n3 o3 b4;obtain⟨x0,x1,x2⟩:=F.out w4 n4.out;obtain⟨y0,y1,y2⟩:=G.out w4 n4.out;have L4:=Hz (LK.out w4 n4.out)
     go_wp2_with fail
     refine L4.out.mono ?_;rintro e w5 ⟨rfl,b5⟩;have n5:=Hz (New.trans n4.out b5);have o5:=o4.out.later b5;clear x0 x1 x2 y0 y1 y2 L4 LK n4 o4 b5;have hcap:=o5.cap;have P5:=Hz (zpn (c:=c3) o5.reads HR.out.1 (by omega) hcap.1 (by have:=hcap.2;simp only[maxLen] at this;omega));clear hcap o5
     go_wp2_with fail
     refine P5.out.mono ?_;intro e w6 hq;unfold zk7 at hq;rw[HR.out.2] at hq;obtain⟨A6,B6,c6,d6,D6,rfl,TO,hD6,b6⟩:=(show TabPost 0 L r (D.map (·.2.2)) w5 e w6 from hq).own;have n6:=Hz (New.trans n5.out b6);have hsh:=T.out w6 n6.out
     have hl6:D6.length=D.length:=by have:=congrArg List.length hD6;rwa[List.length_map,List.length_map] at this
     have T6:=TO.tabIn (by have:=h64.out;omega) (by have:=h64.out;omega) hsh.fine (fun d hd y hy=>by
      have:d.2.2∈D.map (·.2.2):=by rw[←hD6];exact List.mem_map.2 ⟨d,hd,rfl⟩
      obtain⟨d',hd',e⟩:=List.mem_map.1 this
      exact(HF.out d' hd' y (by rw[e];exact hy)).1)
     have LS:=Hz (fun(W:World) (hW:New w6 W)=>zjm (r:=r) (c1:=c6) (k1:=d6) (c2:=cc) (k2:=cd) (T6.later hW) (T.out W (New.trans n6.out hW)) hD6);clear P5 hq TO hD6 hsh hl6 T6 n5 b6 HR;have ba:New w6 (w6.alloc (.cells #[.slice A6 L.length c6,.int .i64 r,.slice B6 D6.length d6] 25)):=(Below.refl _ _).alloc (Nat.le_refl _) _;have BX:=Blk.new w6 25 #[.slice A6 L.length c6,.int .i64 r,.slice B6 D6.length d6];obtain⟨z0,z1,z2⟩:=zaf BX;obtain⟨x0,x1,x2⟩:=F.out _ (New.trans n6.out ba);have S6:=Hz (LS.out _ ba);have n7:=Hz (New.trans n6.out ba);clear BX LS ba
     go_wp2_with fail
     refine S6.out.mono ?_;rintro e w7 ⟨rfl,b7⟩;clear x0 x1 x2 z0 z1 z2 S6
     go_wp2_with fail
     go_ret
     exact⟨rfl,New.trans b1.out (New.trans n7.out b7)⟩
    ·have hO:=HO.out
     rw[if_neg (by rw[k1];simp),if_pos k2] at hO;rw[hO] at WR;rw[k1] at CK;generalize zcn g p E L=K2 at*;have q2:(K2==0)=false:=beq_eq_false_iff_ne.2 k2
     have q3:(K2 != 0)=true:=by simpa using k2
     have WR:=Hz WR;have CK:=Hz CK;have LK:=Hz LK;clear HO HB hO hbb
     go_wp2_with fail
     refine WR.out.mono ?_;rintro e w3 ⟨A3,m3,c3,rfl,o3,b3⟩
     obtain rfl:m3=0:=by have:=o3.len;rwa[zaa] at this
     have n3:=Hz (New.trans n2.out b3);clear x0 x1 x2 y0 y1 y2 WR n2 b3 o3;obtain⟨x0,x1,x2⟩:=F.out w3 n3.out;have C3:=Hz (CK.out w3 n3.out)
     go_wp2_with fail
     refine C3.out.mono ?_;rintro e w4 ⟨rfl,b4⟩;have n4:=Hz (New.trans n3.out b4);clear x0 x1 x2 C3 CK n3 b4;obtain⟨x0,x1,x2⟩:=F.out w4 n4.out;obtain⟨y0,y1,y2⟩:=G.out w4 n4.out;have L4:=Hz (LK.out w4 n4.out)
     go_wp2_with fail
     refine L4.out.mono ?_;rintro e w5 ⟨rfl,b5⟩;have n5:=Hz (New.trans n4.out b5)
     go_wp2_with fail
     go_ret
     exact⟨rfl,New.trans b1.out n5.out⟩
   ·have hO:=HO.out
    rw[if_pos k1] at hO;rw[hO] at WR;generalize zdz L r D=K1 at*;have q2:(K1==0)=false:=beq_eq_false_iff_ne.2 k1
    have q3:(K1 != 0)=true:=by simpa using k1
    have WR:=Hz WR;have CK:=Hz CK;clear HO HB hO hbb LK
    go_wp2_with fail
    refine WR.out.mono ?_;rintro e w3 ⟨A3,m3,c3,rfl,o3,b3⟩
    obtain rfl:m3=0:=by have:=o3.len;rwa[zaa] at this
    have n3:=Hz (New.trans n2.out b3);clear x0 x1 x2 y0 y1 y2 WR n2 b3 o3;obtain⟨x0,x1,x2⟩:=F.out w3 n3.out;have C3:=Hz (CK.out w3 n3.out)
    go_wp2_with fail
    refine C3.out.mono ?_;rintro e w4 ⟨rfl,b4⟩;have n4:=Hz (New.trans n3.out b4);clear x0 x1 x2 C3 CK n3 b4
    go_wp2_with fail
    go_ret
    exact⟨rfl,New.trans b1.out n4.out⟩
set_option maxRecDepth 100000 in
open Go.WideShapes Go.ChangeShapes in
theorem zl3{H:Type}{enc:TypeId × Value→H}(W:World)(base:Nat)(args:Array Value)(ds:List (DataW H))(ps:List MemPlace)
 (hval:∀(j:Nat) t v,Tryz.f5.params[j]? =some t→args[j]? =some v→Value.okWide Tryz.prog W .any base t v)
 (hA:DataW.TrodAll enc Tryz.prog W 0 (fun _=>true) true Tryz.f5.params.toList args.toList ds ps)(hlt:∀p∈ps,p.block<W.heap.size)
 (hsz:(DataW.weightsEach Tryz.prog Tryz.f5.params.toList ds).all (· ≤reachBytes)=true):
 Calls Tryz.prog 5 args W fun e W'=>e= .returned (.bool true)∧Below W.heap.size W W':=by
 rw[Tryz.params5] at hA hval hsz;obtain⟨v0,v1,d0,d1,p0,p1,rfl,rfl,rfl,h0,h1⟩:=trodAll_two hA;obtain⟨Ac,cc,L,r,Ad,cd,D,rfl,hT,_,hF⟩:=qgc (hval 0 _ _ rfl rfl) h0 (fun p hp=>hlt p (by simp[hp])) (zyz hsz (j:=0) rfl rfl);obtain⟨g,p,A,c,l,rfl,hc,hm,hr⟩:=qgn (hval 1 _ _ rfl rfl) h1 (fun p hp=>hlt p (by simp[hp])) (zyz hsz (j:=1) rfl rfl);exact zto hT hF hr (by omega)
end Go.Proofs.YtmgfkpnghlmheaaGreat
