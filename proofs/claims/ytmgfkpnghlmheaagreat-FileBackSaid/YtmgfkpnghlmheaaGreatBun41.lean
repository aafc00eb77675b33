/- Texts merged and made short: FilO, FilB, WrtM, TabP, FilS, FilP. -/
import Derived.Test.YtmgfkpnghlmheaaGreatBun1
import Derived.Test.YtmgfkpnghlmheaaGreatBun14
import Derived.Test.YtmgfkpnghlmheaaGreatBun16
import Derived.Test.YtmgfkpnghlmheaaGreatBun21
import Derived.Test.YtmgfkpnghlmheaaGreatBun22
import Derived.Test.YtmgfkpnghlmheaaGreatBun24
import Derived.Test.YtmgfkpnghlmheaaGreatBun25
import Derived.Test.YtmgfkpnghlmheaaGreatBun26
import Derived.Test.YtmgfkpnghlmheaaGreatBun27
import Derived.Test.YtmgfkpnghlmheaaGreatBun28
import Derived.Test.YtmgfkpnghlmheaaGreatBun30
import Derived.Test.YtmgfkpnghlmheaaGreatBun36
import Derived.Test.YtmgfkpnghlmheaaGreatBun37
import Derived.Test.YtmgfkpnghlmheaaGreatBun40
import Derived.Test.YtmgfkpnghlmheaaGreatBun6
import Derived.Test.YtmgfkpnghlmheaaGreatBun7
set_option maxHeartbeats 8000000
namespace Go.Proofs.YtmgfkpnghlmheaaGreat
open Go.RowKit Go.Hm
noncomputable def openO(b:List Nat):Option (FootS × List Nat):=
 match zon b with
 |none=>none
 |some s=>match zoy (fun r=>r) s with
  |none=>none
  |some F=>if zed F (F.groups.length:Int) 0 0=(b.length:Int)-12-(s.length:Int) then some (F,s) else none
theorem qdz{b s:List Nat}(h8:∀x∈b,x<256)(h:zon b=some s):∀x∈s,x<256:=by
 unfold zon at h;split at h
 ·cases h
 ·split at h
  ·cases h
  ·injection h with h
   subst h
   exact fun x hx=>h8 x (List.mem_of_mem_drop (List.mem_of_mem_take hx))
theorem zoz{b:List Nat}(h8:∀x∈b,x<256)(hb:b.length≤140737488351232):IsFoot b (zoy (fun r=>r) b):=
 qbv (k:=fun r=>r) (fun _ _ h=>⟨Int.le_refl _,h⟩) h8 hb
theorem qbw(n:Nat):z6r n (n:Int) 0 0=true:=by unfold z6r;simp
theorem zrd{F:FootS}(h:zbp F):zed F (F.groups.length:Int) 0 0=(szG F.groups:Int):=by
 unfold zed
 have e:zds F=true:=by unfold zds;simpa using h
 rw[e,qbw,if_pos (by simp)];exact z2f h
def zfy(body own:List Nat):List Nat:=headL_film++(body++(own++(low own.length 4++tailL)))
theorem zkx(body own:List Nat):(zfy body own).length=body.length+own.length+12:=by
 simp[zfy,headL_film,tailL,zbh];omega
theorem z62{body own:List Nat}(ho:own.length<4294967296):zon (zfy body own)=some own:=by
 have hl:=zkx body own
 have e1:zfy body own=(headL_film++(body++own))++(low own.length 4++tailL):=by simp[zfy]
 have e2:zfy body own=(headL_film++(body++(own++low own.length 4)))++tailL:=by simp[zfy]
 have e3:zfy body own=(headL_film++body)++(own++(low own.length 4++tailL)):=by simp[zfy]
 have l1:headL_film.length=4:=rfl;have l2:tailL.length=4:=rfl
 have hN:ownN (zfy body own)=own.length:=by
  unfold ownN;rw[hl]
  conv=>lhs;rw[e1]
  rw[List.drop_left' (by simp only[List.length_append];omega),List.take_left' (zbh _ 4),zj7 (by omega)]
 unfold zon;rw[hN,hl,if_neg,if_neg (by omega)]
 ·congr 1
  conv=>lhs;rw[e3]
  rw[List.drop_left' (by simp only[List.length_append];omega),List.take_left' rfl]
 ·rintro(q|q|q)
  ·omega
  ·exact q (by unfold zfy;rw[List.take_left' l1])
  ·refine q ?_
   conv=>lhs;rw[e2]
   rw[List.drop_left' (by simp only[List.length_append,zbh];omega)]
theorem z2k{F:FootS}{body:List Nat}(h:zbp F)(hd:zgl F)(hs:body.length=szG F.groups)(h8:∀x∈zd9 F,x<256)(ho:(zd9 F).length<4294967296):
 openO (zfy body (zd9 F))=some (F,zd9 F):=by
 unfold openO;rw[z62 ho];dsimp only;rw[(zoz h8 (by omega)).compl F h hd rfl];dsimp only;rw[zrd h,zkx,if_pos (by omega)]
theorem zs4{b:List Nat}{F:FootS}{s:List Nat}(h8:∀x∈b,x<256)(hb:b.length≤140737488351232)(h:openO b=some (F,s)):
 zbp F∧zgl F∧zd9 F=s∧b=zfy ((b.drop 4).take (szG F.groups)) s∧szG F.groups+s.length+12=b.length∧s.length<4294967296∧∀x∈s,x<256:=by
 unfold openO at h
 cases ho:zon b with
 |none=>rw[ho] at h;cases h
 |some s'=>
  rw[ho] at h;dsimp only at h
  cases hf:zoy (fun r=>r) s' with
  |none=>rw[hf] at h;cases h
  |some F'=>
   rw[hf] at h;dsimp only at h;split at h
   ·rename_i hp
    injection h with h;injection h with h1 h2;subst h1 h2;have hs8:=qdz h8 ho;obtain⟨hl1,hl2⟩:=zzv ho;obtain⟨a1,a2,a3⟩:=(zoz hs8 (by omega)).sound _ hf;rw[zrd a1] at hp
    have hsz:szG F'.groups+s'.length+12=b.length:=by omega
    have h4:((b.drop (b.length-8)).take 4).length=4:=by rw[List.length_take,List.length_drop];omega
    have h48:∀x∈(b.drop (b.length-8)).take 4,x<256:=fun x hx=>h8 x (List.mem_of_mem_drop (List.mem_of_mem_take hx))
    have hlow:low s'.length 4=(b.drop (b.length-8)).take 4:=by
     have:=zr1 _ h48;rw[h4] at this;rw[hl1];exact this
    have hNlt:s'.length<4294967296:=by
     have:=zqb _ h48;rw[h4] at this;have e:ownN b=num ((b.drop (b.length-8)).take 4):=rfl;omega
    refine⟨a1,a2,a3,?_,hsz,hNlt,hs8⟩;unfold zon at ho;split at ho
    ·cases ho
    ·rename_i hc
     split at ho
     ·cases ho
     ·injection ho with ho
      rw[not_or,not_or,Decidable.not_not,Decidable.not_not] at hc;obtain⟨c1,c2,c3⟩:=hc;rw[←hl1] at ho;unfold zfy;rw[hlow,←c2,←c3]
      conv=>rhs;rw[←ho]
      have q1:b.length-8-s'.length=4+szG F'.groups:=by omega
      have q2:b.length-8=4+szG F'.groups+s'.length:=by omega
      have q3:b.length-4=4+szG F'.groups+s'.length+4:=by omega
      rw[q1,q2,q3]
      have w1:b.drop (4+szG F'.groups)=(b.drop 4).drop (szG F'.groups):=by rw[List.drop_drop]
      have w2:b.drop (4+szG F'.groups+s'.length)=((b.drop 4).drop (szG F'.groups)).drop s'.length:=by rw[List.drop_drop,List.drop_drop];congr 1;omega
      have w3:b.drop (4+szG F'.groups+s'.length+4)=(((b.drop 4).drop (szG F'.groups)).drop s'.length).drop 4:=by rw[List.drop_drop,List.drop_drop,List.drop_drop];congr 1;omega
      rw[w3,w2,w1]
      have hd1:∀l:List Nat,∀n,l=l.take n++l.drop n:=fun l n=>(List.take_append_drop n l).symm
      have e1:=hd1 b 4;have e2:=hd1 (b.drop 4) (szG F'.groups);have e3:=hd1 ((b.drop 4).drop (szG F'.groups)) s'.length;have e4:=hd1 (((b.drop 4).drop (szG F'.groups)).drop s'.length) 4;rw[←e4,←e3,←e2,←e1]
   ·cases h
open Go.RowKit Go.Hm
def zz3(b:List Nat)(w:World)(e:Ending)(w':World):Prop:=
 New w w'∧match openO b with
 |none=>e= .returned (.tuple #[.agg #[.slice none 0 0,.int .i64 0,.slice none 0 0],.slice none 0 0,.int .i64 2])
 |some x=>∃Ac cc L r Ag cg G A n c,e= .returned (.tuple #[ziq Ac cc L r Ag cg G,.slice A n c,.int .i64 0])∧za9 L r G=x.1∧FootIn w' Ac cc L Ag G∧G.length≤cg∧Go.Hm.Own w' w.heap.size 5 (.slice A n c) (za3 .u8 x.2)
theorem zo5{L:List za0}{r:Int}{G:List GrD}(h:zgl (za9 L r G)):∀g∈G,∀x∈g.2.2.2,∀p∈x.2.2,zdk p.2.2:=fun g hg x hx p hp=>
 (h.2 (grP g) (List.mem_map.2 ⟨g,hg,rfl⟩) x.2.2 (List.mem_map.2 ⟨x,hx,rfl⟩) p hp).fine
theorem wrS{x:Int}(h: -9223372036854775808≤x∧x≤9223372036854775807):wrap64 x=x:=by unfold wrap64;omega
set_option maxRecDepth 100000 in
theorem zz4{w:World}{A:Option Addr}{c:Nat}{b:List Nat}(h:Reads w w.heap.size 1 A b.length (za3 .u8 b))(h8:∀x∈b,x<256)(hb:b.length≤140737488351232)(hc:b.length≤c)(hc2:c≤9223372036854775807):
 Calls Tryz.prog 13 #[.slice A b.length c] w (zz3 b w):=by
 obtain⟨W,hW⟩:∃W,W=w.alloc (.cells #[.slice none 0 0,.int .i64 0,.slice none 0 0] 38):=⟨_,rfl⟩
 have n1:New w W:=by rw[hW];exact(Below.refl _ _).alloc (Nat.le_refl _) _
 have BZ:Blk W w.heap.size 38 #[.slice none 0 0,.int .i64 0,.slice none 0 0]:=by rw[hW];exact Blk.new _ _ _
 have O:=Hz (zu1 (c:=c) (Reads.later h n1) h8 hb hc hc2);rw[hW] at O;have N1:=Hz n1;have HZ:=Hz BZ;have H8:=Hz (fun s hs=>qdz h8 (s:=s) hs);have HL:=Hz (fun s hs=>zzv (b:=b) (s:=s) hs)
 have HO:Hid (openO b=match zon b with
  |none=>none
  |some s=>match zoy (fun r=>r) s with
   |none=>none
   |some F=>if zed F (F.groups.length:Int) 0 0=(b.length:Int)-12-(s.length:Int) then some (F,s) else none):=Hz rfl
 have HW:=Hz hW;unfold zz3;generalize openO b=X at*;clear h h8 n1 BZ hW
 go_enter Tryz.func13,Tryz.ntmps13
 go_wp2_with fail
 refine O.out.mono ?_;rintro e W1 ⟨b1,hpost⟩;rw[←HW.out] at b1;have BZ1:=HZ.out.below b1 HZ.out.lt;clear O
 cases hs:zon b with
 |none=>
  rw[hs] at hpost;obtain rfl:=hpost
  have hx:X=none:=by rw[HO.out,hs]
  subst hx;clear hs
  go_wp2_with (refine zah rfl 38 (.tmp 2) (.tmp 15) rfl w.heap.size _ rfl rfl BZ1 (by kernel_rfl) rfl (by simp[Value.oneCell']) ?_
               intro W2 BR G2
               obtain⟨r0,r1,r2⟩:=zaf BR)
  exact bodyPost_ret (v:= .tuple #[.agg #[.slice none 0 0,.int .i64 0,.slice none 0 0],.slice none 0 0,.int .i64 2]) (by simp[results,Tryz.results13,go_sem,r0,r1,r2]) rfl ⟨zaw (New.trans N1.out b1) G2 (Nat.le_refl _) (Nat.le_refl _),rfl⟩
 |some s=>
  rw[hs] at hpost;obtain⟨A1,c1,rfl,R1,hc1,hc12⟩:=hpost;obtain⟨hl1,hl2⟩:=HL.out s hs
  have hsl:s.length+12≤b.length:=by omega
  have hb1:=b1.size;have D:=Hz (zvl (c:=c1) (R1.more (by have:=b1.size;rw[HW.out] at this;exact this)) (H8.out s hs) (by omega));have IF:=Hz (zoz (H8.out s hs) (by omega));have hx:=HO.out;rw[hs] at hx;have HX:=Hz hx;have RS:=Hz R1;have HSL:=Hz hsl;have HB:=Hz hb;clear hx hs HO R1 hl1 hl2 hsl hb1 hb hc hc1 hc2 hc12 HL H8
  go_wp2_with fail
  refine D.out.mono ?_;intro e W2 hq;clear D
  cases hF:zoy (fun r=>r) s with
  |none=>
   rw[hF] at hq;obtain⟨rfl,b2⟩:=hq
   have hx:X=none:=by rw[HX.out,hF]
   subst hx;have BZ2:=(BZ1.below b2 BZ1.lt);clear hF BZ1
   go_upto_region 5 with(refine zah rfl 38 (.tmp 7) (.tmp 19) rfl W2.heap.size _ rfl rfl (Blk.new W2 38 #[.slice none 0 0,.int .i64 0,.slice none 0 0]) (by kernel_rfl) rfl (by simp[Value.oneCell']) ?_
                         intro W3 BF G3;have b3:New W2 W3:=zaw ((Below.refl _ _).alloc (Nat.le_refl _) _) G3 (Nat.le_refl _) (Nat.le_refl _);have BZ3:=BZ2.below b3 BZ2.lt
                         clear BF G3 BZ2)
   go_upto_region 6 with fail
   go_wp2_with (refine zah rfl 38 (.tmp 2) (.tmp 37) rfl w.heap.size _ rfl rfl BZ3 (by kernel_rfl) rfl (by simp[Value.oneCell']) ?_
                intro W4 BR G4
                obtain⟨r0,r1,r2⟩:=zaf BR)
   exact bodyPost_ret (v:= .tuple #[.agg #[.slice none 0 0,.int .i64 0,.slice none 0 0],.slice none 0 0,.int .i64 2]) (by simp[results,Tryz.results13,go_sem,r0,r1,r2]) rfl ⟨zaw (New.trans N1.out (New.trans b1 (New.trans b2 b3))) G4 (Nat.le_refl _) (Nat.le_refl _),rfl⟩
  |some F=>
   rw[hF] at hq;obtain⟨Ac,cc,L,r,Ag,cg,G,rfl,hFP,⟨FX,hcg⟩,b2⟩:=hq;obtain⟨f1,f2,f3⟩:=IF.out.sound F hF;rw[←hFP] at f1 f2 f3;have hx:=HX.out;rw[hF,←hFP] at hx
   have hgl:(za9 L r G).groups.length=G.length:=by unfold za9;simp
   dsimp only at hx;rw[hgl] at hx;have FI:=FX 0 W2 (Nat.zero_le _) (World.grownBy.refl W2 _)
   have PL:=fun(W:World) (hW:New W2 W)=>zu9 (r:=r) (cc:=cc) (cg:=cg) (g:=(G.length:Int)) (c:=0) (p:=0) (FI.later hW) (zo5 f2)
   generalize zed (za9 L r G) (G.length:Int) 0 0=V at*;unfold ziq at PL⊢;replace PL:=Hz PL;have BZ2:=(BZ1.below b2 BZ1.lt);have HFX:=Hz FX;have RS2:=Hz (fun(W:World) (hW:New W2 W)=>zgs (c:=c1) (Reads.later ((RS.out.more (by have:=b1.size;rw[HW.out] at this;exact this)).later b2) hW) (by have:=HSL.out;have:=HB.out;omega));have hz12:=b1.size;have hz22:=b2.size;replace hx:=Hz hx;clear hF BZ1 HX IF f1 f3 f2 hgl hFP FX FI
   go_upto_region 5 with(refine zah rfl 38 (.tmp 7) (.tmp 19) rfl W2.heap.size _ rfl rfl (Blk.new W2 38 #[.slice none 0 0,.int .i64 0,.slice none 0 0]) (by kernel_rfl) rfl (by simp[Value.oneCell']) ?_
                         intro W3 BF G3;have b3:New W2 W3:=zaw ((Below.refl _ _).alloc (Nat.le_refl _) _) G3 (Nat.le_refl _) (Nat.le_refl _);have BZ3:=BZ2.below b3 BZ2.lt;obtain⟨x0,x1,x2⟩:=zaf BF
                         clear G3 BZ2)
   go_wp2_with fail
   refine(PL.out W3 b3).mono ?_;rintro e W4 ⟨rfl,b4⟩;clear PL x0 x1 x2;have b24:=New.trans b3 b4;have BZ4:=BZ3.below b4 BZ3.lt;have BF4:=BF.below b4 BF.lt
   obtain⟨i1,i2⟩:wrap64 ((b.length:Int)-12)=(b.length:Int)-12∧wrap64 ((b.length:Int)-12-(s.length:Int))=(b.length:Int)-12-(s.length:Int):=by
    have:=HSL.out;have:=HB.out;exact⟨wrS (by omega),wrS (by omega)⟩
   clear BZ3 BF b3 b4;by_cases hv:V=(b.length:Int)-12-(s.length:Int)
   ·have hX:X=some (za9 L r G,s):=by rw[hx.out,if_pos hv]
    have q:(V != (b.length:Int)-12-(s.length:Int))=false:=by simpa using hv
    clear hv hx;subst hX
    go_wp2_with fail
    refine zdu New 3 [(0,0),(1,1),(2,2),(2,3),(1,4),(1,5)] New.refl New.trans (by kernel_rfl) (by kernel_rfl) (by kernel_rfl) (by kernel_rfl) ?_;have F:=Hz (fun(W:World) (hW:New W4.drew W)=>BF4.below (New.trans (New.drew _) hW) BF4.lt);refine zd4 rfl rfl (v:=?_) (fun W hW=>?_) ?_;rotate_left;(obtain⟨x0,x1,x2⟩:=zaf (F.out W hW);go_simp<;> with_reducible rfl);simp only[Act.put,List.setIfInBounds_toArray,List.set_cons_zero,List.set_cons_succ];refine zct rfl rfl (v:=?_) (fun W=>?_) ?_;rotate_left;(go_simp<;> with_reducible rfl);simp only[Act.put,List.setIfInBounds_toArray,List.set_cons_zero,List.set_cons_succ];refine zbk rfl rfl (fun K hK=>?_)
    go_simp
    refine(RS2.out W4.drew (New.trans b24 (New.drew _))).mono ?_;rintro e W5 ⟨A5,n5,c5,rfl,o5,b5⟩;refine hK _ _ (.inr (.inr b5)) ?_;clear hK;have BZ5:=BZ4.below (New.trans (New.drew _) b5) BZ4.lt;refine zbk rfl rfl (fun K hK=>?_);refine zd5 38 (.tmp 2) (.tmp 38) rfl w.heap.size _ rfl rfl BZ5 (by kernel_rfl) (by simp) (by simp[Value.oneCell']) ?_;intro W6 BR G6;refine hK _ _ (.inr (.inl rfl)) ?_;clear hK BZ5 F;refine zct rfl rfl (v:=?_) (fun W=>?_) ?_;rotate_left;(go_simp<;> with_reducible rfl);simp only[Act.put,List.setIfInBounds_toArray,List.set_cons_zero,List.set_cons_succ];refine zct rfl rfl (v:=?_) (fun W=>?_) ?_;rotate_left;(go_simp<;> with_reducible rfl);simp only[Act.put,List.setIfInBounds_toArray,List.set_cons_zero,List.set_cons_succ];refine zhw ?_
    go_wp2_with fail
    obtain⟨r0,r1,r2⟩:=zaf BR;have b25:=New.trans b24 (New.trans (New.drew _) b5);have hz5:=b25.size
    have hbase:w.heap.size<W4.heap.size:=by have:=HZ.out.lt;have:=b1.size;have:=b24.size;omega
    have o5:Go.Hm.Own W5 W4.heap.size 5 (.slice A5 n5 c5) (za3 .u8 s):=o5;refine bodyPost_ret (v:= .tuple #[.agg #[.slice Ac L.length cc,.int .i64 r,.slice Ag G.length cg],.slice A5 n5 c5,.int .i64 0]) (by simp[results,Tryz.results13,go_sem,r0,r1,r2]) rfl ⟨zaw (New.trans N1.out (New.trans b1 (New.trans b2 b25))) G6 (Nat.le_refl _) (Nat.le_refl _),?_⟩;exact⟨Ac,cc,L,r,Ag,cg,G,A5,n5,c5,rfl,rfl,HFX.out w.heap.size W6 (by have:=HZ.out.lt;have:=b1.size;omega) ((Far.of_new b25).trans G6),hcg,(o5.kept G6 (.inr (fun e=>by have:=(o5.lt _ e).1;omega))).base_le (by omega)⟩
   ·have hX:X=none:=by rw[hx.out,if_neg hv]
    have q:(V != (b.length:Int)-12-(s.length:Int))=true:=by simpa using hv
    clear hv hx HFX RS2 BF4;subst hX
    go_wp2_with (refine zah rfl 38 (.tmp 2) (.tmp 37) rfl w.heap.size _ rfl rfl BZ4 (by kernel_rfl) rfl (by simp[Value.oneCell']) ?_
                 intro W5 BR G5
                 obtain⟨r0,r1,r2⟩:=zaf BR)
    exact bodyPost_ret (v:= .tuple #[.agg #[.slice none 0 0,.int .i64 0,.slice none 0 0],.slice none 0 0,.int .i64 2]) (by simp[results,Tryz.results13,go_sem,r0,r1,r2]) rfl ⟨zaw (New.trans N1.out (New.trans b1 (New.trans b2 b24))) G5 (Nat.le_refl _) (Nat.le_refl _),rfl⟩
open Go.RowKit Go.Hm
def zly(t:Int)(l:List zab):zc9:=l.foldl (fun s c=>zmd t s (zjx c)) zbw
theorem z0d{t:Int}:∀(l a:List zab) {s:zc9},IsStat t a s→IsStat t (a++l) (l.foldl (fun s c=>zmd t s (zjx c)) s)
 | [],a,s,h=>by simpa using h
 |c::l,a,s,h=>by
  have:=z0d l (a++[c]) (h.merge (zqr t c));simpa using this
theorem zk0(t:Int)(l:List zab):IsStat t l (zly t l):=z0d l [] (zqq t)
def zao(D:List (List zab))(c:Nat)(s:Int × Int):List zab:=((D.getD c []).drop s.1.toNat).take (s.2-s.1).toNat
def zf0(L:List za0)(E:List Int)(D:List (List zab))(c:Nat)(s:Int × Int):Int × List Nat:=pgE (L.getD c zdj).2.1 (L.getD c zdj).2.2 (E.getD c 0) (zao D c s)
def zbt(L:List za0)(E:List Int)(D:List (List zab))(c:Nat)(s:Int × Int):zax:=(((zf0 L E D c s).2.length:Int),((zao D c s).length:Int),zly (L.getD c zdj).2.1 (zao D c s))
abbrev WSt:=Option (List (List Nat) × Int)
def pgW(L:List za0)(E:List Int)(D:List (List zab))(c:Nat)(S:WSt)(s:Int × Int):WSt:=
 match S with
 |none=>none
 |some x=>if(zf0 L E D c s).1=0∧(zf0 L E D c s).2.length≤268435456∧x.2+(zf0 L E D c s).2.length≤1073741824 then some (x.1++[(zf0 L E D c s).2],x.2+(zf0 L E D c s).2.length) else none
def chW(L:List za0)(E:List Int)(D:List (List zab))(c:Nat)(S:WSt)(l:List (Int × Int)):WSt:=l.foldl (pgW L E D c) S
def gpW(L:List za0)(E:List Int)(D:List (List zab))(pr:Int)(s:Int × Int)(S:WSt):Nat→WSt
 |0=>S
 |k+1=>chW L E D k (gpW L E D pr s S k) (zbq s.1 s.2 pr)
def grW(L:List za0)(E:List Int)(D:List (List zab))(pr:Int)(S:WSt)(s:Int × Int):WSt:=gpW L E D pr s S L.length
def z0e(L:List za0)(E:List Int)(D:List (List zab))(pr:Int)(l:List (Int × Int)):WSt:=l.foldl (grW L E D pr) (some ([],0))
def zbz(L:List za0)(E:List Int)(D:List (List zab))(pr:Int)(s:Int × Int):za4:=(s.2-s.1,(List.range L.length).map fun c=>(zbq s.1 s.2 pr).map (zbt L E D c))
def zbu(L:List za0)(r:Int)(E:List Int)(D:List (List zab))(gr pr:Int):FootS:=⟨L,r,(zbq 0 r gr).map (zbz L E D pr)⟩
noncomputable def writeO(L:List za0)(r:Int)(D:List zdo)(gr pr:Int)(E:List Int):Int × List Nat:=
 if zdz L r D≠0 then(zdz L r D,[])
 else if zcn gr pr E L≠0 then(zcn gr pr E L,[])
 else match z0e L E (D.map (·.2.2)) pr (zbq 0 r gr) with
  |none=>(4,[])
  |some x=>match zp3 (zbu L r E (D.map (·.2.2)) gr pr) with
   |none=>(4,[])
   |some own=>if 1073741824<own.length then(4,[]) else(0,zfy x.1.flatten own)
theorem qcn{L:List za0}{E:List Int}{D:List (List zab)}{c:Nat}(s:Int × Int):pgW L E D c none s=none:=rfl
theorem zja{L:List za0}{E:List Int}{D:List (List zab)}{c:Nat}:∀l,chW L E D c none l=none
 | []=>rfl
 |s::l=>by
  show chW L E D c (pgW L E D c none s) l=none;rw[qcn,zja l]
theorem z0f{L:List za0}{E:List Int}{D:List (List zab)}{pr:Int}{s:Int × Int}:∀k,gpW L E D pr s none k=none
 |0=>rfl
 |k+1=>by rw[gpW,z0f k,zja]
theorem zpg{L:List za0}{E:List Int}{D:List (List zab)}{pr:Int}:∀l:List (Int × Int),l.foldl (grW L E D pr) none=none
 | []=>rfl
 |s::l=>by
  show l.foldl (grW L E D pr) (gpW L E D pr s none L.length)=none;rw[z0f,zpg l]
theorem qco{L:List za0}{E:List Int}{D:List (List zab)}{c:Nat}{S:WSt}{l:List (Int × Int)}{k:Nat}(hk:k<l.length):chW L E D c S (l.take (k+1))=pgW L E D c (chW L E D c S (l.take k)) (l.getD k (0,0)):=by
 rw[zad _ k (0,0) hk];unfold chW;rw[List.foldl_append];rfl
theorem z7x{L:List za0}{E:List Int}{D:List (List zab)}{c:Nat}{S:WSt}{l:List (Int × Int)}(k:Nat)(h:chW L E D c S (l.take k)=none):chW L E D c S l=none:=by
 have e:chW L E D c S l=chW L E D c (chW L E D c S (l.take k)) (l.drop k):=by
  unfold chW;rw[←List.foldl_append,List.take_append_drop]
 rw[e,h,zja]
theorem zvy{L:List za0}{E:List Int}{D:List (List zab)}{pr:Int}{s:Int × Int}{S:WSt}{k:Nat}(h:gpW L E D pr s S k=none):∀n,k≤n→gpW L E D pr s S n=none
 |0,hn=>by
  obtain rfl:k=0:=by omega
  exact h
 |n+1,hn=>by
  rcases Nat.lt_or_ge n k with hlt|hge
  ·obtain rfl:k=n+1:=by omega
   exact h
  ·rw[gpW,zvy h n hge,zja]
theorem z7y{L:List za0}{E:List Int}{D:List (List zab)}{pr:Int}{l:List (Int × Int)}{k:Nat}(hk:k<l.length):z0e L E D pr (l.take (k+1))=grW L E D pr (z0e L E D pr (l.take k)) (l.getD k (0,0)):=by
 rw[zad _ k (0,0) hk];unfold z0e;rw[List.foldl_append];rfl
theorem z22{L:List za0}{E:List Int}{D:List (List zab)}{pr:Int}{l:List (Int × Int)}(k:Nat)(h:z0e L E D pr (l.take k)=none):z0e L E D pr l=none:=by
 have e:z0e L E D pr l=(l.drop k).foldl (grW L E D pr) (z0e L E D pr (l.take k)):=by
  unfold z0e;rw[←List.foldl_append,List.take_append_drop]
 rw[e,h,zpg]
def OkW(S:WSt):Prop:=∀x,S=some x→x.2=(x.1.flatten.length:Int)∧x.2≤1073741824∧(x.1.length:Int)≤x.2
theorem qho{L:List za0}{E:List Int}{D:List (List zab)}{c:Nat}{S:WSt}{s:Int × Int}(h:OkW S):OkW (pgW L E D c S s):=by
 cases S with
 |none=>intro x hx;cases hx
 |some y=>
  intro x hx;obtain⟨h1,h2,h3⟩:=h y rfl;unfold pgW at hx;dsimp only at hx;split at hx
  ·rename_i hc
   injection hx with hx;subst hx
   have hne:1≤(zf0 L E D c s).2.length:=by
    obtain⟨_,_,_,_,d,_,hb⟩:=zin (show pgE _ _ _ _=(0,(zf0 L E D c s).2) from Prod.ext hc.1 rfl);rw[hb,List.length_cons];omega
   refine⟨?_,hc.2.2,?_⟩
   ·dsimp only
    rw[List.flatten_append,List.length_append,List.flatten_cons,List.flatten_nil,List.append_nil,h1];omega
   ·dsimp only
    rw[List.length_append,List.length_singleton];omega
  ·cases hx
theorem z7z{L:List za0}{E:List Int}{D:List (List zab)}{c:Nat}:∀(l:List (Int × Int)) {S:WSt},OkW S→OkW (chW L E D c S l)
 | [],_,h=>h
 |s::l,S,h=>z7z l (S:=pgW L E D c S s) (qho h)
theorem z70{L:List za0}{E:List Int}{D:List (List zab)}{pr:Int}{s:Int × Int}{S:WSt}(h:OkW S):∀k,OkW (gpW L E D pr s S k)
 |0=>h
 |k+1=>z7z _ (z70 h k)
theorem zx7{L:List za0}{E:List Int}{D:List (List zab)}{pr:Int}(l:List (Int × Int)):OkW (z0e L E D pr l):=by
 have:∀(l:List (Int × Int)) {S:WSt},OkW S→OkW (l.foldl (grW L E D pr) S):=by
  intro l
  induction l with
  |nil=>intro S h;exact h
  |cons s l ih=>intro S h;exact ih (S:=grW L E D pr S s) (z70 h _)
 exact this l (fun x hx=>by injection hx with hx;subst hx;simp)
open Go.RowKit Go.Hm
theorem SheOk.uniq{t:Int}{nu:Bool}{p:zax}{b:List Nat}{l m:List zab}(h:SheOk t nu p b l)(k:SheOk t nu p b m):l=m:=by
 have:=h.1.uniq k.1;injection this
open Classical in
noncomputable def qcq(t:Int)(nu:Bool)(p:zax)(b:List Nat):Option (List zab):=if h:∃l,SheOk t nu p b l then some h.choose else none
theorem z71{t:Int}{nu:Bool}{p:zax}{b:List Nat}{l:List zab}(h:SheOk t nu p b l):qcq t nu p b=some l:=by
 unfold qcq;have e:∃l,SheOk t nu p b l:=⟨l,h⟩;rw[dif_pos e,e.choose_spec.uniq h]
theorem qf9{t:Int}{nu:Bool}{p:zax}{b:List Nat}{l:List zab}(h:qcq t nu p b=some l):SheOk t nu p b l:=by
 unfold qcq at h;split at h
 ·rename_i e
  injection h with h;rw[←h];exact e.choose_spec
 ·cases h
theorem z72{t:Int}{nu:Bool}{p:zax}{b:List Nat}(h:∀l,¬SheOk t nu p b l):qcq t nu p b=none:=by
 unfold qcq;rw[dif_neg];rintro⟨l,hl⟩;exact h l hl
abbrev TSt:=Option (List (List zab) × List (List Nat))
noncomputable def pgT(c:za0)(j:Nat)(S:TSt)(p:zax):TSt:=
 match S with
 |none=>none
 |some (_,[])=>none
 |some (D,b::R)=>match qcq c.2.1 c.2.2 p b with
  |none=>none
  |some x=>some (D.set j (D.getD j []++x),R)
noncomputable def chT(c:za0)(j:Nat)(S:TSt)(l:List zax):TSt:=l.foldl (pgT c j) S
noncomputable def zqa(cols:List za0):Nat→List (List zax)→TSt→TSt
 |_,[],S=>S
 |j,l::C,S=>zqa cols (j+1) C (chT (cols.getD j zdj) j S l)
noncomputable def grT(cols:List za0)(S:TSt)(g:za4):TSt:=zqa cols 0 g.2 S
noncomputable def zwe(F:FootS)(P:List (List Nat))(k:Nat):TSt:=(F.groups.take k).foldl (grT F.cols) (some (List.replicate F.cols.length [],P))
noncomputable def qga(F:FootS)(P:List (List Nat)):Option (List (List zab)):=
 match zwe F P F.groups.length with
 |some (D,[])=>some D
 |_=>none
noncomputable def qd4(F:FootS)(P:List (List Nat)):Option (List (List zab)):=if zds F=true then qga F P else none
theorem z0h(c:za0)(j:Nat)(p:zax):pgT c j none p=none:=rfl
theorem zk1(c:za0)(j:Nat):∀l,chT c j none l=none
 | []=>rfl
 |p::l=>by
  show chT c j (pgT c j none p) l=none;rw[z0h,zk1 c j l]
theorem zph(cols:List za0):∀C j,zqa cols j C none=none
 | [],_=>rfl
 |l::C,j=>by
  show zqa cols (j+1) C (chT (cols.getD j zdj) j none l)=none;rw[zk1,zph cols C]
theorem z0i(cols:List za0):∀G:List za4,G.foldl (grT cols) none=none
 | []=>rfl
 |g::G=>by
  show G.foldl (grT cols) (zqa cols 0 g.2 none)=none;rw[zph,z0i cols G]
theorem qcr{c:za0}{j:Nat}{S:TSt}{l:List zax}{k:Nat}(hk:k<l.length):chT c j S (l.take (k+1))=pgT c j (chT c j S (l.take k)) (l.getD k zbs):=by
 rw[zad _ k zbs hk];unfold chT;rw[List.foldl_append];rfl
theorem z73(c:za0)(j:Nat)(S:TSt)(l:List zax)(k:Nat):chT c j S l=chT c j (chT c j S (l.take k)) (l.drop k):=by
 unfold chT;rw[←List.foldl_append,List.take_append_drop]
theorem zj4(cols:List za0):∀(A B:List (List zax)) (j:Nat) (S:TSt),zqa cols j (A++B) S=zqa cols (j+A.length) B (zqa cols j A S)
 | [],B,j,S=>rfl
 |l::A,B,j,S=>by
  simp only[List.cons_append,zqa,zj4 cols A B,List.length_cons];rw[show j+1+A.length=j+(A.length+1) by omega]
theorem zvz{cols:List za0}{C:List (List zax)}{S:TSt}{k:Nat}(hk:k<C.length):zqa cols 0 (C.take (k+1)) S=chT (cols.getD k zdj) k (zqa cols 0 (C.take k) S) (C.getD k []):=by
 rw[zad _ k [] hk,zj4,List.length_take,Nat.min_eq_left (Nat.le_of_lt hk),Nat.zero_add];rfl
theorem z23(cols:List za0)(C:List (List zax))(S:TSt)(k:Nat):zqa cols 0 C S=zqa cols (C.take k).length (C.drop k) (zqa cols 0 (C.take k) S):=by
 conv=>lhs;rw[←List.take_append_drop k C,zj4,Nat.zero_add]
theorem zv0{F:FootS}{P:List (List Nat)}{k:Nat}(hk:k<F.groups.length):zwe F P (k+1)=grT F.cols (zwe F P k) (F.groups.getD k zam):=by
 unfold zwe;rw[zad _ k zam hk,List.foldl_append];rfl
theorem z24(F:FootS)(P:List (List Nat))(k:Nat):zwe F P F.groups.length=(F.groups.drop k).foldl (grT F.cols) (zwe F P k):=by
 unfold zwe;rw[←List.foldl_append,List.take_length,List.take_append_drop]
theorem z74{F:FootS}{P:List (List Nat)}{k:Nat}(h:zwe F P k=none):qga F P=none:=by
 unfold qga;rw[z24 F P k,h,z0i]
theorem zrn{F:FootS}{P:List (List Nat)}{k j:Nat}(hk:k<F.groups.length)(h:zqa F.cols 0 ((F.groups.getD k zam).2.take j) (zwe F P k)=none):qga F P=none:=by
 refine z74 (k:=k+1) ?_;rw[zv0 hk];unfold grT;rw[z23 _ _ _ j,h,zph]
theorem z25{F:FootS}{P:List (List Nat)}{k j q:Nat}(hk:k<F.groups.length)(hj:j<(F.groups.getD k zam).2.length)(h:chT (F.cols.getD j zdj) j (zqa F.cols 0 ((F.groups.getD k zam).2.take j) (zwe F P k)) ((zaz F.groups k j).take q)=none):qga F P=none:=by
 refine zrn (j:=j+1) hk ?_;rw[zvz hj];show chT _ _ _ (zaz F.groups k j)=none;rw[z73 _ _ _ _ q,h,zk1]
theorem z75{c:za0}{j:Nat}:∀(l:List zax) {D D':List (List zab)} {P R:List (List Nat)},chT c j (some (D,P)) l=some (D',R)→D'.length=D.length∧P.length=R.length+l.length∧R=P.drop l.length
 | [],D,D',P,R,h=>by
   injection h with h;injection h with h1 h2;subst h1 h2;exact⟨rfl,rfl,rfl⟩
 |p::l,D,D',[],R,h=>by
  have e:chT c j (some (D,[])) (p::l)=chT c j none l:=rfl;rw[e,zk1] at h;cases h
 |p::l,D,D',b::P,R,h=>by
  have e:chT c j (some (D,b::P)) (p::l)=chT c j (pgT c j (some (D,b::P)) p) l:=rfl;rw[e] at h;unfold pgT at h
  cases hs:qcq c.2.1 c.2.2 p b with
  |none=>
   simp only[hs] at h;rw[zk1] at h;cases h
  |some x=>
   simp only[hs] at h;obtain⟨h1,h2,h3⟩:=z75 l h;rw[List.length_set] at h1;exact⟨h1,by simp only[List.length_cons];omega,by simpa using h3⟩
theorem z76{c:za0}{j:Nat}{l:List zax}{D:List (List zab)}{P:List (List Nat)}(h:P.length<l.length):chT c j (some (D,P)) l=none:=by
 cases he:chT c j (some (D,P)) l with
 |none=>rfl
 |some x=>
  obtain⟨D',R⟩:=x;have:=(z75 l he).2.1;omega
theorem zte{α:Type}{D:List α}{j:Nat}{d:α}(h:j<D.length):D.set j (D.getD j d)=D:=by
 rw[List.getD_eq_getElem?_getD,List.getElem?_eq_getElem h];exact List.set_getElem_self h
theorem qd5{c:za0}{j:Nat}{D:List (List zab)}{b:List Nat}{R:List (List Nat)}{p:zax}{x:List zab}(h:SheOk c.2.1 c.2.2 p b x):pgT c j (some (D,b::R)) p=some (D.set j (D.getD j []++x),R):=by
 unfold pgT;dsimp only;rw[z71 h]
theorem qhp{c:za0}{j:Nat}{D:List (List zab)}{b:List Nat}{R:List (List Nat)}{p:zax}(h:∀x,¬SheOk c.2.1 c.2.2 p b x):pgT c j (some (D,b::R)) p=none:=by
 unfold pgT;dsimp only;rw[z72 h]
theorem z77{t:Int}{nu:Bool}{p:zax}{b:List Nat}{l:List zab}(h:SheOk t nu p b l):l.length≤65536:=by
 obtain⟨⟨e,_,hB⟩,_⟩:=h.1.sound l rfl;exact(zin hB).2.1
def OkT(n N:Nat)(S:TSt):Prop:=∀D R,S=some (D,R)→D.length=n∧∀x∈D,x.length+65536*R.length≤65536*N
theorem qgb{n N:Nat}{c:za0}{j:Nat}{p:zax}:∀{S:TSt},OkT n N S→OkT n N (pgT c j S p)
 |none,_=>fun D R h=>by rw[z0h] at h;cases h
 |some (D,[]),_=>fun D' R h=>by cases h
 |some (D,b::P),hS=>fun D' R h=>by
  obtain⟨h1,h2⟩:=hS D (b::P) rfl
  cases hs:qcq c.2.1 c.2.2 p b with
  |none=>
   unfold pgT at h;simp only[hs] at h;cases h
  |some x=>
   have hx:=z77 (qf9 hs);unfold pgT at h;simp only[hs] at h;injection h with h;injection h with e1 e2;subst e1 e2;refine⟨by rw[List.length_set];exact h1,fun y hy=>?_⟩;simp only[List.length_cons] at h2;rcases List.mem_or_eq_of_mem_set hy with hy|rfl
   ·have:=h2 y hy
    omega
   ·rw[List.length_append]
    by_cases hj:j<D.length
    ·have:=h2 (D.getD j []) (by rw[List.getD_eq_getElem?_getD,List.getElem?_eq_getElem hj];exact List.getElem_mem hj)
     omega
    ·rw[List.set_eq_of_length_le (by omega)] at hy
     have:=h2 _ hy;rw[List.length_append] at this;omega
theorem zx8{n N:Nat}{c:za0}{j:Nat}:∀(l:List zax) {S:TSt},OkT n N S→OkT n N (chT c j S l)
 | [],_,h=>h
 |p::l,S,h=>zx8 l (S:=pgT c j S p) (qgb h)
theorem ztf{n N:Nat}{cols:List za0}:∀(C:List (List zax)) (j:Nat) {S:TSt},OkT n N S→OkT n N (zqa cols j C S)
 | [],_,_,h=>h
 |l::C,j,_,h=>ztf C (j+1) (zx8 l h)
theorem z78{n N:Nat}{cols:List za0}:∀(G:List za4) {S:TSt},OkT n N S→OkT n N (G.foldl (grT cols) S)
 | [],_,h=>h
 |g::G,S,h=>z78 G (S:=grT cols S g) (ztf g.2 0 h)
theorem qcs(F:FootS)(P:List (List Nat))(k:Nat):OkT F.cols.length P.length (zwe F P k):=
 z78 _ (fun D R h=>by
  injection h with h;injection h with e1 e2;subst e1 e2;refine⟨by rw[List.length_replicate],fun x hx=>?_⟩;rw[List.eq_of_mem_replicate hx]
  simp)
theorem z0j{F:FootS}{P:List (List Nat)}{D:List (List zab)}{R:List (List Nat)}(h:zwe F P F.groups.length=some (D,R)):qga F P=if R=[] then some D else none:=by
 unfold qga;rw[h]
 cases R with
 |nil=>simp
 |cons x R=>simp
end Go.Proofs.YtmgfkpnghlmheaaGreat
namespace Go.Hm
open Go Go.RowKit
abbrev dZ:zdo:=(none,0,[])
def zm1(d:zdo):Value:= .slice d.1 d.2.2.length d.2.1
theorem zpl{α:Type}{f:α→List Value}(hf:∀x,(f x).length=1):∀(X:List α) (x:α) (k:Nat) {v:Value},f x=[v]→(recs f X).toArray.setIfInBounds k v=(recs f (X.set k x)).toArray
 | [],x,k,v,hv=>by simp[recs]
 |y::X,x,0,v,hv=>by
  have h1:=hf y
  match hy:f y,h1 with
  | [a],_=>simp[recs,hy,hv]
 |y::X,x,k+1,v,hv=>by
  have h1:=hf y;have h2:=zpl hf X x k hv
  match hy:f y,h1 with
  | [a],_=>
    have e:∀Z:List α,recs f (y::Z)=a::recs f Z:=fun Z=>by simp[recs,hy]
    rw[List.set_cons_succ,e,e];rw[List.setIfInBounds_toArray] at h2⊢;rw[List.set_cons_succ];have:=congrArg Array.toList h2;simp only at this;rw[this]
theorem z0n{α:Type}{f:α→List Value}(hf:∀x,(f x).length=1)(X:List α)(d:α)(k:Nat)(h:k<X.length){v:Value}(hv:f (X.getD k d)=[v]):(recs f X).toArray[k]? =some v:=by
 have e:=zn1 (f:=f) (sz:=1) hf X d k 0 h (by omega);rw[Nat.mul_one,Nat.add_zero] at e;rw[List.getElem?_toArray,e,hv];rfl
theorem ztg{α:Type}{D:List α}{j:Nat}{d x:α}(h:j<D.length):(D.set j x).getD j d=x:=by
 rw[List.getD_eq_getElem?_getD,List.getElem?_set_self h];rfl
theorem z0o{α:Type}{D:List α}{i j:Nat}{d x:α}(h:i≠j):(D.set j x).getD i d=D.getD i d:=by
 rw[List.getD_eq_getElem?_getD,List.getElem?_set_ne (by omega),List.getD_eq_getElem?_getD]
end Go.Hm
namespace Go.Proofs.YtmgfkpnghlmheaaGreat
open Go.RowKit Go.Hm
def qcx(L:List za0)(r:Int)(o:Option (List (List zab)))(w:World)(e:Ending)(w':World):Prop:=
 match o with
 |none=>TabPost 2 [] 0 [] w e w'
 |some C=>TabPost 0 L r C w e w'
theorem zk5{w w':World}(h:New w w'):TabPost 2 [] 0 [] w (.returned (.tuple #[.agg #[.slice none 0 0,.int .i64 0,.slice none 0 0],.int .i64 2])) w':=
 ⟨none,none,0,0,[],rfl,zcp,zcp,(fun d hd=>(by cases hd)),rfl,h⟩
structure ColsIn(w:World)(B:Nat)(D:List zdo):Prop where
 rows:RowsIn w B D
 apart:∀i j,i<D.length→j<D.length→i≠j→(zm1 (D.getD i dZ)).ownBlock=none∨(zm1 (D.getD i dZ)).ownBlock≠(zm1 (D.getD j dZ)).ownBlock
theorem ColsIn.later{w w':World}{B:Nat}{D:List zdo}(h:ColsIn w B D)(hb:New w w'):ColsIn w' B D:=⟨h.rows.later hb,h.apart⟩
theorem ColsIn.keepT{w w':World}{B g:Nat}{t:TypeId}{cs:Array Value}{D:List zdo}(h:ColsIn w B D)(hT:Blk w g t cs)(hne:61≠t)(hg:w.grownBy w' (some g)):ColsIn w' B D:=⟨h.rows.keepT hT hne hg,h.apart⟩
theorem ColsIn.nil{w:World}{B n:Nat}:ColsIn w B (List.replicate n dZ):=by
 refine⟨fun d hd=>?_,fun i j hi hj hne=>?_⟩
 ·rw[List.eq_of_mem_replicate hd]
  exact zcp
 ·rw[List.length_replicate] at hi
  left;rw[List.getD_eq_getElem?_getD,List.getElem?_replicate,if_pos hi];rfl
theorem ColsIn.at_{w:World}{B j:Nat}{D:List zdo}(h:ColsIn w B D)(hj:j<D.length):w.ownsRow B 61 5 (zm1 (D.getD j dZ)) (D.getD j dZ).2.2.length (recs zak (D.getD j dZ).2.2):=h.rows _ (zan dZ hj)
theorem ColsIn.put{w w':World}{B j:Nat}{D:List zdo}{d:zdo}(h:ColsIn w B D)(hj:j<D.length)(hd:w'.ownsRow B 61 5 (zm1 d) d.2.2.length (recs zak d.2.2))(hg:w.grownBy w' (zm1 (D.getD j dZ)).ownBlock)
 (hat:(zm1 d).ownBlock=(zm1 (D.getD j dZ)).ownBlock∨∃g,(zm1 d).ownBlock=some g∧w.heap.size≤g):ColsIn w' B (D.set j d):=by
 have hap:∀i,i<D.length→i≠j→(zm1 (D.getD i dZ)).ownBlock=none∨(zm1 (D.getD i dZ)).ownBlock≠(zm1 d).ownBlock:=by
  intro i hi hne;rcases hat with hat|⟨g,hat,hgg⟩
  ·rw[hat]
   exact h.apart i j hi hj hne
  ·rcases hu:(zm1 (D.getD i dZ)).ownBlock with _|k
   ·exact .inl rfl
   ·right
    rw[hat];intro e;injection e with e;have:=(World.ownsRow.lt (h.at_ hi) _ hu).2;omega
 refine⟨fun x hx=>?_,fun i k hi hk hne=>?_⟩
 ·obtain⟨i,hi,rfl⟩:=List.getElem_of_mem hx
  have e:(D.set j d)[i]'hi=(D.set j d).getD i dZ:=by
   rw[List.getD_eq_getElem?_getD,List.getElem?_eq_getElem hi];rfl
  have hi:i<D.length:=by simpa using hi
  rw[e];by_cases hij:i=j
  ·subst hij
   rw[ztg hj];exact hd
  ·rw[z0o hij]
   exact World.ownsRow.kept (h.at_ hi) hg (h.apart i j hi hj hij)
 ·rw[List.length_set] at hi hk
  by_cases hij:i=j
  ·subst hij
   rw[ztg hi,z0o (fun e=>hne e.symm)];exact zfr (hap k hk (fun e=>hne e.symm))
  ·rw[z0o hij]
   by_cases hkj:k=j
   ·subst hkj
    rw[ztg hk];exact hap i hi hij
   ·rw[z0o hkj]
    exact h.apart i k hi hk hne
structure TabSt(w0:World)(B gt gd:Nat)(L:List za0)(Aq:Option Addr)(cq:Nat)(r:Int)(fa:Array Value)(w:World)(D:List zdo):Prop where
 new:New w0 w
 tab:Blk w gt 25 #[.slice Aq L.length cq,.int .i64 r,.slice (some ⟨gd,0,none⟩) L.length L.length]
 cols:w.ownsRow B 70 3 (.slice Aq L.length cq) L.length (recs zh4 L)
 data:Blk w gd 71 (recs zf4 D).toArray
 rows:ColsIn w B D
 res:Blk w (w0.heap.size+1) 25 #[.slice none 0 0,.int .i64 0,.slice none 0 0]
 foot:Blk w w0.heap.size 38 fa
theorem TabSt.later{w0 w w':World}{B gt gd:Nat}{L:List za0}{Aq:Option Addr}{cq:Nat}{r:Int}{fa:Array Value}{D:List zdo}(h:TabSt w0 B gt gd L Aq cq r fa w D)(hb:New w w'):TabSt w0 B gt gd L Aq cq r fa w' D:=
 ⟨New.trans h.new hb,h.tab.below hb h.tab.lt,zau h.cols hb,h.data.below hb h.data.lt,h.rows.later hb,h.res.below hb h.res.lt,h.foot.below hb h.foot.lt⟩
theorem TabSt.put{w0 w w6 w7:World}{B gt gd j:Nat}{L:List za0}{Aq:Option Addr}{cq:Nat}{r:Int}{fa:Array Value}{D:List zdo}{d:zdo}(h:TabSt w0 B gt gd L Aq cq r fa w D)(hj:j<D.length)(hB:w0.heap.size≤gd)
 (hn:New w0 w6)(o6:w6.ownsRow B 61 5 (zm1 d) d.2.2.length (recs zak d.2.2))(g6:w.grownBy w6 (zm1 (D.getD j dZ)).ownBlock)
 (hat:(zm1 d).ownBlock=(zm1 (D.getD j dZ)).ownBlock∨∃g,(zm1 d).ownBlock=some g∧w.heap.size≤g)
 (BD7:Blk w7 gd 71 ((recs zf4 D).toArray.setIfInBounds j (zm1 d)))(g7:w6.grownBy w7 (some gd)):TabSt w0 B gt gd L Aq cq r fa w7 (D.set j d):=by
 have row:=h.rows.at_ hj;have BD6:=h.data.grown g6 (fun e=>zal row h.data (by decide) e.symm);have BT6:=h.tab.grown g6 (fun e=>zal row h.tab (by decide) e.symm);have BR6:=h.res.grown g6 (fun e=>zal row h.res (by decide) e.symm);have BF6:=h.foot.grown g6 (fun e=>zal row h.foot (by decide) e.symm);have C6:=World.ownsRow.kept h.cols g6 (zdw h.cols row (by decide))
 refine⟨zaw hn g7 hB (Nat.le_refl _),BT6.grown g7 (fun e=>by injection e with e;exact Blk.ne_ BT6 BD6 (by decide) e),World.ownsRow.kept C6 g7 (.inr (zal C6 BD6 (by decide))),?_,(h.rows.put hj o6 g6 hat).keepT BD6 (by decide) g7,
  BR6.grown g7 (fun e=>by injection e with e;exact Blk.ne_ BR6 BD6 (by decide) e),BF6.grown g7 (fun e=>by injection e with e;exact Blk.ne_ BF6 BD6 (by decide) e)⟩
 have e:=zpl (f:=zf4) (fun _=>rfl) D d j (v:=zm1 d) rfl;rw[e] at BD7;exact BD7
structure PgsIn(w:World)(A:Option Addr)(c:Nat)(R:List zk2):Prop where
 row:Reads w w.heap.size 1 A R.length (recs zje R)
 cap:R.length≤c
 pages:∀d∈R,BytIn w d∧(∀x∈d.2.2,x<256)∧d.2.2.length≤140737488351232
theorem PgsIn.later{w w':World}{A:Option Addr}{c:Nat}{R:List zk2}(h:PgsIn w A c R)(hb:New w w'):PgsIn w' A c R:=⟨Reads.later h.row hb,h.cap,fun d hd=>⟨(h.pages d hd).1.later hb,(h.pages d hd).2⟩⟩
theorem PgsIn.cut{w:World}{A:Option Addr}{c m:Nat}{R:List zk2}(h:PgsIn w A c R)(hm:m≤R.length):PgsIn w (if c=m then A else A.map (·.add (m*1))) (c-m) (R.drop m):=by
 refine⟨?_,by have:=h.cap;rw[List.length_drop];omega,fun d hd=>h.pages d (List.mem_of_mem_drop hd)⟩;have:=h.row.cut (k:=m) hm h.cap;rw[List.length_drop]
 have e:(recs zje R).drop (m*1)=recs zje (R.drop m):=by
  rw[Nat.mul_one];clear this h
  induction R generalizing m with
  |nil=>simp[recs]
  |cons x R ih=>
   cases m with
   |zero=>rfl
   |succ m=>
    have:=ih (m:=m) (by simpa using hm);simpa[recs,zje] using this
 rw[e] at this;exact this
theorem z8i{α:Type}{l:List α}{q:Nat}(d:α)(h:q<l.length):l.drop q=l.getD q d::l.drop (q+1):=by
 rw[List.drop_eq_getElem_cons h,List.getD_eq_getElem?_getD,List.getElem?_eq_getElem h];rfl
open Go.RowKit Go.Hm
structure WrT where
 Ac:Option Addr
 cc:Nat
 L:List za0
 r:Int
 Ad:Option Addr
 cd:Nat
 D:List zdo
 gr:Int
 pr:Int
 Ae:Option Addr
 ce:Nat
 E:List Int
abbrev WrT.dat(T:WrT):List (List zab):=T.D.map (·.2.2)
structure WrIn(w:World)(T:WrT):Prop where
 tab:TabIn w T.Ac T.cc T.L T.Ad T.D
 encs:Reads w w.heap.size 1 T.Ae T.E.length (zep .i64 T.E)
 len:T.D.length=T.L.length
 elen:T.E.length=T.L.length
 few:T.L.length≤64
 rows:0≤T.r∧T.r≤65536
 all:∀d∈T.D,((d.2.2.length:Nat):Int)=T.r
 right:∀c,c<T.L.length→∀y∈(T.D.getD c dZ).2.2,zac y (T.L.getD c zdj).2.1 (T.L.getD c zdj).2.2=true
 data:∀d∈T.D,∀y∈d.2.2,CellFine y
 conf:(1≤T.gr∧T.gr≤65536)∧1≤T.pr∧T.pr≤65536
theorem WrIn.later{w w':World}{T:WrT}(h:WrIn w T)(hb:New w w'):WrIn w' T:=⟨h.tab.later hb,Reads.later h.encs hb,h.len,h.elen,h.few,h.rows,h.all,h.right,h.data,h.conf⟩
def wrC(T:WrT)(V:Value)(z:Int):Array Value:= #[.slice T.Ac T.L.length T.cc,.int .i64 T.r,.slice T.Ad T.D.length T.cd,.int .i64 T.gr,.int .i64 T.pr,.slice T.Ae T.E.length T.ce,V,.int .i64 z]
structure WrOf(w:World)(base g:Nat)(T:WrT)(V:Value)(F:List (List Nat))(z:Int):Prop where
 blk:Blk w g 74 (wrC T V z)
 pages:∃A c P,V= .slice A P.length c∧w.ownsRow base 31 1 (.slice A P.length c) P.length (recs zje P)∧P.map byP=F∧∀d∈P,TR w 5 d.1 d.2.2.length (za3 .u8 d.2.2)
def KeepW(W W':World):Prop:=W.heap.size≤W'.heap.size∧∀t b cs,t≠74→t≠31→Blk W b t cs→Blk W' b t cs
theorem KeepW.refl(W:World):KeepW W W:=⟨Nat.le_refl _,fun _ _ _ _ _ h=>h⟩
theorem KeepW.trans{a b c:World}(h:KeepW a b)(k:KeepW b c):KeepW a c:=⟨Nat.le_trans h.1 k.1,fun t x cs h1 h2 hb=>k.2 t x cs h1 h2 (h.2 t x cs h1 h2 hb)⟩
theorem KeepW.new{W W':World}(h:New W W'):KeepW W W':=⟨h.size,fun _ _ _ _ _ hb=>hb.below h hb.lt⟩
theorem KeepW.of{W W':World}{g:Nat}{t:TypeId}{cs:Array Value}(hg:W.grownBy W' (some g))(hB:Blk W g t cs)(ht:t=74∨t=31):KeepW W W':=
 ⟨hg.size,fun t' x cs' h1 h2 hb=>hb.grown hg (fun e=>by
  injection e with e;subst e;unfold Blk at hb hB;rw[hb] at hB;injection hB with hB;injection hB with _ hB;rcases ht with ht|ht
  ·exact h1 (hB.trans ht)
  ·exact h2 (hB.trans ht))⟩
theorem KeepW.row{W W':World}{base n:Nat}{v:Value}{xs:List Value}(o:W.ownsRow base 31 1 v n xs)(hg:W.grownBy W' v.ownBlock):KeepW W W':=by
 rcases hu:v.ownBlock with _|k
 ·rw[hu] at hg
  exact⟨hg.size,fun _ _ _ _ _ hb=>hb.grown hg (by simp)⟩
 ·rw[hu] at hg
  refine⟨hg.size,fun t' x cs' h1 h2 hb=>hb.grown hg (fun e=>?_)⟩;injection e with e;subst e;exact zal o hb (fun e=>h2 e.symm) hu
theorem zea{w:World}{g:Nat}{ty:TypeId}{a0 a1 a2 a3 a4 a5 a6 a7:Value}(h:Blk w g ty #[a0,a1,a2,a3,a4,a5,a6,a7]):
 w.cell? ⟨g,0,none⟩=some a0∧w.cell? ⟨g,1,none⟩=some a1∧w.cell? ⟨g,2,none⟩=some a2∧w.cell? ⟨g,3,none⟩=some a3∧w.cell? ⟨g,4,none⟩=some a4∧w.cell? ⟨g,5,none⟩=some a5∧w.cell? ⟨g,6,none⟩=some a6∧w.cell? ⟨g,7,none⟩=some a7:=by
 have h0:=h.cell 0;have h1:=h.cell 1;have h2:=h.cell 2;have h3:=h.cell 3;have h4:=h.cell 4;have h5:=h.cell 5;have h6:=h.cell 6;have h7:=h.cell 7;simp at h0 h1 h2 h3 h4 h5 h6 h7;exact⟨h0,h1,h2,h3,h4,h5,h6,h7⟩
theorem WrOf.new{w w':World}{base g:Nat}{T:WrT}{V:Value}{F:List (List Nat)}{z:Int}(h:WrOf w base g T V F z)(hb:New w w'):WrOf w' base g T V F z:=by
 obtain⟨h1,A,c,P,e,h2,h3,h4⟩:=h;exact⟨h1.below hb h1.lt,A,c,P,e,zau h2 hb,h3,fun d hd=>(h4 d hd).below hb⟩
def z8m(T:WrT)(c:Nat)(s:Int × Int)(w0:World)(base g:Nat)(F:List (List Nat))(z:Int)(w:World)(e:Ending)(w':World):Prop:=
 match pgW T.L T.E T.dat c (some (F,z)) s with
 |none=>e= .returned (.tuple #[zp2 (0,0,zbw),.bool false])∧KeepW w w'∧New w0 w'
 |some x=>e= .returned (.tuple #[zp2 (zbt T.L T.E T.dat c s),.bool true])∧(∃V',WrOf w' base g T V' x.1 x.2)∧KeepW w w'∧New w0 w'
end Go.Proofs.YtmgfkpnghlmheaaGreat
