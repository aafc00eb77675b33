/- Merged. -/
import Derived.Test.YtmgfkpnghlmheaaGreatBun30
import Derived.Test.YtmgfkpnghlmheaaGreatBun40
set_option maxHeartbeats 8000000
namespace Go.Proofs.Y
open Go.RowKit Go.Hm
noncomputable def openO(b:List Nat):Option (FootS × List Nat):=
 match zoo b with
 |none=>none
 |some s=>match zo1 (fun r=>r) s with
  |none=>none
  |some F=>if zef F (F.groups.length:Int) 0 0=(b.length:Int)-12-(s.length:Int) then some (F,s) else none
theorem qd4{b s:List Nat}(h8:∀x∈b,x<256)(h:zoo b=some s):∀x∈s,x<256:=by
 unfold zoo at h;split at h
 ·cases h
 ·split at h
  ·cases h
  ·injection h with h
   subst h;exact fun x hx=>h8 x (List.mem_of_mem_drop (List.mem_of_mem_take hx))
theorem zo2{b:List Nat}(h8:∀x∈b,x<256)(hb:b.length<=140737488351232):IsFoot b (zo1 (fun r=>r) b):=
 qb4 (k:=fun r=>r) (fun _ _ h=>⟨Int.le_refl _,h⟩) h8 hb
theorem qb5(n:Nat):z69 n (n:Int) 0 0=true:=by unfold z69;simp
theorem zrl{F:FootS}(h:zbj F):zef F (F.groups.length:Int) 0 0=(szG F.groups:Int):=by
 unfold zef;have e:zc9 F=true:=by unfold zc9;simpa using h
 rw[e,qb5,if_pos (by simp)];exact z2u h
def zfe(body own:List Nat):List Nat:=headL_film++(body++(own++(low own.length 4++tailL)))
theorem zio(body own:List Nat):(zfe body own).length=body.length+own.length+12:=by simp[zfe,headL_film,tailL,zbk];omega
theorem z7k{body own:List Nat}(ho:own.length<4294967296):zoo (zfe body own)=some own:=by
 have hl:=zio body own;have e1:zfe body own=(headL_film++(body++own))++(low own.length 4++tailL):=by simp[zfe]
 have e2:zfe body own=(headL_film++(body++(own++low own.length 4)))++tailL:=by simp[zfe]
 have e3:zfe body own=(headL_film++body)++(own++(low own.length 4++tailL)):=by simp[zfe]
 have l1:headL_film.length=4:=rfl;have l2:tailL.length=4:=rfl;have hN:ownN (zfe body own)=own.length:=by
  unfold ownN;rw[hl];conv=>lhs;rw[e1]
  rw[List.drop_left' (by simp only[List.length_append];omega),List.take_left' (zbk _ 4),zj2 (by omega)]
 unfold zoo;rw[hN,hl,if_neg,if_neg (by omega)]
 ·congr 1
  conv=>lhs;rw[e3]
  rw[List.drop_left' (by simp only[List.length_append];omega),List.take_left' rfl]
 ·rintro(q|q|q)
  ·omega
  ·exact q (by unfold zfe;rw[List.take_left' l1])
  ·refine q ?_
   conv=>lhs;rw[e2]
   rw[List.drop_left' (by simp only[List.length_append,zbk];omega)]
theorem z2z{F:FootS}{body:List Nat}(h:zbj F)(hd:zfm F)(hs:body.length=szG F.groups)(h8:∀x∈zei F,x<256)(ho:(zei F).length<4294967296):
 openO (zfe body (zei F))=some (F,zei F):=by
 unfold openO;rw[z7k ho];dsimp only;rw[(zo2 h8 (by omega)).compl F h hd rfl];dsimp only;rw[zrl h,zio,if_pos (by omega)]
theorem znf{b:List Nat}{F:FootS}{s:List Nat}(h8:∀x∈b,x<256)(hb:b.length<=140737488351232)(h:openO b=some (F,s)):
 zbj F/\zfm F/\zei F=s/\b=zfe ((b.drop 4).take (szG F.groups)) s/\szG F.groups+s.length+12=b.length/\s.length<4294967296/\ ∀x∈s,x<256:=by
 unfold openO at h;cases ho:zoo b with
 |none=>rw[ho] at h;cases h
 |some s'=>
  rw[ho] at h;dsimp only at h;cases hf:zo1 (fun r=>r) s' with
  |none=>rw[hf] at h;cases h
  |some F'=>
   rw[hf] at h;dsimp only at h;split at h
   ·rename_i hp
    injection h with h;injection h with h1 h2;subst h1 h2;have hs8:=qd4 h8 ho;obtain⟨hl1,hl2⟩:=z0d ho;obtain⟨a1,a2,a3⟩:=(zo2 hs8 (by omega)).sound _ hf;rw[zrl a1] at hp;have hsz:szG F'.groups+s'.length+12=b.length:=by omega
    have h4:((b.drop (b.length-8)).take 4).length=4:=by rw[List.length_take,List.length_drop];omega
    have h48:∀x∈(b.drop (b.length-8)).take 4,x<256:=fun x hx=>h8 x (List.mem_of_mem_drop (List.mem_of_mem_take hx))
    have hlow:low s'.length 4=(b.drop (b.length-8)).take 4:=by have:=zsa _ h48;rw[h4] at this;rw[hl1];exact this
    have hNlt:s'.length<4294967296:=by have:=zqh _ h48;rw[h4] at this;have e:ownN b=num ((b.drop (b.length-8)).take 4):=rfl;omega
    refine⟨a1,a2,a3,?_,hsz,hNlt,hs8⟩;unfold zoo at ho;split at ho
    ·cases ho
    ·rename_i hc
     split at ho
     ·cases ho
     ·injection ho with ho
      rw[not_or,not_or,Decidable.not_not,Decidable.not_not] at hc;obtain⟨c1,c2,c3⟩:=hc;rw[<-hl1] at ho;unfold zfe;rw[hlow,<-c2,<-c3];conv=>rhs;rw[<-ho]
      have q1:b.length-8-s'.length=4+szG F'.groups:=by omega
      have q2:b.length-8=4+szG F'.groups+s'.length:=by omega
      have q3:b.length-4=4+szG F'.groups+s'.length+4:=by omega
      rw[q1,q2,q3];have w1:b.drop (4+szG F'.groups)=(b.drop 4).drop (szG F'.groups):=by rw[List.drop_drop]
      have w2:b.drop (4+szG F'.groups+s'.length)=((b.drop 4).drop (szG F'.groups)).drop s'.length:=by rw[List.drop_drop,List.drop_drop];congr 1;omega
      have w3:b.drop (4+szG F'.groups+s'.length+4)=(((b.drop 4).drop (szG F'.groups)).drop s'.length).drop 4:=by rw[List.drop_drop,List.drop_drop,List.drop_drop];congr 1;omega
      rw[w3,w2,w1];have hd1:∀l:List Nat,∀n,l=l.take n++l.drop n:=fun l n=>(List.take_append_drop n l).symm
      have e1:=hd1 b 4;have e2:=hd1 (b.drop 4) (szG F'.groups);have e3:=hd1 ((b.drop 4).drop (szG F'.groups)) s'.length;have e4:=hd1 (((b.drop 4).drop (szG F'.groups)).drop s'.length) 4;rw[<-e4,<-e3,<-e2,<-e1]
   ·cases h
open Go.RowKit Go.Hm
def ztd(b:List Nat)(w:World)(e:Ending)(w':World):Prop:=
 New w w'/\match openO b with
 |none=>e= .returned (.tuple #[.agg #[.slice none 0 0,.int .i64 0,.slice none 0 0],.slice none 0 0,.int .i64 2])
 |some x=>∃Ac cc L r Ag cg G A n c,e= .returned (.tuple #[zhx Ac cc L r Ag cg G,.slice A n c,.int .i64 0])/\za3 L r G=x.1/\FootIn w' Ac cc L Ag G/\G.length<=cg/\Go.Hm.Own w' w.heap.size 5 (.slice A n c) (za2 .u8 x.2)
theorem zkx{L:List za1}{r:Int}{G:List GrD}(h:zfm (za3 L r G)):∀g∈G,∀x∈g.2.2.2,∀p∈x.2.2,zco p.2.2:=fun g hg x hx p hp=>
 (h.2 (grP g) (List.mem_map.2 ⟨g,hg,rfl⟩) x.2.2 (List.mem_map.2 ⟨x,hx,rfl⟩) p hp).fine
theorem wrS{x:Int}(h: -9223372036854775808<=x/\x<=9223372036854775807):wrap64 x=x:=by unfold wrap64;omega
set_option maxRecDepth 100000 in
theorem zte{w:World}{A:Option Addr}{c:Nat}{b:List Nat}(h:Reads w w.heap.size 1 A b.length (za2 .u8 b))(h8:∀x∈b,x<256)(hb:b.length<=140737488351232)(hc:b.length<=c)(hc2:c<=9223372036854775807):
 Calls Tryz.prog 13 #[.slice A b.length c] w (ztd b w):=by
 obtain⟨W,hW⟩:∃W,W=w.alloc (.cells #[.slice none 0 0,.int .i64 0,.slice none 0 0] 38):=⟨_,rfl⟩;have n1:New w W:=by rw[hW];exact(Below.refl _ _).alloc (Nat.le_refl _) _
 have BZ:Blk W w.heap.size 38 #[.slice none 0 0,.int .i64 0,.slice none 0 0]:=by rw[hW];exact Blk.new _ _ _
 have O:=Hz (zu5 (c:=c) (Reads.later h n1) h8 hb hc hc2);rw[hW] at O;have N1:=Hz n1;have HZ:=Hz BZ;have H8:=Hz (fun s hs=>qd4 h8 (s:=s) hs);have HL:=Hz (fun s hs=>z0d (b:=b) (s:=s) hs);have HO:Hid (openO b=match zoo b with
  |none=>none
  |some s=>match zo1 (fun r=>r) s with
   |none=>none
   |some F=>if zef F (F.groups.length:Int) 0 0=(b.length:Int)-12-(s.length:Int) then some (F,s) else none):=Hz rfl
 have HW:=Hz hW;unfold ztd;generalize openO b=X at*;clear h h8 n1 BZ hW;go_enter Tryz.func13,Tryz.ntmps13
 go_wp2_with fail
 refine O.out.mono ?_;rintro e W1 ⟨b1,hpost⟩;rw[<-HW.out] at b1;have BZ1:=HZ.out.below b1 HZ.out.lt;clear O;cases hs:zoo b with
 |none=>
  rw[hs] at hpost;obtain rfl:=hpost;have hx:X=none:=by rw[HO.out,hs]
  subst hx;clear hs
  go_wp2_with (refine zah rfl 38 (.tmp 2) (.tmp 15) rfl w.heap.size _ rfl rfl BZ1 (by kernel_rfl) rfl (by simp[Value.oneCell']) ?_
               intro W2 BR G2;obtain⟨r0,r1,r2⟩:=zad BR)
  exact bodyPost_ret (v:= .tuple #[.agg #[.slice none 0 0,.int .i64 0,.slice none 0 0],.slice none 0 0,.int .i64 2]) (by simp[results,Tryz.results13,go_sem,r0,r1,r2]) rfl ⟨zay (New.trans N1.out b1) G2 (Nat.le_refl _) (Nat.le_refl _),rfl⟩
 |some s=>
  rw[hs] at hpost;obtain⟨A1,c1,rfl,R1,hc1,hc12⟩:=hpost;obtain⟨hl1,hl2⟩:=HL.out s hs;have hsl:s.length+12<=b.length:=by omega
  have hb1:=b1.size;have D:=Hz (zvr (c:=c1) (R1.more (by have:=b1.size;rw[HW.out] at this;exact this)) (H8.out s hs) (by omega));have IF:=Hz (zo2 (H8.out s hs) (by omega));have hx:=HO.out;rw[hs] at hx;have HX:=Hz hx;have RS:=Hz R1;have HSL:=Hz hsl;have HB:=Hz hb;clear hx hs HO R1 hl1 hl2 hsl hb1 hb hc hc1 hc2 hc12 HL H8;go_wp2_with fail
  refine D.out.mono ?_;intro e W2 hq;clear D;cases hF:zo1 (fun r=>r) s with
  |none=>
   rw[hF] at hq;obtain⟨rfl,b2⟩:=hq;have hx:X=none:=by rw[HX.out,hF]
   subst hx;have BZ2:=(BZ1.below b2 BZ1.lt);clear hF BZ1
   go_upto_region 5 with(refine zah rfl 38 (.tmp 7) (.tmp 19) rfl W2.heap.size _ rfl rfl (Blk.new W2 38 #[.slice none 0 0,.int .i64 0,.slice none 0 0]) (by kernel_rfl) rfl (by simp[Value.oneCell']) ?_
                         intro W3 BF G3;have b3:New W2 W3:=zay ((Below.refl _ _).alloc (Nat.le_refl _) _) G3 (Nat.le_refl _) (Nat.le_refl _);have BZ3:=BZ2.below b3 BZ2.lt;clear BF G3 BZ2)
   go_upto_region 6 with fail
   go_wp2_with (refine zah rfl 38 (.tmp 2) (.tmp 37) rfl w.heap.size _ rfl rfl BZ3 (by kernel_rfl) rfl (by simp[Value.oneCell']) ?_
                intro W4 BR G4;obtain⟨r0,r1,r2⟩:=zad BR)
   exact bodyPost_ret (v:= .tuple #[.agg #[.slice none 0 0,.int .i64 0,.slice none 0 0],.slice none 0 0,.int .i64 2]) (by simp[results,Tryz.results13,go_sem,r0,r1,r2]) rfl ⟨zay (New.trans N1.out (New.trans b1 (New.trans b2 b3))) G4 (Nat.le_refl _) (Nat.le_refl _),rfl⟩
  |some F=>
   rw[hF] at hq;obtain⟨Ac,cc,L,r,Ag,cg,G,rfl,hFP,⟨FX,hcg⟩,b2⟩:=hq;obtain⟨f1,f2,f3⟩:=IF.out.sound F hF;rw[<-hFP] at f1 f2 f3;have hx:=HX.out;rw[hF,<-hFP] at hx;have hgl:(za3 L r G).groups.length=G.length:=by unfold za3;simp
   dsimp only at hx;rw[hgl] at hx;have FI:=FX 0 W2 (Nat.zero_le _) (World.grownBy.refl W2 _);have PL:=fun(W:World) (hW:New W2 W)=>zve (r:=r) (cc:=cc) (cg:=cg) (g:=(G.length:Int)) (c:=0) (p:=0) (FI.later hW) (zkx f2)
   generalize zef (za3 L r G) (G.length:Int) 0 0=V at*;unfold zhx at PL⊢;replace PL:=Hz PL;have BZ2:=(BZ1.below b2 BZ1.lt);have HFX:=Hz FX;have RS2:=Hz (fun(W:World) (hW:New W2 W)=>zgw (c:=c1) (Reads.later ((RS.out.more (by have:=b1.size;rw[HW.out] at this;exact this)).later b2) hW) (by have:=HSL.out;have:=HB.out;omega));have hz12:=b1.size;have hz22:=b2.size;replace hx:=Hz hx;clear hF BZ1 HX IF f1 f3 f2 hgl hFP FX FI
   go_upto_region 5 with(refine zah rfl 38 (.tmp 7) (.tmp 19) rfl W2.heap.size _ rfl rfl (Blk.new W2 38 #[.slice none 0 0,.int .i64 0,.slice none 0 0]) (by kernel_rfl) rfl (by simp[Value.oneCell']) ?_
                         intro W3 BF G3;have b3:New W2 W3:=zay ((Below.refl _ _).alloc (Nat.le_refl _) _) G3 (Nat.le_refl _) (Nat.le_refl _);have BZ3:=BZ2.below b3 BZ2.lt;obtain⟨x0,x1,x2⟩:=zad BF;clear G3 BZ2)
   go_wp2_with fail
   refine(PL.out W3 b3).mono ?_;rintro e W4 ⟨rfl,b4⟩;clear PL x0 x1 x2;have b24:=New.trans b3 b4;have BZ4:=BZ3.below b4 BZ3.lt;have BF4:=BF.below b4 BF.lt;obtain⟨i1,i2⟩:wrap64 ((b.length:Int)-12)=(b.length:Int)-12/\wrap64 ((b.length:Int)-12-(s.length:Int))=(b.length:Int)-12-(s.length:Int):=by have:=HSL.out;have:=HB.out;exact⟨wrS (by omega),wrS (by omega)⟩
   clear BZ3 BF b3 b4;by_cases hv:V=(b.length:Int)-12-(s.length:Int)
   ·have hX:X=some (za3 L r G,s):=by rw[hx.out,if_pos hv]
    have q:(V != (b.length:Int)-12-(s.length:Int))=false:=by simpa using hv
    clear hv hx;subst hX;go_wp2_with fail
    refine zdy New 3 [(0,0),(1,1),(2,2),(2,3),(1,4),(1,5)] New.refl New.trans (by kernel_rfl) (by kernel_rfl) (by kernel_rfl) (by kernel_rfl) ?_;have F:=Hz (fun(W:World) (hW:New W4.drew W)=>BF4.below (New.trans (New.drew _) hW) BF4.lt);refine zd7 rfl rfl (v:=?_) (fun W hW=>?_) ?_;rotate_left;(obtain⟨x0,x1,x2⟩:=zad (F.out W hW);go_simp<;> with_reducible rfl);simp only[Act.put,List.setIfInBounds_toArray,List.set_cons_zero,List.set_cons_succ];refine zcv rfl rfl (v:=?_) (fun W=>?_) ?_;rotate_left;(go_simp<;> with_reducible rfl);simp only[Act.put,List.setIfInBounds_toArray,List.set_cons_zero,List.set_cons_succ];refine zbl rfl rfl (fun K hK=>?_);go_simp
    refine(RS2.out W4.drew (New.trans b24 (New.drew _))).mono ?_;rintro e W5 ⟨A5,n5,c5,rfl,o5,b5⟩;refine hK _ _ (.inr (.inr b5)) ?_;clear hK;have BZ5:=BZ4.below (New.trans (New.drew _) b5) BZ4.lt;refine zbl rfl rfl (fun K hK=>?_);refine zd8 38 (.tmp 2) (.tmp 38) rfl w.heap.size _ rfl rfl BZ5 (by kernel_rfl) (by simp) (by simp[Value.oneCell']) ?_;intro W6 BR G6;refine hK _ _ (.inr (.inl rfl)) ?_;clear hK BZ5 F;refine zcv rfl rfl (v:=?_) (fun W=>?_) ?_;rotate_left;(go_simp<;> with_reducible rfl);simp only[Act.put,List.setIfInBounds_toArray,List.set_cons_zero,List.set_cons_succ];refine zcv rfl rfl (v:=?_) (fun W=>?_) ?_;rotate_left;(go_simp<;> with_reducible rfl);simp only[Act.put,List.setIfInBounds_toArray,List.set_cons_zero,List.set_cons_succ];refine zht ?_;go_wp2_with fail
    obtain⟨r0,r1,r2⟩:=zad BR;have b25:=New.trans b24 (New.trans (New.drew _) b5);have hz5:=b25.size;have hbase:w.heap.size<W4.heap.size:=by have:=HZ.out.lt;have:=b1.size;have:=b24.size;omega
    have o5:Go.Hm.Own W5 W4.heap.size 5 (.slice A5 n5 c5) (za2 .u8 s):=o5;refine bodyPost_ret (v:= .tuple #[.agg #[.slice Ac L.length cc,.int .i64 r,.slice Ag G.length cg],.slice A5 n5 c5,.int .i64 0]) (by simp[results,Tryz.results13,go_sem,r0,r1,r2]) rfl ⟨zay (New.trans N1.out (New.trans b1 (New.trans b2 b25))) G6 (Nat.le_refl _) (Nat.le_refl _),?_⟩;exact⟨Ac,cc,L,r,Ag,cg,G,A5,n5,c5,rfl,rfl,HFX.out w.heap.size W6 (by have:=HZ.out.lt;have:=b1.size;omega) ((Far.of_new b25).trans G6),hcg,(o5.kept G6 (.inr (fun e=>by have:=(o5.lt _ e).1;omega))).base_le (by omega)⟩
   ·have hX:X=none:=by rw[hx.out,if_neg hv]
    have q:(V != (b.length:Int)-12-(s.length:Int))=true:=by simpa using hv
    clear hv hx HFX RS2 BF4;subst hX
    go_wp2_with (refine zah rfl 38 (.tmp 2) (.tmp 37) rfl w.heap.size _ rfl rfl BZ4 (by kernel_rfl) rfl (by simp[Value.oneCell']) ?_
                 intro W5 BR G5;obtain⟨r0,r1,r2⟩:=zad BR)
    exact bodyPost_ret (v:= .tuple #[.agg #[.slice none 0 0,.int .i64 0,.slice none 0 0],.slice none 0 0,.int .i64 2]) (by simp[results,Tryz.results13,go_sem,r0,r1,r2]) rfl ⟨zay (New.trans N1.out (New.trans b1 (New.trans b2 b24))) G5 (Nat.le_refl _) (Nat.le_refl _),rfl⟩
open Go.RowKit Go.Hm
def zls(t:Int)(l:List zab):zc7:=l.foldl (fun s c=>zl5 t s (zjt c)) zbs
theorem z0t{t:Int}:∀(l a:List zab) {s:zc7},IsStat t a s->IsStat t (a++l) (l.foldl (fun s c=>zl5 t s (zjt c)) s)
 | [],a,s,h=>by simpa using h
 |c::l,a,s,h=>by
  have:=z0t l (a++[c]) (h.merge (zqy t c));simpa using this
theorem zkz(t:Int)(l:List zab):IsStat t l (zls t l):=z0t l [] (zqx t)
def zbb(D:List (List zab))(c:Nat)(s:Int × Int):List zab:=((D.getD c []).drop s.1.toNat).take (s.2-s.1).toNat
def zgo(L:List za1)(E:List Int)(D:List (List zab))(c:Nat)(s:Int × Int):Int × List Nat:=pgE (L.getD c zdo).2.1 (L.getD c zdo).2.2 (E.getD c 0) (zbb D c s)
def zbw(L:List za1)(E:List Int)(D:List (List zab))(c:Nat)(s:Int × Int):zax:=(((zgo L E D c s).2.length:Int),((zbb D c s).length:Int),zls (L.getD c zdo).2.1 (zbb D c s))
abbrev WSt:=Option (List (List Nat) × Int)
def pgW(L:List za1)(E:List Int)(D:List (List zab))(c:Nat)(S:WSt)(s:Int × Int):WSt:=
 match S with
 |none=>none
 |some x=>if(zgo L E D c s).1=0/\(zgo L E D c s).2.length<=268435456/\x.2+(zgo L E D c s).2.length<=1073741824 then some (x.1++[(zgo L E D c s).2],x.2+(zgo L E D c s).2.length) else none
def chW(L:List za1)(E:List Int)(D:List (List zab))(c:Nat)(S:WSt)(l:List (Int × Int)):WSt:=l.foldl (pgW L E D c) S
def gpW(L:List za1)(E:List Int)(D:List (List zab))(pr:Int)(s:Int × Int)(S:WSt):Nat->WSt
 |0=>S
 |k+1=>chW L E D k (gpW L E D pr s S k) (zcq s.1 s.2 pr)
def grW(L:List za1)(E:List Int)(D:List (List zab))(pr:Int)(S:WSt)(s:Int × Int):WSt:=gpW L E D pr s S L.length
def z0u(L:List za1)(E:List Int)(D:List (List zab))(pr:Int)(l:List (Int × Int)):WSt:=l.foldl (grW L E D pr) (some ([],0))
def zb7(L:List za1)(E:List Int)(D:List (List zab))(pr:Int)(s:Int × Int):za5:=(s.2-s.1,(List.range L.length).map fun c=>(zcq s.1 s.2 pr).map (zbw L E D c))
def zb8(L:List za1)(r:Int)(E:List Int)(D:List (List zab))(gr pr:Int):FootS:=⟨L,r,(zcq 0 r gr).map (zb7 L E D pr)⟩
noncomputable def zfc(L:List za1)(r:Int)(D:List zdw)(gr pr:Int)(E:List Int):Int × List Nat:=
 if zfo L r D≠0 then(zfo L r D,[])
 else if zdv gr pr E L≠0 then(zdv gr pr E L,[])
 else match z0u L E (D.map (·.2.2)) pr (zcq 0 r gr) with
  |none=>(4,[])
  |some x=>match zp7 (zb8 L r E (D.map (·.2.2)) gr pr) with
   |none=>(4,[])
   |some own=>if 1073741824<own.length then(4,[]) else(0,zfe x.1.flatten own)
theorem qcx{L:List za1}{E:List Int}{D:List (List zab)}{c:Nat}(s:Int × Int):pgW L E D c none s=none:=rfl
theorem zi9{L:List za1}{E:List Int}{D:List (List zab)}{c:Nat}:∀l,chW L E D c none l=none
 | []=>rfl
 |s::l=>by
  show chW L E D c (pgW L E D c none s) l=none;rw[qcx,zi9 l]
theorem z0v{L:List za1}{E:List Int}{D:List (List zab)}{pr:Int}{s:Int × Int}:∀k,gpW L E D pr s none k=none
 |0=>rfl
 |k+1=>by rw[gpW,z0v k,zi9]
theorem zpj{L:List za1}{E:List Int}{D:List (List zab)}{pr:Int}:∀l:List (Int × Int),l.foldl (grW L E D pr) none=none
 | []=>rfl
 |s::l=>by
  show l.foldl (grW L E D pr) (gpW L E D pr s none L.length)=none;rw[z0v,zpj l]
theorem qcy{L:List za1}{E:List Int}{D:List (List zab)}{c:Nat}{S:WSt}{l:List (Int × Int)}{k:Nat}(hk:k<l.length):chW L E D c S (l.take (k+1))=pgW L E D c (chW L E D c S (l.take k)) (l.getD k (0,0)):=by rw[zae _ k (0,0) hk];unfold chW;rw[List.foldl_append];rfl
theorem z8g{L:List za1}{E:List Int}{D:List (List zab)}{c:Nat}{S:WSt}{l:List (Int × Int)}(k:Nat)(h:chW L E D c S (l.take k)=none):chW L E D c S l=none:=by
 have e:chW L E D c S l=chW L E D c (chW L E D c S (l.take k)) (l.drop k):=by unfold chW;rw[<-List.foldl_append,List.take_append_drop]
 rw[e,h,zi9]
theorem zv3{L:List za1}{E:List Int}{D:List (List zab)}{pr:Int}{s:Int × Int}{S:WSt}{k:Nat}(h:gpW L E D pr s S k=none):∀n,k<=n->gpW L E D pr s S n=none
 |0,hn=>by
  obtain rfl:k=0:=by omega
  exact h
 |n+1,hn=>by
  rcases Nat.lt_or_ge n k with hlt|hge
  ·obtain rfl:k=n+1:=by omega
   exact h
  ·rw[gpW,zv3 h n hge,zi9]
theorem z8h{L:List za1}{E:List Int}{D:List (List zab)}{pr:Int}{l:List (Int × Int)}{k:Nat}(hk:k<l.length):z0u L E D pr (l.take (k+1))=grW L E D pr (z0u L E D pr (l.take k)) (l.getD k (0,0)):=by rw[zae _ k (0,0) hk];unfold z0u;rw[List.foldl_append];rfl
theorem z3h{L:List za1}{E:List Int}{D:List (List zab)}{pr:Int}{l:List (Int × Int)}(k:Nat)(h:z0u L E D pr (l.take k)=none):z0u L E D pr l=none:=by
 have e:z0u L E D pr l=(l.drop k).foldl (grW L E D pr) (z0u L E D pr (l.take k)):=by unfold z0u;rw[<-List.foldl_append,List.take_append_drop]
 rw[e,h,zpj]
def OkW(S:WSt):Prop:=∀x,S=some x->x.2=(x.1.flatten.length:Int)/\x.2<=1073741824/\(x.1.length:Int)<=x.2
theorem qhr{L:List za1}{E:List Int}{D:List (List zab)}{c:Nat}{S:WSt}{s:Int × Int}(h:OkW S):OkW (pgW L E D c S s):=by
 cases S with
 |none=>intro x hx;cases hx
 |some y=>
  intro x hx;obtain⟨h1,h2,h3⟩:=h y rfl;unfold pgW at hx;dsimp only at hx;split at hx
  ·rename_i hc
   injection hx with hx;subst hx;have hne:1<=(zgo L E D c s).2.length:=by obtain⟨_,_,_,_,d,_,hb⟩:=zik (show pgE _ _ _ _=(0,(zgo L E D c s).2) from Prod.ext hc.1 rfl);rw[hb,List.length_cons];omega
   refine⟨?_,hc.2.2,?_⟩
   ·dsimp only
    rw[List.flatten_append,List.length_append,List.flatten_cons,List.flatten_nil,List.append_nil,h1];omega
   ·dsimp only
    rw[List.length_append,List.length_singleton];omega
  ·cases hx
theorem z8i{L:List za1}{E:List Int}{D:List (List zab)}{c:Nat}:∀(l:List (Int × Int)) {S:WSt},OkW S->OkW (chW L E D c S l)
 | [],_,h=>h
 |s::l,S,h=>z8i l (S:=pgW L E D c S s) (qhr h)
theorem z8j{L:List za1}{E:List Int}{D:List (List zab)}{pr:Int}{s:Int × Int}{S:WSt}(h:OkW S):∀k,OkW (gpW L E D pr s S k)
 |0=>h
 |k+1=>z8i _ (z8j h k)
theorem zyg{L:List za1}{E:List Int}{D:List (List zab)}{pr:Int}(l:List (Int × Int)):OkW (z0u L E D pr l):=by
 have:∀(l:List (Int × Int)) {S:WSt},OkW S->OkW (l.foldl (grW L E D pr) S):=by
  intro l;induction l with
  |nil=>intro S h;exact h
  |cons s l ih=>intro S h;exact ih (S:=grW L E D pr S s) (z8j h _)
 exact this l (fun x hx=>by injection hx with hx;subst hx;simp)
open Go.RowKit Go.Hm
theorem qis{t:Int}{nu:Bool}{e:Int}{l:List zab}(h:ckE t nu e l=0):(0<=t/\t<=3)/\l.length<=65536/\(∀c∈l,zaf c t nu=true)/\fitsV t (encOf t e l)=true:=by
 unfold ckE at h;split at h
 ·omega
 ·rename_i h1
  split at h
  ·omega
  ·rename_i h2
   split at h
   ·rename_i h3
    rw[List.all_eq_true] at h3;have ht:0<=t/\t<=3:=by
     by_cases q:0<=t/\t<=3
     ·exact q
     ·exact absurd (.inl q) h1
    refine⟨ht,by omega,h3,?_⟩;unfold encOf;split
    ·exact(zuz (z61 ht (by omega) h3)).1
    ·rename_i he
     cases hf:fitsV t e with
     |true=>rfl
     |false=>exact absurd (.inr ⟨he,hf⟩) h1
   ·omega
theorem z3s{l:List zab}(h:∀y∈l,CellFine y):∀y∈zb1 l,CellFine y:=fun y hy=>h y (by unfold zb1 at hy;exact(List.mem_filter.1 hy).1)
set_option maxRecDepth 100000 in
theorem zym{w:World}{cn:List Nat}{t:Int}{nu:Bool}{e:Int}{A:Option Addr}{n c:Nat}{L:List zab}(h:Reads w w.heap.size 5 A n (recs zan L))(hL:∀y∈L,CellFine y)(hn:n<=4611686018427387903):
 Calls Tryz.prog 100 #[.agg #[.string (zac cn),.int .i64 t,.bool nu],.int .i64 e,.slice A n c] w (zhz (pgE t nu e L) w):=by
 obtain rfl:=h.lenCell;have n1:New w (w.alloc (.cells #[.string (zac cn),.int .i64 t,.bool nu] 70)):=(Below.refl _ _).alloc (Nat.le_refl _) _;have g1:Blk (w.alloc (.cells #[.string (zac cn),.int .i64 t,.bool nu] 70)) w.heap.size 70 #[.string (zac cn),.int .i64 t,.bool nu]:=Blk.new _ _ _;have HD:Hid (∀y∈L,zai y):=Hz (fun y hy=>zi3 (hL y hy));have CK:=Hz (z3d (cn:=cn) (t:=t) (nu:=nu) (e:=e) (c:=c) (Reads.later h n1) (fun y hy=>(hL y hy).1.1) hn);have HP:=Hz (qhq t nu e L);have HX:=Hz (fun k b=>ztj (t:=t) (nu:=nu) (e:=e) (l:=L) (b:=b) (k:=k) HD.out);have H0:=Hz (@qis t nu e L);have HR:=Hz (Reads.later h n1);have HF:=Hz hL;have HE:Hid (encOf t e L=if e= -1 then bestV t (zb1 L) else e):=Hz rfl;generalize hX:pgE t nu e L=X at*;generalize ckE t nu e L=M at*;generalize encOf t e L=E at*;have N1:=Hz n1;have G1:=Hz g1;obtain⟨c0,c1,c2⟩:=zad g1;clear h hL g1 n1 hX;go_enter Tryz.func100,Tryz.ntmps100
 go_wp2_with fail
 refine CK.out.mono ?_;rintro e W1 ⟨rfl,b1⟩;clear CK c0 c1 c2;by_cases hm:M=0
 ·subst hm
  obtain⟨ht,hl6,hr,hf⟩:=H0.out rfl;have hp:=HP.out;rw[if_pos rfl] at hp;replace HP:=Hz hp;clear hp H0;have hfe:=(zf4 hf).1;obtain⟨q,rfl⟩:=Int.eq_ofNat_of_zero_le hfe.1;have hvl:=zsy L;have SP:=Hz (zqd (c:=c) (Reads.later HR.out b1) hl6);have VE:Hid (zx7 t (q:Int) (zb1 L)=match zdz t (q:Int) (zb1 L) with|some d=>(0,d)|none=>(1,[])):=Hz (by unfold zx7;rw[if_pos hf];generalize zdz t (q:Int) (zb1 L)=Z;cases Z<;> rfl);have VL:Hid (∀d,zdz t (q:Int) (zb1 L)=some d->d.length<=100000000000):=Hz (fun d hd=>z0p (zkq HD.out) hd);have HVF:=Hz (z3s HF.out);have HS:=Hz (zru hl6);have HVL:=Hz (zap (n:=L.length) (by omega));have hq4:q<=4:=by omega
  clear hr hf hfe ht;go_wp2_with fail
  refine SP.out.mono ?_;rintro e W2 ⟨A1,m1,k1,A2,m2,k2,rfl,o1,o2,b2⟩;clear SP;have R2:=Hz (Reads.of_own o2);have b12:=New.trans b1 b2;obtain⟨c0,c1,c2⟩:=zad (G1.out.below b12 G1.out.lt);have hm2:m2<=65536:=by have:=R2.out.lenCell;omega
  by_cases he:e= -1
  ·subst he
   have hE:=HE.out;rw[if_pos rfl] at hE;have B:=Hz (z79 (t:=t) (c:=k2) R2.out HVF.out hm2);rw[<-hE] at B;clear hE;go_wp2_with fail
   refine B.out.mono ?_;rintro e W3 ⟨rfl,b3⟩;clear B;have V:=Hz (zjx (t:=t) (e:=(q:Int)) (c:=k2) (Reads.later R2.out b3) HVF.out hm2);have b13:=New.trans b12 b3;clear c0 c1 c2;obtain⟨c0,c1,c2⟩:=zad (G1.out.below b13 G1.out.lt);obtain rfl:m1=(zb4 L).length:=by simpa[za2] using o1.len
   have R1:=Hz (BytIn.later (show BytIn W2 (A1,k1,zb4 L) from o1.reads) b3);generalize zdz t (q:Int) (zb1 L)=Y at*;generalize zx7 t (q:Int) (zb1 L)=Z at*;go_wp2_with fail
   refine V.out.mono ?_;rintro e W4 ⟨A3,m3,k3,rfl,o3,b4⟩;clear V;have b14:=New.trans b13 b4;clear c0 c1 c2;obtain⟨c0,c1,c2⟩:=zad (G1.out.below b14 G1.out.lt);cases Y with
   |none=>
    have hz:Z=(1,[]):=VE.out;have hx:X=(1,[]):=HP.out;subst hz hx;go_wp2_with fail
    go_ret2
    exact⟨none,0,0,rfl,Own.nil_,New.trans N1.out b14⟩
   |some d=>
    have hz:Z=(0,d):=VE.out;have hx:X=(0,q::(vp L.length++((if nu=true then zb4 L else [])++d))):=HP.out;subst hz;have hdl:=VL.out d rfl;obtain rfl:m3=d.length:=by simpa[za2] using o3.len
    have R3:=Hz (show BytIn W4 (A3,k3,d) from o3.reads);have R1b:=Hz (BytIn.later R1.out b4);obtain⟨c3,hc3⟩:∃c3:Value,c3= .int .u8 (q:Int):=⟨_,rfl⟩;have iw:IntKind.u8.wrap (q:Int)=(q:Int):=by rw[IntKind.wrap_u8];omega
    have n5:New W4 (W4.alloc (.cells #[.int .u8 (q:Int)] 5)):=(Below.refl _ _).alloc (Nat.le_refl _) _;have R5:Hid (BytIn (W4.alloc (.cells #[.int .u8 (q:Int)] 5)) (some ⟨W4.heap.size,0,none⟩,1,[q])):=Hz (Reads.litV _ _ _ 1 _ rfl rfl);have P:=Hz (zcz none 0 0 [] L.length (W4.alloc (.cells #[.int .u8 (q:Int)] 5)) Reads.none_ (by omega) (by omega));have iz:IntKind.u64.wrap (L.length:Int)=(L.length:Int):=by rw[IntKind.wrap_u64];omega
    clear hc3 c3;cases nu with
    |false=>
     go_wp2_with fail
     refine P.out.mono ?_;rintro e W5 ⟨A5,m5,k5,rfl,o5,b5⟩;clear P;rw[List.nil_append] at o5;obtain rfl:m5=(vp L.length).length:=by simpa[za2] using o5.len
     have R6:=Hz (show BytIn W5 (A5,k5,vp L.length) from o5.reads);have n6:New W5 (W5.alloc (.cells #[.slice (some ⟨W4.heap.size,0,none⟩) 1 1,.slice A5 (vp L.length).length k5,.slice none 0 0,.slice A3 d.length k3] 31)):=(Below.refl _ _).alloc (Nat.le_refl _) _;have hfd:zdb [(some ⟨W4.heap.size,0,none⟩,1,[q]),(A5,k5,vp L.length),(none,0,[]),(A3,k3,d)]=q::(vp L.length++d):=by simp[zdb]
     have C:=Hz (zga (w:=W5.alloc (.cells #[.slice (some ⟨W4.heap.size,0,none⟩) 1 1,.slice A5 (vp L.length).length k5,.slice none 0 0,.slice A3 d.length k3] 31)) (c:=4) (D:=[(some ⟨W4.heap.size,0,none⟩,1,[q]),(A5,k5,vp L.length),(none,0,[]),(A3,k3,d)]) (Reads.litV _ _ _ 4 _ rfl rfl) (by
      intro x hx;rcases List.mem_cons.1 hx with rfl|hx
      ·exact BytIn.later R5.out (New.trans b5 n6)
      rcases List.mem_cons.1 hx with rfl|hx
      ·exact BytIn.later R6.out n6
      rcases List.mem_cons.1 hx with rfl|hx
      ·exact Reads.none_
      obtain rfl:=List.mem_singleton.1 hx;exact BytIn.later R3.out (New.trans n5 (New.trans b5 n6))) (by omega) (by rw[hfd];have:=HVL.out;simp only[List.length_cons,List.length_append];omega))
     rw[hfd] at C;have HC:Hid (X=(0,q::(vp L.length++d))):=Hz (hx.trans (by simp));clear hx hfd;generalize vp L.length=vL at*;go_wp2_with fail
     refine C.out.mono ?_;rintro e W6 ⟨A6,m6,k6,rfl,o6,b6⟩;clear C;go_wp2_with fail
     go_ret2
     rw[HC.out];exact⟨A6,m6,k6,rfl,o6.base_le (by have:=N1.out.size;have:=b14.size;have:=n5.size;have:=b5.size;have:=n6.size;omega),New.trans N1.out (New.trans b14 (New.trans n5 (New.trans b5 (New.trans n6 b6))))⟩
    |true=>
     go_wp2_with fail
     refine P.out.mono ?_;rintro e W5 ⟨A5,m5,k5,rfl,o5,b5⟩;clear P;rw[List.nil_append] at o5;obtain rfl:m5=(vp L.length).length:=by simpa[za2] using o5.len
     have R6:=Hz (show BytIn W5 (A5,k5,vp L.length) from o5.reads);have n6:New W5 (W5.alloc (.cells #[.slice (some ⟨W4.heap.size,0,none⟩) 1 1,.slice A5 (vp L.length).length k5,.slice A1 (zb4 L).length k1,.slice A3 d.length k3] 31)):=(Below.refl _ _).alloc (Nat.le_refl _) _;have hfd:zdb [(some ⟨W4.heap.size,0,none⟩,1,[q]),(A5,k5,vp L.length),(A1,k1,zb4 L),(A3,k3,d)]=q::(vp L.length++(zb4 L++d)):=by simp[zdb]
     have C:=Hz (zga (w:=W5.alloc (.cells #[.slice (some ⟨W4.heap.size,0,none⟩) 1 1,.slice A5 (vp L.length).length k5,.slice A1 (zb4 L).length k1,.slice A3 d.length k3] 31)) (c:=4) (D:=[(some ⟨W4.heap.size,0,none⟩,1,[q]),(A5,k5,vp L.length),(A1,k1,zb4 L),(A3,k3,d)]) (Reads.litV _ _ _ 4 _ rfl rfl) (by
      intro x hx;rcases List.mem_cons.1 hx with rfl|hx
      ·exact BytIn.later R5.out (New.trans b5 n6)
      rcases List.mem_cons.1 hx with rfl|hx
      ·exact BytIn.later R6.out n6
      rcases List.mem_cons.1 hx with rfl|hx
      ·exact BytIn.later R1b.out (New.trans n5 (New.trans b5 n6))
      obtain rfl:=List.mem_singleton.1 hx;exact BytIn.later R3.out (New.trans n5 (New.trans b5 n6))) (by omega) (by rw[hfd];have:=HVL.out;have:=HS.out;simp only[List.length_cons,List.length_append];omega))
     rw[hfd] at C;have HC:Hid (X=(0,q::(vp L.length++(zb4 L++d)))):=Hz (hx.trans (by simp));clear hx hfd;generalize vp L.length=vL at*;generalize zb4 L=sL at*;go_wp2_with fail
     refine C.out.mono ?_;rintro e W6 ⟨A6,m6,k6,rfl,o6,b6⟩;clear C;go_wp2_with fail
     go_ret2
     rw[HC.out];exact⟨A6,m6,k6,rfl,o6.base_le (by have:=N1.out.size;have:=b14.size;have:=n5.size;have:=b5.size;have:=n6.size;omega),New.trans N1.out (New.trans b14 (New.trans n5 (New.trans b5 (New.trans n6 b6))))⟩
  ·have hE:=HE.out
   rw[if_neg he] at hE;subst hE;have i1:((q:Int)== -1)=false:=beq_eq_false_iff_ne.2 (by omega);have b3:New W2 W2:=New.refl _;clear he;have V:=Hz (zjx (t:=t) (e:=(q:Int)) (c:=k2) (Reads.later R2.out b3) HVF.out hm2);have b13:=New.trans b12 b3;clear c0 c1 c2;obtain⟨c0,c1,c2⟩:=zad (G1.out.below b13 G1.out.lt);obtain rfl:m1=(zb4 L).length:=by simpa[za2] using o1.len
   have R1:=Hz (BytIn.later (show BytIn W2 (A1,k1,zb4 L) from o1.reads) b3);generalize zdz t (q:Int) (zb1 L)=Y at*;generalize zx7 t (q:Int) (zb1 L)=Z at*;go_wp2_with fail
   refine V.out.mono ?_;rintro e W4 ⟨A3,m3,k3,rfl,o3,b4⟩;clear V;have b14:=New.trans b13 b4;clear c0 c1 c2;obtain⟨c0,c1,c2⟩:=zad (G1.out.below b14 G1.out.lt);cases Y with
   |none=>
    have hz:Z=(1,[]):=VE.out;have hx:X=(1,[]):=HP.out;subst hz hx;go_wp2_with fail
    go_ret2
    exact⟨none,0,0,rfl,Own.nil_,New.trans N1.out b14⟩
   |some d=>
    have hz:Z=(0,d):=VE.out;have hx:X=(0,q::(vp L.length++((if nu=true then zb4 L else [])++d))):=HP.out;subst hz;have hdl:=VL.out d rfl;obtain rfl:m3=d.length:=by simpa[za2] using o3.len
    have R3:=Hz (show BytIn W4 (A3,k3,d) from o3.reads);have R1b:=Hz (BytIn.later R1.out b4);obtain⟨c3,hc3⟩:∃c3:Value,c3= .int .u8 (q:Int):=⟨_,rfl⟩;have iw:IntKind.u8.wrap (q:Int)=(q:Int):=by rw[IntKind.wrap_u8];omega
    have n5:New W4 (W4.alloc (.cells #[.int .u8 (q:Int)] 5)):=(Below.refl _ _).alloc (Nat.le_refl _) _;have R5:Hid (BytIn (W4.alloc (.cells #[.int .u8 (q:Int)] 5)) (some ⟨W4.heap.size,0,none⟩,1,[q])):=Hz (Reads.litV _ _ _ 1 _ rfl rfl);have P:=Hz (zcz none 0 0 [] L.length (W4.alloc (.cells #[.int .u8 (q:Int)] 5)) Reads.none_ (by omega) (by omega));have iz:IntKind.u64.wrap (L.length:Int)=(L.length:Int):=by rw[IntKind.wrap_u64];omega
    clear hc3 c3;cases nu with
    |false=>
     go_wp2_with fail
     refine P.out.mono ?_;rintro e W5 ⟨A5,m5,k5,rfl,o5,b5⟩;clear P;rw[List.nil_append] at o5;obtain rfl:m5=(vp L.length).length:=by simpa[za2] using o5.len
     have R6:=Hz (show BytIn W5 (A5,k5,vp L.length) from o5.reads);have n6:New W5 (W5.alloc (.cells #[.slice (some ⟨W4.heap.size,0,none⟩) 1 1,.slice A5 (vp L.length).length k5,.slice none 0 0,.slice A3 d.length k3] 31)):=(Below.refl _ _).alloc (Nat.le_refl _) _;have hfd:zdb [(some ⟨W4.heap.size,0,none⟩,1,[q]),(A5,k5,vp L.length),(none,0,[]),(A3,k3,d)]=q::(vp L.length++d):=by simp[zdb]
     have C:=Hz (zga (w:=W5.alloc (.cells #[.slice (some ⟨W4.heap.size,0,none⟩) 1 1,.slice A5 (vp L.length).length k5,.slice none 0 0,.slice A3 d.length k3] 31)) (c:=4) (D:=[(some ⟨W4.heap.size,0,none⟩,1,[q]),(A5,k5,vp L.length),(none,0,[]),(A3,k3,d)]) (Reads.litV _ _ _ 4 _ rfl rfl) (by
      intro x hx;rcases List.mem_cons.1 hx with rfl|hx
      ·exact BytIn.later R5.out (New.trans b5 n6)
      rcases List.mem_cons.1 hx with rfl|hx
      ·exact BytIn.later R6.out n6
      rcases List.mem_cons.1 hx with rfl|hx
      ·exact Reads.none_
      obtain rfl:=List.mem_singleton.1 hx;exact BytIn.later R3.out (New.trans n5 (New.trans b5 n6))) (by omega) (by rw[hfd];have:=HVL.out;simp only[List.length_cons,List.length_append];omega))
     rw[hfd] at C;have HC:Hid (X=(0,q::(vp L.length++d))):=Hz (hx.trans (by simp));clear hx hfd;generalize vp L.length=vL at*;go_wp2_with fail
     refine C.out.mono ?_;rintro e W6 ⟨A6,m6,k6,rfl,o6,b6⟩;clear C;go_wp2_with fail
     go_ret2
     rw[HC.out];exact⟨A6,m6,k6,rfl,o6.base_le (by have:=N1.out.size;have:=b14.size;have:=n5.size;have:=b5.size;have:=n6.size;omega),New.trans N1.out (New.trans b14 (New.trans n5 (New.trans b5 (New.trans n6 b6))))⟩
    |true=>
     go_wp2_with fail
     refine P.out.mono ?_;rintro e W5 ⟨A5,m5,k5,rfl,o5,b5⟩;clear P;rw[List.nil_append] at o5;obtain rfl:m5=(vp L.length).length:=by simpa[za2] using o5.len
     have R6:=Hz (show BytIn W5 (A5,k5,vp L.length) from o5.reads);have n6:New W5 (W5.alloc (.cells #[.slice (some ⟨W4.heap.size,0,none⟩) 1 1,.slice A5 (vp L.length).length k5,.slice A1 (zb4 L).length k1,.slice A3 d.length k3] 31)):=(Below.refl _ _).alloc (Nat.le_refl _) _;have hfd:zdb [(some ⟨W4.heap.size,0,none⟩,1,[q]),(A5,k5,vp L.length),(A1,k1,zb4 L),(A3,k3,d)]=q::(vp L.length++(zb4 L++d)):=by simp[zdb]
     have C:=Hz (zga (w:=W5.alloc (.cells #[.slice (some ⟨W4.heap.size,0,none⟩) 1 1,.slice A5 (vp L.length).length k5,.slice A1 (zb4 L).length k1,.slice A3 d.length k3] 31)) (c:=4) (D:=[(some ⟨W4.heap.size,0,none⟩,1,[q]),(A5,k5,vp L.length),(A1,k1,zb4 L),(A3,k3,d)]) (Reads.litV _ _ _ 4 _ rfl rfl) (by
      intro x hx;rcases List.mem_cons.1 hx with rfl|hx
      ·exact BytIn.later R5.out (New.trans b5 n6)
      rcases List.mem_cons.1 hx with rfl|hx
      ·exact BytIn.later R6.out n6
      rcases List.mem_cons.1 hx with rfl|hx
      ·exact BytIn.later R1b.out (New.trans n5 (New.trans b5 n6))
      obtain rfl:=List.mem_singleton.1 hx;exact BytIn.later R3.out (New.trans n5 (New.trans b5 n6))) (by omega) (by rw[hfd];have:=HVL.out;have:=HS.out;simp only[List.length_cons,List.length_append];omega))
     rw[hfd] at C;have HC:Hid (X=(0,q::(vp L.length++(zb4 L++d)))):=Hz (hx.trans (by simp));clear hx hfd;generalize vp L.length=vL at*;generalize zb4 L=sL at*;go_wp2_with fail
     refine C.out.mono ?_;rintro e W6 ⟨A6,m6,k6,rfl,o6,b6⟩;clear C;go_wp2_with fail
     go_ret2
     rw[HC.out];exact⟨A6,m6,k6,rfl,o6.base_le (by have:=N1.out.size;have:=b14.size;have:=n5.size;have:=b5.size;have:=n6.size;omega),New.trans N1.out (New.trans b14 (New.trans n5 (New.trans b5 (New.trans n6 b6))))⟩
 ·have hp:=HP.out
  rw[if_neg hm] at hp;subst hp;have i1:(M==0)=false:=by simpa using hm
  clear hm;go_wp2_with fail
  go_ret2
  exact⟨none,0,0,rfl,Own.nil_,New.trans N1.out b1⟩
end Go.Proofs.Y
