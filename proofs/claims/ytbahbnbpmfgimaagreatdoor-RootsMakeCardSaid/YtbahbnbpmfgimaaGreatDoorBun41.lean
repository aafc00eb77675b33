import Derived.Test.YtbahbnbpmfgimaaGreatDoorBun32
import Derived.Test.YtbahbnbpmfgimaaGreatDoorBun34
import Derived.Test.YtbahbnbpmfgimaaGreatDoorBun40
set_option maxHeartbeats 8000000
set_option maxRecDepth 100000
namespace Go.Proofs.Y
open Go.RowKit Go.Hm
noncomputable def openO(b:List Nat):Option (FootS × List Nat):=
 match zpu b with
 |none=>none
 |some s=>match zp4 (fun r=>r) s with
  |none=>none
  |some F=>if zfc F (F.groups.length:Int) 0 0=(b.length:Int)-12-(s.length:Int) then some (F,s) else none
theorem qfe{b s:List Nat}(h8:∀x∈b,x<256)(h:zpu b=some s):∀x∈s,x<256:=by
 unfold zpu at h;split at h
 ·cases h
 ·split at h
  ·cases h
  ·injection h with h
   subst h;exact fun x hx=>h8 x (qoo (qmu hx))
theorem zp5{b:List Nat}(h8:∀x∈b,x<256)(hb:b.length<=140737488351232):IsFoot b (zp4 (fun r=>r) b):=
 qdq (k:=fun r=>r) (fun _ _ h=>⟨Int.le_refl _,h⟩) h8 hb
theorem qdr(n:Nat):qdn n (n:Int) 0 0=true:=by unfold qdn;simp
theorem zr9{F:FootS}(h:zb0 F):zfc F (F.groups.length:Int) 0 0=(szG F.groups:Int):=by
 unfold zfc;have e:zfw F=true:=by unfold zfw;simpa using h
 rw[e,qdr,if_pos (by simp)];exact z3s h
def zf0(body own:List Nat):List Nat:=headL_film++(body++(own++(low own.length 4++tailL)))
theorem zhs(body own:List Nat):(zf0 body own).length=body.length+own.length+12:=by simp[zf0,headL_film,tailL,zbe];omega
theorem z85{body own:List Nat}(ho:own.length<4294967296):zpu (zf0 body own)=some own:=by
 have hl:=zhs body own;have e1:zf0 body own=(headL_film++(body++own))++(low own.length 4++tailL):=by simp[zf0]
 have e2:zf0 body own=(headL_film++(body++(own++low own.length 4)))++tailL:=by simp[zf0]
 have e3:zf0 body own=(headL_film++body)++(own++(low own.length 4++tailL)):=by simp[zf0]
 have l1:headL_film.length=4:=rfl;have l2:tailL.length=4:=rfl;have hN:ownN (zf0 body own)=own.length:=by
  unfold ownN;rw[hl];conv=>lhs;rw[e1]
  rw[qo0 (by simp only[qmv];omega),qo1 (zbe _ 4),zkm (by omega)]
 unfold zpu;rw[hN,hl,if_neg,if_neg (by omega)]
 ·congr 1
  conv=>lhs;rw[e3]
  rw[qo0 (by simp only[qmv];omega),qo1 rfl]
 ·rintro(q|q|q)
  ·omega
  ·exact q (by unfold zf0;rw[qo1 l1])
  ·refine q ?_
   conv=>lhs;rw[e2]
   rw[qo0 (by simp only[qmv,zbe];omega)]
theorem zsa{F:FootS}{body:List Nat}(h:zb0 F)(hd:zfo F)(hs:body.length=szG F.groups)(h8:∀x∈ze8 F,x<256)(ho:(ze8 F).length<4294967296):
 openO (zf0 body (ze8 F))=some (F,ze8 F):=by
 unfold openO;rw[z85 ho];dsimp only;rw[(zp5 h8 (by omega)).compl F h hd rfl];dsimp only;rw[zr9 h,zhs,if_pos (by omega)]
theorem zoc{b:List Nat}{F:FootS}{s:List Nat}(h8:∀x∈b,x<256)(hb:b.length<=140737488351232)(h:openO b=some (F,s)):
 zb0 F/\zfo F/\ze8 F=s/\b=zf0 ((b.drop 4).take (szG F.groups)) s/\szG F.groups+s.length+12=b.length/\s.length<4294967296/\ ∀x∈s,x<256:=by
 unfold openO at h;cases ho:zpu b with
 |none=>rw[ho] at h;cases h
 |some s'=>
  rw[ho] at h;dsimp only at h;cases hf:zp4 (fun r=>r) s' with
  |none=>rw[hf] at h;cases h
  |some F'=>
   rw[hf] at h;dsimp only at h;split at h
   ·rename_i hp
    injection h with h;injection h with h1 h2;subst h1 h2;have hs8:=qfe h8 ho;obtain⟨hl1,hl2⟩:=z05 ho;obtain⟨a1,a2,a3⟩:=(zp5 hs8 (by omega)).sound _ hf;rw[zr9 a1] at hp;have hsz:szG F'.groups+s'.length+12=b.length:=by omega
    have h4:((b.drop (b.length-8)).take 4).length=4:=by rw[ql2,ql0];omega
    have h48:∀x∈(b.drop (b.length-8)).take 4,x<256:=fun x hx=>h8 x (qoo (qmu hx))
    have hlow:low s'.length 4=(b.drop (b.length-8)).take 4:=by have:=zsu _ h48;rw[h4] at this;rw[hl1];exact this
    have hNlt:s'.length<4294967296:=by have:=zrd _ h48;rw[h4] at this;have e:ownN b=num ((b.drop (b.length-8)).take 4):=rfl;omega
    refine⟨a1,a2,a3,?_,hsz,hNlt,hs8⟩;unfold zpu at ho;split at ho
    ·cases ho
    ·rename_i hc
     split at ho
     ·cases ho
     ·injection ho with ho
      rw[not_or,not_or,qqw,qqw] at hc;obtain⟨c1,c2,c3⟩:=hc;rw[<-hl1] at ho;unfold zf0;rw[hlow,<-c2,<-c3];conv=>rhs;rw[<-ho]
      have q1:b.length-8-s'.length=4+szG F'.groups:=by omega
      have q2:b.length-8=4+szG F'.groups+s'.length:=by omega
      have q3:b.length-4=4+szG F'.groups+s'.length+4:=by omega
      rw[q1,q2,q3];have w1:b.drop (4+szG F'.groups)=(b.drop 4).drop (szG F'.groups):=by rw[qoq]
      have w2:b.drop (4+szG F'.groups+s'.length)=((b.drop 4).drop (szG F'.groups)).drop s'.length:=by rw[qoq,qoq];congr 1;omega
      have w3:b.drop (4+szG F'.groups+s'.length+4)=(((b.drop 4).drop (szG F'.groups)).drop s'.length).drop 4:=by rw[qoq,qoq,qoq];congr 1;omega
      rw[w3,w2,w1];have hd1:∀l:List Nat,∀n,l=l.take n++l.drop n:=fun l n=>(qoz n l).symm
      have e1:=hd1 b 4;have e2:=hd1 (b.drop 4) (szG F'.groups);have e3:=hd1 ((b.drop 4).drop (szG F'.groups)) s'.length;have e4:=hd1 (((b.drop 4).drop (szG F'.groups)).drop s'.length) 4;rw[<-e4,<-e3,<-e2,<-e1]
   ·cases h
def z1f(b:List Nat)(w:World)(e:Ending)(w':World):Prop:=
 New w w'/\match openO b with
 |none=>e= .returned (.tuple #[.agg #[.slice none 0 0,.int .i64 0,.slice none 0 0],.slice none 0 0,.int .i64 2])
 |some x=>∃Ac cc L r Ag cg G A n c,e= .returned (.tuple #[zln Ac cc L r Ag cg G,.slice A n c,.int .i64 0])/\zb5 L r G=x.1/\FootIn w' Ac cc L Ag G/\G.length<=cg/\Go.Hm.Own w' w.heap.size 5 (.slice A n c) (zah .u8 x.2)
theorem zwu{L:List zbi}{r:Int}{G:List GrD}(h:zfo (zb5 L r G)):∀g∈G,∀x∈g.2.2.2,∀p∈x.2.2,zep p.2.2:=fun g hg x hx p hp=>
 (h.2 (grP g) (qly.2 ⟨g,hg,rfl⟩) x.2.2 (qly.2 ⟨x,hx,rfl⟩) p hp).fine
theorem wrS{x:Int}(h: -9223372036854775808<=x/\x<=9223372036854775807):wrap64 x=x:=by unfold wrap64;omega
theorem z1g{w:World}{A:Option Addr}{c:Nat}{b:List Nat}(h:Reads w w.heap.size 1 A b.length (zah .u8 b))(h8:∀x∈b,x<256)(hb:b.length<=140737488351232)(hc:b.length<=c)(hc2:c<=9223372036854775807):
 Calls Tryz.prog 32 #[.slice A b.length c] w (z1f b w):=by
 obtain⟨W,hW⟩:∃W,W=w.alloc (.cells #[.slice none 0 0,.int .i64 0,.slice none 0 0] 79):=⟨_,rfl⟩;have n1:New w W:=by rw[hW];exact(qq8 _ _).alloc (ql6 _) _
 have BZ:Blk W w.heap.size 79 #[.slice none 0 0,.int .i64 0,.slice none 0 0]:=by rw[hW];exact qrv _ _ _
 have O:=qrf (zwn (c:=c) (qsg h n1) h8 hb hc hc2);rw[hW] at O;have N1:=qrf n1;have HZ:=qrf BZ;have H8:=qrf (fun s hs=>qfe h8 (s:=s) hs);have HL:=qrf (fun s hs=>z05 (b:=b) (s:=s) hs);have HO:Hid (openO b=match zpu b with
  |none=>none
  |some s=>match zp4 (fun r=>r) s with
   |none=>none
   |some F=>if zfc F (F.groups.length:Int) 0 0=(b.length:Int)-12-(s.length:Int) then some (F,s) else none):=qrf rfl
 have HW:=qrf hW;unfold z1f;generalize openO b=X at*;clear h h8 n1 BZ hW;go_enter Tryz.func32,Tryz.ntmps32
 go_wp2_with fail
 refine O.out.mono ?_;rintro e W1 ⟨b1,hpost⟩;rw[<-HW.out] at b1;have BZ1:=HZ.out.below b1 HZ.out.lt;clear O;cases hs:zpu b with
 |none=>
  rw[hs] at hpost;obtain rfl:=hpost;have hx:X=none:=by rw[HO.out,hs]
  subst hx;clear hs
  go_wp2_with (refine zan rfl 79 (.tmp 2) (.tmp 15) rfl w.heap.size _ rfl rfl BZ1 (by kernel_rfl) rfl (by simp[Value.oneCell']) ?_
               intro W2 BR G2;obtain⟨r0,r1,r2⟩:=zar BR)
  exact bodyPost_ret (v:= .tuple #[.agg #[.slice none 0 0,.int .i64 0,.slice none 0 0],.slice none 0 0,.int .i64 2]) (by simp[results,Tryz.results32,go_sem,r0,r1,r2]) rfl ⟨zbo (qr0 N1.out b1) G2 (ql6 _) (ql6 _),rfl⟩
 |some s=>
  rw[hs] at hpost;obtain⟨A1,c1,rfl,R1,hc1,hc12⟩:=hpost;obtain⟨hl1,hl2⟩:=HL.out s hs;have hsl:s.length+12<=b.length:=by omega
  have hb1:=b1.size;have D:=qrf (zwt (c:=c1) (R1.more (by have:=b1.size;rw[HW.out] at this;exact this)) (H8.out s hs) (by omega));have IF:=qrf (zp5 (H8.out s hs) (by omega));have hx:=HO.out;rw[hs] at hx;have HX:=qrf hx;have RS:=qrf R1;have HSL:=qrf hsl;have HB:=qrf hb;clear hx hs HO R1 hl1 hl2 hsl hb1 hb hc hc1 hc2 hc12 HL H8;go_wp2_with fail
  refine D.out.mono ?_;intro e W2 hq;clear D;cases hF:zp4 (fun r=>r) s with
  |none=>
   rw[hF] at hq;obtain⟨rfl,b2⟩:=hq;have hx:X=none:=by rw[HX.out,hF]
   subst hx;have BZ2:=(BZ1.below b2 BZ1.lt);clear hF BZ1
   go_upto_region 5 with(refine zan rfl 79 (.tmp 7) (.tmp 19) rfl W2.heap.size _ rfl rfl (qrv W2 79 #[.slice none 0 0,.int .i64 0,.slice none 0 0]) (by kernel_rfl) rfl (by simp[Value.oneCell']) ?_
                         intro W3 BF G3;have b3:New W2 W3:=zbo ((qq8 _ _).alloc (ql6 _) _) G3 (ql6 _) (ql6 _);have BZ3:=BZ2.below b3 BZ2.lt;clear BF G3 BZ2)
   go_upto_region 6 with fail
   go_wp2_with (refine zan rfl 79 (.tmp 2) (.tmp 37) rfl w.heap.size _ rfl rfl BZ3 (by kernel_rfl) rfl (by simp[Value.oneCell']) ?_
                intro W4 BR G4;obtain⟨r0,r1,r2⟩:=zar BR)
   exact bodyPost_ret (v:= .tuple #[.agg #[.slice none 0 0,.int .i64 0,.slice none 0 0],.slice none 0 0,.int .i64 2]) (by simp[results,Tryz.results32,go_sem,r0,r1,r2]) rfl ⟨zbo (qr0 N1.out (qr0 b1 (qr0 b2 b3))) G4 (ql6 _) (ql6 _),rfl⟩
  |some F=>
   rw[hF] at hq;obtain⟨Ac,cc,L,r,Ag,cg,G,rfl,hFP,⟨FX,hcg⟩,b2⟩:=hq;obtain⟨f1,f2,f3⟩:=IF.out.sound F hF;rw[<-hFP] at f1 f2 f3;have hx:=HX.out;rw[hF,<-hFP] at hx;have hgl:(zb5 L r G).groups.length=G.length:=by unfold zb5;simp
   dsimp only at hx;rw[hgl] at hx;have FI:=FX 0 W2 (ql7 _) (qlp W2 _);have PL:=fun(W:World) (hW:New W2 W)=>zv8 (r:=r) (cc:=cc) (cg:=cg) (g:=(G.length:Int)) (c:=0) (p:=0) (FI.later hW) (zwu f2)
   generalize zfc (zb5 L r G) (G.length:Int) 0 0=V at*;unfold zln at PL⊢;replace PL:=qrf PL;have BZ2:=(BZ1.below b2 BZ1.lt);have HFX:=qrf FX;have RS2:=qrf (fun(W:World) (hW:New W2 W)=>zhk (c:=c1) (qsg ((RS.out.more (by have:=b1.size;rw[HW.out] at this;exact this)).later b2) hW) (by have:=HSL.out;have:=HB.out;omega));have hz12:=b1.size;have hz22:=b2.size;replace hx:=qrf hx;clear hF BZ1 HX IF f1 f3 f2 hgl hFP FX FI
   go_upto_region 5 with(refine zan rfl 79 (.tmp 7) (.tmp 19) rfl W2.heap.size _ rfl rfl (qrv W2 79 #[.slice none 0 0,.int .i64 0,.slice none 0 0]) (by kernel_rfl) rfl (by simp[Value.oneCell']) ?_
                         intro W3 BF G3;have b3:New W2 W3:=zbo ((qq8 _ _).alloc (ql6 _) _) G3 (ql6 _) (ql6 _);have BZ3:=BZ2.below b3 BZ2.lt;obtain⟨x0,x1,x2⟩:=zar BF;clear G3 BZ2)
   go_wp2_with fail
   refine(PL.out W3 b3).mono ?_;rintro e W4 ⟨rfl,b4⟩;clear PL x0 x1 x2;have b24:=qr0 b3 b4;have BZ4:=BZ3.below b4 BZ3.lt;have BF4:=BF.below b4 BF.lt;obtain⟨i1,i2⟩:wrap64 ((b.length:Int)-12)=(b.length:Int)-12/\wrap64 ((b.length:Int)-12-(s.length:Int))=(b.length:Int)-12-(s.length:Int):=by have:=HSL.out;have:=HB.out;exact⟨wrS (by omega),wrS (by omega)⟩
   clear BZ3 BF b3 b4;by_cases hv:V=(b.length:Int)-12-(s.length:Int)
   ·have hX:X=some (zb5 L r G,s):=by rw[hx.out,if_pos hv]
    have q:(V != (b.length:Int)-12-(s.length:Int))=false:=by simpa using hv
    clear hv hx;subst hX;go_wp2_with fail
    refine zcf New 3 [(0,0),(1,1),(2,2),(2,3),(1,4),(1,5)] qrz qr0 (by kernel_rfl) (by kernel_rfl) (by kernel_rfl) (by kernel_rfl) ?_;have F:=qrf (fun(W:World) (hW:New W4.drew W)=>BF4.below (qr0 (qr1 _) hW) BF4.lt);refine zco rfl rfl (v:=?_) (fun W hW=>?_) ?_;rotate_left;(obtain⟨x0,x1,x2⟩:=zar (F.out W hW);go_simp<;> with_reducible rfl);simp only[Act.put,qoi,qn8,qoj];refine zb2 rfl rfl (v:=?_) (fun W=>?_) ?_;rotate_left;(go_simp<;> with_reducible rfl);simp only[Act.put,qoi,qn8,qoj];refine zbl rfl rfl (fun K hK=>?_);go_simp
    refine(RS2.out W4.drew (qr0 b24 (qr1 _))).mono ?_;rintro e W5 ⟨A5,n5,c5,rfl,o5,b5⟩;refine hK _ _ (.inr (.inr b5)) ?_;clear hK;have BZ5:=BZ4.below (qr0 (qr1 _) b5) BZ4.lt;refine zbl rfl rfl (fun K hK=>?_);refine zlw 79 (.tmp 2) (.tmp 38) rfl w.heap.size _ rfl rfl BZ5 (by kernel_rfl) (by simp) (by simp[Value.oneCell']) ?_;intro W6 BR G6;refine hK _ _ (.inr (.inl rfl)) ?_;clear hK BZ5 F;refine zb2 rfl rfl (v:=?_) (fun W=>?_) ?_;rotate_left;(go_simp<;> with_reducible rfl);simp only[Act.put,qoi,qn8,qoj];refine zb2 rfl rfl (v:=?_) (fun W=>?_) ?_;rotate_left;(go_simp<;> with_reducible rfl);simp only[Act.put,qoi,qn8,qoj];refine zfd ?_;go_wp2_with fail
    obtain⟨r0,r1,r2⟩:=zar BR;have b25:=qr0 b24 (qr0 (qr1 _) b5);have hz5:=b25.size;have hbase:w.heap.size<W4.heap.size:=by have:=HZ.out.lt;have:=b1.size;have:=b24.size;omega
    have o5:Go.Hm.Own W5 W4.heap.size 5 (.slice A5 n5 c5) (zah .u8 s):=o5;refine bodyPost_ret (v:= .tuple #[.agg #[.slice Ac L.length cc,.int .i64 r,.slice Ag G.length cg],.slice A5 n5 c5,.int .i64 0]) (by simp[results,Tryz.results32,go_sem,r0,r1,r2]) rfl ⟨zbo (qr0 N1.out (qr0 b1 (qr0 b2 b25))) G6 (ql6 _) (ql6 _),?_⟩;exact⟨Ac,cc,L,r,Ag,cg,G,A5,n5,c5,rfl,rfl,HFX.out w.heap.size W6 (by have:=HZ.out.lt;have:=b1.size;omega) ((qr4 b25).trans G6),hcg,(o5.kept G6 (.inr (fun e=>by have:=(o5.lt _ e).1;omega))).base_le (by omega)⟩
   ·have hX:X=none:=by rw[hx.out,if_neg hv]
    have q:(V != (b.length:Int)-12-(s.length:Int))=true:=by simpa using hv
    clear hv hx HFX RS2 BF4;subst hX
    go_wp2_with (refine zan rfl 79 (.tmp 2) (.tmp 37) rfl w.heap.size _ rfl rfl BZ4 (by kernel_rfl) rfl (by simp[Value.oneCell']) ?_
                 intro W5 BR G5;obtain⟨r0,r1,r2⟩:=zar BR)
    exact bodyPost_ret (v:= .tuple #[.agg #[.slice none 0 0,.int .i64 0,.slice none 0 0],.slice none 0 0,.int .i64 2]) (by simp[results,Tryz.results32,go_sem,r0,r1,r2]) rfl ⟨zbo (qr0 N1.out (qr0 b1 (qr0 b2 b24))) G5 (ql6 _) (ql6 _),rfl⟩
def zmz(t:Int)(l:List zab):zdl:=l.foldl (fun s c=>zne t s (zkb c)) zb7
theorem z1n{t:Int}:∀(l a:List zab) {s:zdl},IsStat t a s->IsStat t (a++l) (l.foldl (fun s c=>zne t s (zkb c)) s)
 | [],a,s,h=>by simpa using h
 |c::l,a,s,h=>by
  have:=z1n l (a++[c]) (h.merge (zrw t c));simpa using this
theorem zof(t:Int)(l:List zab):IsStat t l (zmz t l):=z1n l [] (zrv t)
def zcd(D:List (List zab))(c:Nat)(s:Int × Int):List zab:=((D.getD c []).drop s.1.toNat).take (s.2-s.1).toNat
def zik(L:List zbi)(E:List Int)(D:List (List zab))(c:Nat)(s:Int × Int):Int × List Nat:=pgE (L.getD c zf5).2.1 (L.getD c zf5).2.2 (E.getD c 0) (zcd D c s)
def zeh(L:List zbi)(E:List Int)(D:List (List zab))(c:Nat)(s:Int × Int):zbc:=(((zik L E D c s).2.length:Int),((zcd D c s).length:Int),zmz (L.getD c zf5).2.1 (zcd D c s))
abbrev WSt:=Option (List (List Nat) × Int)
def pgW(L:List zbi)(E:List Int)(D:List (List zab))(c:Nat)(S:WSt)(s:Int × Int):WSt:=
 match S with
 |none=>none
 |some x=>if(zik L E D c s).1=0/\(zik L E D c s).2.length<=268435456/\x.2+(zik L E D c s).2.length<=1073741824 then some (x.1++[(zik L E D c s).2],x.2+(zik L E D c s).2.length) else none
def chW(L:List zbi)(E:List Int)(D:List (List zab))(c:Nat)(S:WSt)(l:List (Int × Int)):WSt:=l.foldl (pgW L E D c) S
def gpW(L:List zbi)(E:List Int)(D:List (List zab))(pr:Int)(s:Int × Int)(S:WSt):Nat->WSt
 |0=>S
 |k+1=>chW L E D k (gpW L E D pr s S k) (zd5 s.1 s.2 pr)
def grW(L:List zbi)(E:List Int)(D:List (List zab))(pr:Int)(S:WSt)(s:Int × Int):WSt:=gpW L E D pr s S L.length
def z1o(L:List zbi)(E:List Int)(D:List (List zab))(pr:Int)(l:List (Int × Int)):WSt:=l.foldl (grW L E D pr) (some ([],0))
def zd7(L:List zbi)(E:List Int)(D:List (List zab))(pr:Int)(s:Int × Int):za9:=(s.2-s.1,(List.range L.length).map fun c=>(zd5 s.1 s.2 pr).map (zeh L E D c))
def ze1(L:List zbi)(r:Int)(E:List Int)(D:List (List zab))(gr pr:Int):FootS:=⟨L,r,(zd5 0 r gr).map (zd7 L E D pr)⟩
noncomputable def zg0(L:List zbi)(r:Int)(D:List ze9)(gr pr:Int)(E:List Int):Int × List Nat:=
 if zgr L r D≠0 then(zgr L r D,[])
 else if zey gr pr E L≠0 then(zey gr pr E L,[])
 else match z1o L E (D.map (·.2.2)) pr (zd5 0 r gr) with
  |none=>(4,[])
  |some x=>match zq6 (ze1 L r E (D.map (·.2.2)) gr pr) with
   |none=>(4,[])
   |some own=>if 1073741824<own.length then(4,[]) else(0,zf0 x.1.flatten own)
theorem qeg{L:List zbi}{E:List Int}{D:List (List zab)}{c:Nat}(s:Int × Int):pgW L E D c none s=none:=rfl
theorem zjv{L:List zbi}{E:List Int}{D:List (List zab)}{c:Nat}:∀l,chW L E D c none l=none
 | []=>rfl
 |s::l=>by
  show chW L E D c (pgW L E D c none s) l=none;rw[qeg,zjv l]
theorem z1p{L:List zbi}{E:List Int}{D:List (List zab)}{pr:Int}{s:Int × Int}:∀k,gpW L E D pr s none k=none
 |0=>rfl
 |k+1=>by rw[gpW,z1p k,zjv]
theorem zqi{L:List zbi}{E:List Int}{D:List (List zab)}{pr:Int}:∀l:List (Int × Int),l.foldl (grW L E D pr) none=none
 | []=>rfl
 |s::l=>by
  show l.foldl (grW L E D pr) (gpW L E D pr s none L.length)=none;rw[z1p,zqi l]
theorem qeh{L:List zbi}{E:List Int}{D:List (List zab)}{c:Nat}{S:WSt}{l:List (Int × Int)}{k:Nat}(hk:k<l.length):chW L E D c S (l.take (k+1))=pgW L E D c (chW L E D c S (l.take k)) (l.getD k (0,0)):=by rw[zae _ k (0,0) hk];unfold chW;rw[qqz];rfl
theorem z9w{L:List zbi}{E:List Int}{D:List (List zab)}{c:Nat}{S:WSt}{l:List (Int × Int)}(k:Nat)(h:chW L E D c S (l.take k)=none):chW L E D c S l=none:=by
 have e:chW L E D c S l=chW L E D c (chW L E D c S (l.take k)) (l.drop k):=by unfold chW;rw[<-qqz,qoz]
 rw[e,h,zjv]
theorem zw1{L:List zbi}{E:List Int}{D:List (List zab)}{pr:Int}{s:Int × Int}{S:WSt}{k:Nat}(h:gpW L E D pr s S k=none):∀n,k<=n->gpW L E D pr s S n=none
 |0,hn=>by
  obtain rfl:k=0:=by omega
  exact h
 |n+1,hn=>by
  rcases qma n k with hlt|hge
  ·obtain rfl:k=n+1:=by omega
   exact h
  ·rw[gpW,zw1 h n hge,zjv]
theorem z9x{L:List zbi}{E:List Int}{D:List (List zab)}{pr:Int}{l:List (Int × Int)}{k:Nat}(hk:k<l.length):z1o L E D pr (l.take (k+1))=grW L E D pr (z1o L E D pr (l.take k)) (l.getD k (0,0)):=by rw[zae _ k (0,0) hk];unfold z1o;rw[qqz];rfl
theorem z4j{L:List zbi}{E:List Int}{D:List (List zab)}{pr:Int}{l:List (Int × Int)}(k:Nat)(h:z1o L E D pr (l.take k)=none):z1o L E D pr l=none:=by
 have e:z1o L E D pr l=(l.drop k).foldl (grW L E D pr) (z1o L E D pr (l.take k)):=by unfold z1o;rw[<-qqz,qoz]
 rw[e,h,zqi]
def OkW(S:WSt):Prop:=∀x,S=some x->x.2=(x.1.flatten.length:Int)/\x.2<=1073741824/\(x.1.length:Int)<=x.2
theorem qjo{L:List zbi}{E:List Int}{D:List (List zab)}{c:Nat}{S:WSt}{s:Int × Int}(h:OkW S):OkW (pgW L E D c S s):=by
 cases S with
 |none=>intro x hx;cases hx
 |some y=>
  intro x hx;obtain⟨h1,h2,h3⟩:=h y rfl;unfold pgW at hx;dsimp only at hx;split at hx
  ·rename_i hc
   injection hx with hx;subst hx;have hne:1<=(zik L E D c s).2.length:=by obtain⟨_,_,_,_,d,_,hb⟩:=z04 (show pgE _ _ _ _=(0,(zik L E D c s).2) from Prod.ext hc.1 rfl);rw[hb,qm9];omega
   refine⟨?_,hc.2.2,?_⟩
   ·dsimp only
    rw[qpm,qmv,qpw,qpx,qmg,h1];omega
   ·dsimp only
    rw[qmv,qp7];omega
  ·cases hx
theorem z9y{L:List zbi}{E:List Int}{D:List (List zab)}{c:Nat}:∀(l:List (Int × Int)) {S:WSt},OkW S->OkW (chW L E D c S l)
 | [],_,h=>h
 |s::l,S,h=>z9y l (S:=pgW L E D c S s) (qjo h)
theorem z9z{L:List zbi}{E:List Int}{D:List (List zab)}{pr:Int}{s:Int × Int}{S:WSt}(h:OkW S):∀k,OkW (gpW L E D pr s S k)
 |0=>h
 |k+1=>z9y _ (z9z h k)
theorem zzf{L:List zbi}{E:List Int}{D:List (List zab)}{pr:Int}(l:List (Int × Int)):OkW (z1o L E D pr l):=by
 have:∀(l:List (Int × Int)) {S:WSt},OkW S->OkW (l.foldl (grW L E D pr) S):=by
  intro l;induction l with
  |nil=>intro S h;exact h
  |cons s l ih=>intro S h;exact ih (S:=grW L E D pr S s) (z9z h _)
 exact this l (fun x hx=>by injection hx with hx;subst hx;simp)
end Go.Proofs.Y
