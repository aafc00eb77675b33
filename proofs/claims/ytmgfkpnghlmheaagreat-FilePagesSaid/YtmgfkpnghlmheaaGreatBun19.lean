/- Merged. -/
import Derived.Deep.DeepCutAuto
import Derived.Test.YtmgfkpnghlmheaaGreatBun15
import Derived.Test.YtmgfkpnghlmheaaGreatBun17
import Derived.Test.YtmgfkpnghlmheaaGreatBun18
set_option maxHeartbeats 4000000
namespace Go.Hm
open Go Go.RowKit
theorem zg7{P:Program}{t:TypeId}{sz:Nat}(ht:P.underlying t=some (.slice (P.elem t)))(hs:∀w,(sizeOf (P.elem t)).run P w= .ok sz w)(A:Option Addr)(n c k m:Nat)(hk:k<=m)(hc:m<=c)(w:World):
 (Instr.sliceAt t (.slice A n c) (some (.int .i64 (k:Int))) (some (.int .i64 (m:Int))) none).run P w= .ok (.slice (if c=k then A else A.map (·.add (k*sz))) (m-k) (c-k)) w:=by
 rw[run_sliceAt_slice w t _ _ _ _ ht,run_slice_lh w t A n c ht .i64 .i64 (k:Int) (m:Int) (by omega) (by omega) (by omega),hs];simp[Result.andThen,sliced]
theorem qby{P:Program}{t:TypeId}{sz:Nat}(ht:P.underlying t=some (.slice (P.elem t)))(hs:∀w,(sizeOf (P.elem t)).run P w= .ok sz w)(A:Option Addr)(n c m:Nat)(hc:m<=c)(w:World):
 (Instr.sliceAt t (.slice A n c) none (some (.int .i64 (m:Int))) none).run P w= .ok (.slice A m c) w:=by
 rw[run_sliceAt_slice w t _ _ _ _ ht,run_slice_h w t A n c ht .i64 (m:Int) (by omega) (by omega),hs];have e:∀a:Addr,a.add 0=a:=fun a=>by simp[Addr.add]
 cases A<;> simp[Result.andThen,sliced,e]
theorem zs0{P:Program}{t:TypeId}{sz:Nat}(ht:P.underlying t=some (.slice (P.elem t)))(hs:∀w,(sizeOf (P.elem t)).run P w= .ok sz w)(A:Option Addr)(n c k:Nat)(hk:k<=n)(w:World):
 (Instr.sliceAt t (.slice A n c) (some (.int .i64 (k:Int))) none none).run P w= .ok (.slice (if c=k then A else A.map (·.add (k*sz))) (n-k) (c-k)) w:=by
 rw[run_sliceAt_slice w t _ _ _ _ ht,run_slice_l w t A n c ht .i64 (k:Int) (by omega) (by omega),hs];simp[Result.andThen,sliced]
end Go.Hm
namespace Go.Proofs.Y
open Go.RowKit Go.Hm
def zfm(F:FootS):Prop:=(∀c∈F.cols,∀z∈c.1,z<256)/\ ∀g∈F.groups,∀l∈g.2,∀p∈l,statData p.2.2
open Go.RowKit Go.Hm
theorem qja:Tryz.prog.underlying 26=some (.slice (Tryz.prog.elem 26)):=by kernel_rfl
theorem qjb(w:World):(sizeOf (Tryz.prog.elem 26)).run Tryz.prog w= .ok 1 w:=by kernel_rfl
theorem z7u(k:IntKind)(l:List Int)(i:Nat):(zeq k l).drop i=zeq k (l.drop i):=by simp[zeq]
theorem zp8(k:IntKind)(l:List Int)(i:Nat):(zeq k l).take i=zeq k (l.take i):=by simp[zeq]
theorem Reads.part{w:World}{B n cap:Nat}{A:Option Addr}{l:List Int}(h:Reads w B 1 A n (zeq .i64 l)){f e:Nat}(hf:f<=e)(he:e<=n)(hc:n<=cap):
 Reads w B 1 (if cap=f then A else A.map (·.add (f*1))) (e-f) (zeq .i64 ((l.drop f).take (e-f))):=by
 have r1:=(h.cut (k:=f) (cap:=cap) (by omega) hc).take (k:=e-f) (by omega);rw[Nat.mul_one,Nat.mul_one,z7u,zp8] at r1;rw[Nat.mul_one];exact r1
set_option maxRecDepth 100000 in
theorem zfb{w:World}{A:Option Addr}{n c:Nat}{l:List Int}(h:Reads w w.heap.size 1 A n (zeq .i64 l))(hl:∀x∈l,ze5 x)(hn:n<=9223372036854775807):
 Calls Tryz.prog 213 #[.slice A n c] w (OptB (zjz l) w):=by
 obtain rfl:=h.lenI;obtain⟨X,hX⟩:∃X,X=zjz l:=⟨_,rfl⟩;rw[<-hX];unfold zjz at hX;by_cases h1:65536<l.length
 ·rw[if_pos h1] at hX
  have HX:=Hz hX;have i1:(65536:Int)<(l.length:Int):=by omega
  clear hX h hl;go_enter Tryz.func213,Tryz.ntmps213
  go_wp2
  go_ret2
  rw[HX.out];exact⟨rfl,New.refl _⟩
 rw[if_neg h1] at hX;by_cases h0:l.length=0
 ·rw[if_pos h0] at hX
  have HX:=Hz hX;have i1: ¬(65536:Int)<(l.length:Int):=by omega
  have e0:((l.length:Int)==0)=true:=by rw[h0];rfl
  have H0:=Hz h0;clear hX h hl h0;go_enter Tryz.func213,Tryz.ntmps213
  go_wp2
  go_ret2
  rw[HX.out];exact⟨none,0,0,rfl,Own.nil_,New.refl _⟩
 rw[if_neg h0] at hX;have i1: ¬(65536:Int)<(l.length:Int):=by omega
 have e0:((l.length:Int)==0)=false:=by rw[beq_eq_false_iff_ne];omega
 have i0:(0:Int)<(l.length:Int):=by omega
 obtain⟨ad,rfl,_,c0⟩:=h.int (i:=0) (by omega);rw[zj1] at c0;have hx:=hl _ (zic (show 0<l.length by omega));have ZG:=Hz (fun W:World=>znu (l.getD 0 0) W hx.1 hx.2);have PT:=Hz (fun W:World=>zcz none 0 0 [] (zig (l.getD 0 0)) W Reads.none_ (by omega) (by have:=zj8 hx;omega));have hvl:=zap (zj8 hx);have SP:=Hz (fun(W:World) (hW:New w W)=>z23 (c:=c) (Reads.later h hW) (by omega));have hin:=zia l;have hsl:=zeu l;have B0:=Hz (zhm (zdu l));have BS:=Hz (zhn (zdu l));have hbl:=zid hin;have hpart:=fun k=>(show∀x∈blk (zdu l) k,ze5 x from zt2 hin k)
 have hbk:=fun k (hk:k<nblk (zdu l).length)=>show(blockD (blk (zdu l) k)).length<=268 from zql (zt2 hin k) (by rw[znz];unfold nblk at hk;omega) (by rw[znz];omega)
 have hNB:Hid (nblk (l.length-1)=nblk (zdu l).length):=Hz (by rw[hsl]);have HX:=Hz hX;have HBL:=Hz hbl;have HPT:=Hz hpart;have HBK:=Hz hbk;have HSL:=Hz hsl;have hs65:(zdu l).length<=65536:=by omega
 clear hX h hl hin hsl hbl hpart hbk hx h0 h1;generalize zdu l=s at*;generalize l.getD 0 0=x at*;generalize hV:vp (zig x)=V at*;clear hV;go_enter Tryz.func213,Tryz.ntmps213
 go_wp2_with fail
 refine(ZG.out _).mono ?_;rintro e w1 ⟨rfl,rfl⟩;go_wp2_with fail
 refine(PT.out _).mono ?_;rintro e w1 ⟨A1,n1,c1,rfl,o1,b1⟩;rw[List.nil_append] at o1;obtain rfl:n1=V.length:=by have:=o1.len;rwa[zaa] at this
 clear ZG PT c0;go_wp2_with fail
 refine(SP.out _ b1).mono ?_;rintro e w2 ⟨A2,n2,c2,rfl,o2,b2⟩;obtain rfl:n2=s.length:=by have:=o2.len;rwa[zcy] at this
 have h21:=zgj o2 (o1.base_le (Nat.zero_le _));have o1:=o1.later b2;have b02:=New.trans b1 b2;have o2:=o2.base_le (b':=w.heap.size) b1.size;have hc2:=o2.cap.1;clear SP b1 b2;have KB1:=Hz (fun W=>zrp s.length W (by omega));have hK:nblk s.length<=2048:=by unfold nblk;omega
 have HK:Hid (nblk s.length=(s.length+31)/32):=Hz rfl;go_wp2_with fail
 refine(KB1.out _).mono ?_;rintro e w3 ⟨rfl,rfl⟩;clear KB1;generalize hKK:nblk s.length=K at*;have HKK:=Hz hKK;clear hKK;go_wp2_with fail
 go_loopw [4,26] (fun v i wr=>∃(k:Nat) (AE:Option Addr) (cE:Nat),k<=K/\i= .int .i64 (k:Int)/\v= .slice AE (V++zci s k).length cE/\Go.Hm.Own wr w.heap.size 5 (.slice AE (V++zci s k).length cE) (za2 .u8 (V++zci s k))/\Go.Hm.Own wr w.heap.size 3 (.slice A2 s.length c2) (zeq .i64 s)/\(Value.ownBlock (.slice A2 s.length c2)=none\/Value.ownBlock (.slice A2 s.length c2)≠Value.ownBlock (.slice AE (V++zci s k).length cE))/\New w wr) (fun _ i _=>K-(intOf i).toNat)
 case atStart=>exact⟨0,A1,c1,Nat.zero_le _,rfl,by rw[B0.out,List.append_nil],by rw[B0.out,List.append_nil];exact o1,o2,by rw[B0.out,List.append_nil];exact h21,b02⟩
 case round=>
  clear o1 o2 h21 b02;obtain⟨k,AE,cE,hk,rfl,rfl,o,u,hap,b⟩:=hrel;by_cases hlt:k<K
  ·have hK2:=HK.out
   obtain⟨f,hf⟩:∃f,f=k*32:=⟨_,rfl⟩;obtain⟨g,hg⟩:∃g,g=f+32:=⟨_,rfl⟩;obtain⟨e,he⟩:∃e,e=min g s.length:=⟨_,rfl⟩;have hfs:f<s.length:=by omega
   have w1:IntKind.i64.wrap ((k:Int)*32)=(f:Int):=by rw[IntKind.wrap_i64];omega
   have w2:IntKind.i64.wrap ((f:Int)+32)=(g:Int):=by rw[IntKind.wrap_i64];omega
   have m1:min (g:Int) (s.length:Int)=(e:Int):=by omega
   have m2:(if(s.length:Int)<(g:Int) then(s.length:Int) else(g:Int))=(e:Int):=by split<;> omega
   have m3:(if s.length<g then(s.length:Int) else(g:Int))=(e:Int):=by split<;> omega
   have SL:=fun W=>zg7 qja qjb A2 s.length c2 f e (by omega) (by omega) W
   have RP:=Reads.part (cap:=c2) u.reads (f:=f) (e:=e) (by omega) (by omega) hc2;have hbe:(s.drop f).take (e-f)=blk s k:=by
    unfold blk;rw[<-hf];by_cases q:g<=s.length
    ·rw[show e-f=32 by omega]
    ·rw[List.take_of_length_le (by rw[List.length_drop];omega),List.take_of_length_le (by rw[List.length_drop];omega)]
   rw[hbe] at RP;obtain⟨A',hA'⟩:∃A',A'=(if c2=f then A2 else A2.map (·.add (f*1))):=⟨_,rfl⟩;rw[<-hA'] at SL RP;have LB:=Hz (zvt (c:=c2-f) RP (HPT.out k) (by omega) (by omega));have hkb:=HBK.out k hlt;have hb2:=HBL.out k (by omega);have BSk:=Hz (show V++zci s (k+1)=V++zci s k++blockD (blk s k) by rw[BS.out k,List.append_assoc]);have hkl:(V++zci s k).length=V.length+(zci s k).length:=List.length_append;have hbq:(V++zci s k).length<=600000:=by omega
   have HO:=Hz (And.intro hf (And.intro hg he));clear hbe hA' RP hf hg he hK2 hb2 hkl;generalize V++zci s k=VB at*;generalize blockD (blk s k)=BD at*;generalize e-f=ef at*;generalize c2-f=cf at*;have hki:(k:Int)<(K:Int):=by omega
   go_wp2_with fail
   refine LB.out.mono ?_;rintro e w3 ⟨A3,n3,c3,rfl,o3,b3⟩;obtain rfl:n3=BD.length:=by have:=o3.len;rwa[zaa] at this
   have u3:=u.later b3;have oo3:=o.later b3;have b03:=New.trans b b3;have z3:=b03.size;clear u o b b3 LB SL m1 m2 m3;go_wp2_with (first
    |(refine zau elB rfl (.tmp 45) (.tmp 46) rfl (W:=w) (B:=w.heap.size) oo3 o3.reads rfl rfl b03 (Nat.le_refl _) z3 (by omega) (by simp only[maxLen];omega) ?_
      intro A5 c5 w5 _ _ o5 g5 b5 d5;have u5:=u3.kept g5 hap;have hap5:=zif hap d5 u3))
   go_roundw
   have hq5:=o5.len;rw[zaa] at hq5;rw[hq5] at o5 hap5;case rel=>exact⟨k+1,A5,c5,by omega,by go_num,by rw[BSk.out,<-hq5],by rw[BSk.out];exact o5,u5,by rw[BSk.out];exact hap5,b5⟩
   case measure=>simp[intOf];omega
  ·obtain rfl:k=K:=by omega
   have hXe:X=some (V++zci s k):=by rw[HX.out,hNB.out]
   go_wp2_with fail
   go_ret2
   rw[hXe];exact⟨_,_,_,rfl,o,b⟩
end Go.Proofs.Y
namespace Go.Hm
open Go Go.RowKit
abbrev ty(l:List za1)(i:Nat):Int:=(l.getD i ([],0,false)).2.1
def zfn(l:List zab)(c:za1):Bool:=l.all fun x=>zaf x c.2.1 c.2.2
def zi8(D:List zdw)(L:List za1):Bool:=(List.zip D L).all fun p=>zfn p.1.2.2 p.2
def zfo(L:List za1)(r:Int)(D:List zdw):Int:=
 if zb5 L≠0 then zb5 L else if zda L.length r D≠0 then zda L.length r D else if zi8 D L then 0 else 3
theorem zv2{m:Nat}{r:Int}{D:List zdw}(h:zda m r D=0):D.length=m/\0<=r/\r<=65536/\ ∀d∈D,((d.2.2.length:Nat):Int)=r:=by
 unfold zda at h;split at h
 ·cases h
 split at h
 ·cases h
 split at h
 ·cases h
 rename_i h1 h2 h3;refine⟨by omega,by omega,by omega,fun d hd=>?_⟩;by_cases e:((d.2.2.length:Nat):Int)=r
 ·exact e
 ·exact absurd ⟨d,hd,e⟩ h3
theorem zyd{l:List zab}{c:za1}(h:zfn l c=true){k:Nat}(hk:k<l.length):zaf (l.getD k (false,0,[],0,0)) c.2.1 c.2.2=true:=by rw[List.getD_eq_getElem?_getD,List.getElem?_eq_getElem hk];exact(List.all_eq_true.1 h) _ (List.getElem_mem hk)
theorem zye{l:List zab}{c:za1}(h:∀k,k<l.length->zaf (l.getD k (false,0,[],0,0)) c.2.1 c.2.2=true):zfn l c=true:=by
 refine List.all_eq_true.2 fun x hx=>?_
 obtain⟨k,hk,rfl⟩:=List.getElem_of_mem hx;have:=h k hk;rwa[List.getD_eq_getElem?_getD,List.getElem?_eq_getElem hk] at this
theorem zyf{D:List zdw}{L:List za1}(hl:D.length=L.length)(h:∀k,k<D.length->zfn (D.getD k (none,0,[])).2.2 (L.getD k ([],0,false))=true):zi8 D L=true:=by
 refine List.all_eq_true.2 fun x hx=>?_
 obtain⟨k,hk,rfl⟩:=List.getElem_of_mem hx;rw[List.length_zip] at hk;have:=h k (by omega);rw[List.getD_eq_getElem?_getD,List.getElem?_eq_getElem (by omega),List.getD_eq_getElem?_getD,List.getElem?_eq_getElem (by omega)] at this;rw[List.getElem_zip];exact this
theorem zpi{D:List zdw}{L:List za1}(hl:D.length=L.length)(h:zi8 D L=true){k:Nat}(hk:k<D.length):zfn (D.getD k (none,0,[])).2.2 (L.getD k ([],0,false))=true:=by have:=(List.all_eq_true.1 h) _ (List.getElem_mem (l:=List.zip D L) (n:=k) (by rw[List.length_zip];omega));rw[List.getElem_zip] at this;rw[List.getD_eq_getElem?_getD,List.getElem?_eq_getElem (by omega),List.getD_eq_getElem?_getD,List.getElem?_eq_getElem (by omega)];exact this
def DataIn(w:World)(B:Nat)(D:List zdw):Prop:=∀d∈D,Reads w B 5 d.1 d.2.2.length (recs zan d.2.2)/\(∀x∈d.2.2,x.2.2.1.length<=140737488351232/\ ∀z∈x.2.2.1,z<256)/\d.2.2.length<=d.2.1/\d.2.1<=9223372036854775807/\(d.1=none->d.2.1=0)
theorem DataIn.later{w w':World}{D:List zdw}(h:DataIn w w.heap.size D)(hb:New w w'):DataIn w' w'.heap.size D:=fun d hd=>⟨Reads.later (h d hd).1 hb,(h d hd).2⟩
end Go.Hm
namespace Go.Proofs.Y
open Go.RowKit Go.Hm
set_option maxRecDepth 100000 in
theorem z8f{w:World}{Ac:Option Addr}{nc cc:Nat}{L:List za1}{r:Int}{Ad:Option Addr}{nd cd:Nat}{D:List zdw}
 (h1:Reads w w.heap.size 3 Ac nc (recs zhq L))(hL:∀x∈L,(∀z∈x.1,z<256)/\x.1.length<=140737488351232)(hc:nc<=cc)(hn:nc<=4611686018427387903)
 (h:Reads w w.heap.size 1 Ad nd (recs zgd D))(hnd:nd<=4611686018427387903)(hD:DataIn w w.heap.size D):
 Calls Tryz.prog 19 #[.agg #[.slice Ac nc cc,.int .i64 r,.slice Ad nd cd]] w (zak (.int .i64 (zfo L r D)) w):=by
 obtain rfl:=h1.lenC;obtain rfl:=h.lenD;have K1:=Hz (fun(hh:zb5 L≠0)=>show zfo L r D=zb5 L by rw[zfo,if_pos hh]);have K2:=Hz (fun(hh:zb5 L=0) (h2:zda L.length r D≠0)=>show zfo L r D=zda L.length r D by rw[zfo,if_neg (by simpa using hh),if_pos h2]);have K3:=Hz (fun(hh:zb5 L=0) (h2:zda L.length r D=0)=>show zfo L r D=if zi8 D L then 0 else 3 by rw[zfo,if_neg (by simpa using hh),if_neg (by simpa using h2)]);have SL:=Hz (fun(h2:zda L.length r D=0)=>zv2 h2);generalize zfo L r D=O at*;obtain⟨W0,hW0⟩:∃W,W=w.alloc (.cells #[.slice Ac L.length cc,.int .i64 r,.slice Ad D.length cd] 25):=⟨_,rfl⟩;have b0:New w W0:=by rw[hW0];exact(Below.refl _ _).alloc (Nat.le_refl _) _
 have B0:Blk W0 w.heap.size 25 #[.slice Ac L.length cc,.int .i64 r,.slice Ad D.length cd]:=by rw[hW0];exact Blk.new _ _ _
 obtain⟨x0,x1,x2⟩:=zad B0;have P1:=Hz (zm6 (c:=cc) (Reads.later h1 b0) hL hc hn);have P2:=Hz (fun(W:World) (hW:New W0 W)=>z8e (Ac:=Ac) (nc:=L.length) (cc:=cc) (r:=r) (cd:=cd) (Reads.later h (New.trans b0 hW)) hnd);rw[hW0] at x0 x1 x2;have r1:=Hz (fun(W:World) (hW:New W0 W)=>Reads.later h1 (New.trans b0 hW));have r0:=Hz (fun(W:World) (hW:New W0 W)=>Reads.later h (New.trans b0 hW));have rD:=Hz (fun(W:World) (hW:New W0 W)=>hD.later (New.trans b0 hW));clear h h1 hD;generalize zb5 L=q1 at*;generalize zda L.length r D=q2 at*;go_enter Tryz.func19,Tryz.ntmps19
 go_wp2_with fail
 rw[<-hW0];refine(P1.out).mono ?_;rintro e W1 ⟨rfl,b1⟩;clear x0 x1 x2 hW0 P1;by_cases h2:q1=0
 ·have K22:=Hz (K2.out h2)
  have K33:=Hz (K3.out h2);clear K1 K2 K3;subst h2;obtain⟨x0,x1,x2⟩:=zad (B0.below b1 B0.lt);go_wp2_with fail
  refine(P2.out _ b1).mono ?_;rintro e W2 ⟨rfl,b2⟩;have b12:=New.trans b1 b2;clear x0 x1 x2 P2 b1 b2;by_cases h3:q2=0
  ·have K5:=Hz (K33.out h3)
   have hSL:=SL.out h3;subst h3;have hDL:=hSL.1;have K6:=Hz (fun(hh:∀k,k<D.length->zfn (D.getD k (none,0,[])).2.2 (L.getD k ([],0,false))=true)=>show O=0 by rw[K5.out,if_pos (zyf hDL hh)]);have K7:=Hz (fun(k:Nat) (hk:k<D.length) (hh: ¬zfn (D.getD k (none,0,[])).2.2 (L.getD k ([],0,false))=true)=>show O=3 by rw[K5.out,if_neg (fun e=>hh (zpi hDL e hk))]);clear K22 K33 K5 SL hSL;obtain⟨x0,x1,x2⟩:=zad (B0.below b12 B0.lt);go_wp2
   clear x0 x1 x2;go_loopw [23] (fun i wr=>∃k:Nat,i= .int .i64 (k:Int)/\k<=D.length/\New W0 wr/\Hid (∀j,j<k->zfn (D.getD j (none,0,[])).2.2 (L.getD j ([],0,false))=true)) (fun i _=>D.length-(intOf i).toNat)
   case atStart=>exact⟨0,rfl,by omega,b12,Hz (by intro j hj;omega)⟩
   case round=>
    obtain⟨k,rfl,hk,hb,H⟩:=hrel;obtain⟨x0,x1,x2⟩:=zad (B0.below hb B0.lt);by_cases hlt:k<D.length
    ·obtain⟨ad,rfl,hbk,c0⟩:=(r0.out _ hb).colD hlt
     have hmem:(D.getD k (none,0,[]))∈D:=by rw[List.getD_eq_getElem?_getD,List.getElem?_eq_getElem hlt];exact List.getElem_mem hlt
     have C:=Hz (fun(W:World) (hW:New W0 W)=>(r1.out W hW).colT (show k<L.length by omega));have E:=Hz (fun(W:World) (hW:New W0 W)=>rD.out W hW _ hmem);have M0:=Hz (fun(hh:∀i,i<(D.getD k (none,0,[])).2.2.length->zaf ((D.getD k (none,0,[])).2.2.getD i (false,0,[],0,0)) (L.getD k ([],0,false)).2.1 (L.getD k ([],0,false)).2.2=true)=>show∀j,j<k+1->zfn (D.getD j (none,0,[])).2.2 (L.getD j ([],0,false))=true by
      intro j hj;rcases Nat.lt_succ_iff_lt_or_eq.1 hj with hj|rfl
      ·exact H.out j hj
      ·exact zye hh)
     have M1:=Hz (fun(i:Nat) (hi:i<(D.getD k (none,0,[])).2.2.length) (hh: ¬zaf ((D.getD k (none,0,[])).2.2.getD i (false,0,[],0,0)) (L.getD k ([],0,false)).2.1 (L.getD k ([],0,false)).2.2=true)=>K7.out k hlt (fun e=>hh (zyd e hi)));clear hmem H;generalize(D.getD k (none,0,[])).1=aA at*;generalize(D.getD k (none,0,[])).2.2=l at*;generalize(D.getD k (none,0,[])).2.1=cA at*;generalize(L.getD k ([],0,false)).1=cn at*;generalize(L.getD k ([],0,false)).2.1=t at*;generalize(L.getD k ([],0,false)).2.2=nu at*;have hiz:(k:Int)<(D.length:Int):=by omega
     have hiz2:(k:Int)<(L.length:Int):=by omega
     go_wp2
     clear x0 x1 x2 c0;go_loopw [30] (fun i wr=>∃j:Nat,i= .int .i64 (j:Int)/\j<=l.length/\New W0 wr/\Hid (∀i,i<j->zaf (l.getD i (false,0,[],0,0)) t nu=true)) (fun i _=>l.length-(intOf i).toNat)
     case atStart=>exact⟨0,rfl,by omega,hb,Hz (by intro j hj;omega)⟩
     case round=>
      obtain⟨j,rfl,hj,hb2,H2⟩:=hrel;by_cases hl2:j<l.length
      ·obtain⟨E1,E2,E3,E4,_⟩:=E.out _ hb2
       obtain⟨ad2,e2,hbk2,d0,d1,d2,d3,d4⟩:=E1.cell5 hl2;subst e2;have hxm:(l.getD j (false,0,[],0,0))∈l:=by rw[List.getD_eq_getElem?_getD,List.getElem?_eq_getElem hl2];exact List.getElem_mem hl2
       have hsz:=(E2 _ hxm).1;obtain⟨ad3,e3,hbk3,f0,f1,f2⟩:=C.out _ hb2;subst e3;have P:=Hz (fun(W:World)=>zfs (w:=W) (b:=(l.getD j (false,0,[],0,0)).1) (n:=(l.getD j (false,0,[],0,0)).2.1) (s:=(l.getD j (false,0,[],0,0)).2.2.1) (x:=(l.getD j (false,0,[],0,0)).2.2.2.1) (y:=(l.getD j (false,0,[],0,0)).2.2.2.2) (cn:=cn) (t:=t) (nu:=nu) hsz);have N1:=Hz (fun(hh: ¬zaf ((l.getD j (false,0,[],0,0)).1,(l.getD j (false,0,[],0,0)).2.1,(l.getD j (false,0,[],0,0)).2.2.1,(l.getD j (false,0,[],0,0)).2.2.2.1,(l.getD j (false,0,[],0,0)).2.2.2.2) t nu=true)=>M1.out j hl2 hh);have N0:=Hz (fun(hh:zaf ((l.getD j (false,0,[],0,0)).1,(l.getD j (false,0,[],0,0)).2.1,(l.getD j (false,0,[],0,0)).2.2.1,(l.getD j (false,0,[],0,0)).2.2.2.1,(l.getD j (false,0,[],0,0)).2.2.2.2) t nu=true)=>show∀i,i<j+1->zaf (l.getD i (false,0,[],0,0)) t nu=true by
        intro i hi;rcases Nat.lt_succ_iff_lt_or_eq.1 hi with hi|rfl
        ·exact H2.out i hi
        ·exact hh)
       clear hxm hsz H2 E1 E2;generalize(l.getD j (false,0,[],0,0)).1=b at*;generalize(l.getD j (false,0,[],0,0)).2.1=n at*;generalize(l.getD j (false,0,[],0,0)).2.2.1=s at*;generalize(l.getD j (false,0,[],0,0)).2.2.2.1=px at*;generalize(l.getD j (false,0,[],0,0)).2.2.2.2=py at*;generalize zaf (b,n,s,px,py) t nu=R at*;have hiz3:(j:Int)<(l.length:Int):=by omega
       obtain⟨W3,hW3⟩:∃W,W=wr.alloc (.cells #[.bool b,.int .i64 n,.string (zac s),.int .i64 px,.int .i64 py] 61):=⟨_,rfl⟩;have b3:New wr W3:=by rw[hW3];exact(Below.refl _ _).alloc (Nat.le_refl _) _
       have Y:Blk W3 wr.heap.size 61 #[.bool b,.int .i64 n,.string (zac s),.int .i64 px,.int .i64 py]:=by rw[hW3];exact Blk.new _ _ _
       have F1:=Hz (fun(W:World) (hW:New W3 W)=>zcb (Y.below hW Y.lt));have F2:=Hz (fun(W:World) (hW:New W3 W)=>zad (B0.below (New.trans hb2 (New.trans b3 hW)) B0.lt));have hb3:(ad3.add (k*3)).block<wr.heap.size:=by rw[za0];exact hbk3
       have F3:=Hz (fun(W:World) (hW:New W3 W)=>(And.intro ((Below.cell (New.trans b3 hW) hb3).trans f0) (And.intro ((Below.cell (p:=⟨(ad3.add (k*3)).block,_,none⟩) (New.trans b3 hW) hb3).trans f1) ((Below.cell (p:=⟨(ad3.add (k*3)).block,_,none⟩) (New.trans b3 hW) hb3).trans f2))));go_wp2_with fail
       rw[<-hW3];clear hW3;refine zam New [(true,0),(true,1),(true,2),(true,3),(true,4),(true,5),(false,6),(true,7)]
        New.refl New.trans (by kernel_rfl) (by kernel_rfl) (by kernel_rfl) (by kernel_rfl) ?_
       have hU:=New.drew W3;have hV:=New.refl W3.drew;repeat(first
        |(refine za8 rfl rfl (fun K hK=>?_);go_simp
          (with_reducible refine(P.out _).mono ?_)
          rintro e w9 ⟨rfl,b9⟩;refine hK _ _ b9 ?_;clear hK;replace hU:=New.trans hU b9;replace hV:=New.trans hV b9)
        |(refine zaq rfl rfl (v:=?_) (fun W hW=>?_) ?_;rotate_left;(obtain⟨p0,p1,p2,p3,p4⟩:=F1.out W (New.trans (New.drew W3) (New.trans hV hW));obtain⟨y0,y1,y2⟩:=F2.out W (New.trans (New.drew W3) (New.trans hV hW));obtain⟨z0,z1,z2⟩:=F3.out W (New.trans (New.drew W3) (New.trans hV hW));go_simp<;> with_reducible rfl);simp only[Act.put,List.setIfInBounds_toArray,List.set_cons_zero,List.set_cons_succ]))
       refine zb2 ?_;clear F1 F2 F3 f0 f1 f2 d0 d1 d2 d3 d4 P Y;have hb4:=New.trans hb2 (New.trans b3 hU);cases R with
       |true=>
        have N3:=Hz (N0.out rfl);go_wp2
        go_roundw
        case rel=>exact⟨j+1,by go_num,by omega,hb4,N3⟩
        case measure=>simp[intOf];omega
       |false=>
        have N3:=Hz (N1.out (by simp));go_wp2
        go_ret
        exact⟨by rw[N3.out];rfl,New.trans b0 hb4⟩
      ·obtain rfl:j=l.length:=by omega
       have M3:=Hz (M0.out H2.out);go_wp2
       go_roundw
       case rel=>exact⟨k+1,by go_num,by omega,hb2,M3⟩
       case measure=>simp[intOf];omega
    ·obtain rfl:k=D.length:=by omega
     have O1:=Hz (K6.out H.out);go_wp2
     go_ret
     exact⟨by rw[O1.out];rfl,New.trans b0 hb⟩
  ·have O1:=Hz (K22.out h3)
   have e1:(q2 != 0)=true:=by simpa using h3
   clear K22 K33 SL h3;go_wp2
   go_ret
   exact⟨by rw[O1.out];rfl,New.trans b0 b12⟩
 ·have O1:=Hz (K1.out h2)
  have e1:(q1 != 0)=true:=by simpa using h2
  clear K1 K2 K3 h2;go_wp2
  go_ret
  exact⟨by rw[O1.out];rfl,New.trans b0 b1⟩
open Go.RowKit Go.Hm
theorem qht:ElT Tryz.prog 71 61 (.agg #[.bool false,.int .i64 0,.string ⟨#[]⟩,.int .i64 0,.int .i64 0]) 5 48:=⟨by kernel_rfl,by kernel_rfl,rfl,by omega⟩
theorem z8y(c:zab):∀u∈zan c,u.oneCell'=true:=by intro u hu;simp[zan] at hu;rcases hu with rfl|rfl|rfl|rfl|rfl<;> rfl
theorem z00{α:Type}{f:α->List Value}(h:∀x,∀u∈f x,u.oneCell'=true)(l:List α):∀u∈recs f l,u.oneCell'=true:=by intro u hu;obtain⟨x,_,hx⟩:=List.mem_flatMap.1 hu;exact h x u hx
open Go.RowKit Go.Hm
theorem elCol7:ElT Tryz.prog 22 70 (.agg #[.string ⟨#[]⟩,.int .i64 0,.bool false]) 3 32:=⟨by kernel_rfl,by kernel_rfl,rfl,by omega⟩
theorem zv7:ElT Tryz.prog 23 71 (.slice none 0 0) 1 24:=⟨by kernel_rfl,by kernel_rfl,rfl,by omega⟩
section
variable{w:World}{ca cb cc:Array Value}{ea eb ec:TypeId}
end
def RowsIn(w:World)(B:Nat)(D:List zdw):Prop:=∀d∈D,w.ownsRow B 61 5 (.slice d.1 d.2.2.length d.2.1) d.2.2.length (recs zan d.2.2)
theorem RowsIn.later{w w':World}{B:Nat}{D:List zdw}(h:RowsIn w B D)(hb:New w w'):RowsIn w' B D:=fun d hd=>zav (h d hd) hb
theorem RowsIn.base{w:World}{B B':Nat}{D:List zdw}(h:RowsIn w B D)(hb:B'<=B):RowsIn w B' D:=fun d hd=>zbg (h d hd) hb
theorem RowsIn.keepT{w w':World}{B g:Nat}{t:TypeId}{cs:Array Value}{D:List zdw}(h:RowsIn w B D)(hT:Blk w g t cs)(hne:61≠t)(hg:w.grownBy w' (some g)):RowsIn w' B D:=fun d hd=>World.ownsRow.kept (h d hd) hg (.inr (zao (h d hd) hT hne))
def TabPost(er:Int)(L:List za1)(r:Int)(C:List (List zab))(w:World)(e:Ending)(w':World):Prop:=
 ∃(Ac Ad:Option Addr) (cc cd:Nat) (D:List zdw),e= .returned (.tuple #[.agg #[.slice Ac L.length cc,.int .i64 r,.slice Ad D.length cd],.int .i64 er])/\
  w'.ownsRow w.heap.size 70 3 (.slice Ac L.length cc) L.length (recs zhq L)/\w'.ownsRow w.heap.size 71 1 (.slice Ad D.length cd) D.length (recs zgd D)/\RowsIn w' w.heap.size D/\D.map (·.2.2)=C/\New w w'
def qhu(er:Int)(L:List za1)(l:List Int):List za1:=if er=0 then l.map (fun c=>L.getD c.toNat ([],0,false)) else []
def qhv(er fr to_:Int):Int:=if er=0 then to_-fr else 0
def qi3(D:List zdw)(fr to_ c:Int):List zab:=((D.getD c.toNat (none,0,[])).2.2.drop fr.toNat).take (to_-fr).toNat
def qhw(er:Int)(D:List zdw)(l:List Int)(fr to_:Int):List (List zab):=if er=0 then l.map (qi3 D fr to_) else []
def ProjPost(er:Int)(L:List za1)(D:List zdw)(l:List Int)(fr to_:Int)(w:World)(e:Ending)(w':World):Prop:=
 (er≠0/\e= .returned (.tuple #[.agg #[.slice none 0 0,.int .i64 0,.slice none 0 0],.int .i64 er])/\New w w')\/(er=0/\TabPost 0 (l.map (fun c=>L.getD c.toNat ([],0,false))) (to_-fr) (l.map (qi3 D fr to_)) w e w')
theorem ProjPost.u{er:Int}{L:List za1}{D:List zdw}{l:List Int}{fr to_:Int}{w w':World}{e:Ending}(h:ProjPost er L D l fr to_ w e w'):TabPost er (qhu er L l) (qhv er fr to_) (qhw er D l fr to_) w e w':=by
 rcases h with⟨h1,rfl,h2⟩|⟨rfl,h⟩
 ·rw[qhu,qhv,qhw,if_neg h1,if_neg h1,if_neg h1]
  exact⟨none,none,0,0,[],rfl,zcp,zcp,fun _ hd=>absurd hd (by simp),rfl,h2⟩
 ·exact h
theorem zpo{L:List za1}{r:Int}{D:List zdw}(h:zfo L r D=0):D.length=L.length/\0<=r/\r<=65536/\L.length<=64/\ ∀d∈D,((d.2.2.length:Nat):Int)=r:=by
 unfold zfo at h;split at h
 ·rename_i h1;exact absurd h h1
 ·rename_i h1
  split at h
  ·rename_i h2;exact absurd h h2
  ·rename_i h2
   obtain⟨a,b,c,d⟩:=zv2 (Classical.not_not.1 h2);refine⟨a,b,c,?_,d⟩;have h3:=Classical.not_not.1 h1;unfold zb5 at h3;split at h3
   ·cases h3
   ·omega
open Go.RowKit Go.Hm
theorem ztr{w:World}{t:Int}{a b:zab}(ha:near a)(hb:near b):Calls Tryz.prog 73 #[.int .i64 t,zca a,zca b] w (zak (.int .i64 (zh2 t a b)) w):=zsq (zzz ha hb)
end Go.Proofs.Y
