/- Merged. -/
import Derived.Test.YtbahbnbpmfgimaaGreatDoorBun11
set_option maxHeartbeats 2000000
namespace Go.Hm
open Go Go.RowKit
def eqC(a b:zab):Bool:=a.1==b.1&&(a.2.1==b.2.1&&((zad a.2.2.1).toList==(zad b.2.2.1).toList&&(a.2.2.2.1==b.2.2.2.1&&a.2.2.2.2==b.2.2.2.2)))
theorem qem{a b:zab}(ha:∀z∈a.2.2.1,z<256)(hb:∀z∈b.2.2.1,z<256):eqC a b=decide (a=b):=by obtain⟨a0,a1,a2,a3,a4⟩:=a;obtain⟨b0,b1,b2,b3,b4⟩:=b;unfold eqC;dsimp only at*;rw[zgh ha hb,Bool.eq_iff_iff];simp
def eqS(a b:zdb):Bool:=a.1==b.1&&(a.2.1==b.2.1&&(eqC a.2.2.1 b.2.2.1&&eqC a.2.2.2 b.2.2.2))
theorem qin{a b:zdb}(h1:∀z∈a.2.2.1.2.2.1,z<256)(h2:∀z∈a.2.2.2.2.2.1,z<256)(h3:∀z∈b.2.2.1.2.2.1,z<256)(h4:∀z∈b.2.2.2.2.2.1,z<256):eqS a b=true↔a=b:=by obtain⟨n,c,p,q⟩:=a;obtain⟨m,d,r,s⟩:=b;unfold eqS;dsimp only at*;rw[qem h1 h3,qem h2 h4];simp
end Go.Hm
namespace Go.Proofs.Y
open Go.RowKit Go.Hm
set_option maxRecDepth 100000 in
theorem z2v{n n':Int}{b b':Bool}{p q p' q':zab}(W:World):
 (binOp .eql 133 (zce (n,b,p,q)) (zce (n',b',p',q'))).run Tryz.prog W= .ok (.bool (eqS (n,b,p,q) (n',b',p',q'))) W:=by
 obtain⟨p1,p2,p3,p4,p5⟩:=p;obtain⟨q1,q2,q3,q4,q5⟩:=q;obtain⟨r1,r2,r3,r4,r5⟩:=p';obtain⟨s1,s2,s3,s4,s5⟩:=q';show(binOp .eql 133 (.agg #[.int .i64 n,.bool b,.bool p1,.int .i64 p2,.string (zad p3),.int .i64 p4,.int .i64 p5,.bool q1,.int .i64 q2,.string (zad q3),.int .i64 q4,.int .i64 q5]) (.agg #[.int .i64 n',.bool b',.bool r1,.int .i64 r2,.string (zad r3),.int .i64 r4,.int .i64 r5,.bool s1,.int .i64 s2,.string (zad s3),.int .i64 s4,.int .i64 s5])).run Tryz.prog W=_;go_simp
 unfold eqS eqC
 repeat' split
 all_goals simp_all
end Go.Proofs.Y
namespace Go.Hm
open Go Go.RowKit
abbrev nm(l:List zbc)(i:Nat):List Nat:=(l.getD i ([],0,false)).1
def zmb(a:List zbc)(s:List Nat):Prop:=s.length=0\/100<s.length\/s∈a.map (·.1)
instance(a:List zbc)(s:List Nat):Decidable (zmb a s):=by unfold zmb;exact inferInstance
def zla(a:List zbc)(s:List Nat)(t:Int):Int:=if zmb a s then 1 else if 0<=t/\t<=3 then 0 else 3
def zgp(a:List zbc):List zbc->Int
 | []=>0
 |c::l=>if zla a c.1 c.2.1=0 then zgp (a++[c]) l else zla a c.1 c.2.1
def zcy(l:List zbc):Int:=if 64<l.length then 4 else zgp [] l
theorem zyc{l:List zbc}(h:64<l.length):zcy l=4:=by rw[zcy,if_pos h]
theorem z24{l:List zbc}(h: ¬64<l.length):zcy l=zgp (l.take 0) (l.drop 0):=by rw[zcy,if_neg h];rfl
theorem zyd(l:List zbc)(k:Nat)(h:k<l.length):zgp (l.take k) (l.drop k)=if zla (l.take k) (nm l k) (l.getD k ([],0,false)).2.1=0 then zgp (l.take (k+1)) (l.drop (k+1)) else zla (l.take k) (nm l k) (l.getD k ([],0,false)).2.1:=by rw[zjs l k ([],0,false) h,zgp,zac l k ([],0,false) h]
theorem z25(l:List zbc):zgp (l.take l.length) (l.drop l.length)=0:=by rw[List.drop_length];rfl
theorem zvj{l:List zbc}{s:List Nat}{k:Nat}(hk:k<l.length):s∈(l.take (k+1)).map (·.1)↔s∈(l.take k).map (·.1)\/nm l k=s:=by rw[zac l k ([],0,false) hk,List.map_append,List.mem_append];simp[eq_comm,nm]
end Go.Hm
namespace Go.Proofs.Y
open Go.RowKit Go.Hm
theorem qkl(a b:List Nat)(ha:∀x∈a,x<256)(hb:∀x∈b,x<256):((zad a).toList==(zad b).toList)=decide (a=b):=zgh ha hb
set_option maxRecDepth 100000 in
theorem zvk{w:World}{A:Option Addr}{n c:Nat}{L:List zbc}{s:List Nat}{t:Int}{nu:Bool}(h:Reads w w.heap.size 3 A n (recs zls L))(hL:∀x∈L,∀z∈x.1,z<256)(hs:∀z∈s,z<256)(hsl:s.length<=140737488351232)(hn:n<=4611686018427387903):
 Calls Tryz.prog 106 #[.slice A n c,.agg #[.string (zad s),.int .i64 t,.bool nu]] w (zal (.int .i64 (zla L s t)) w):=by
 obtain rfl:=h.lenC;have z1:=zbn s;have K1:=Hz (fun(hh:zmb L s)=>show zla L s t=1 by rw[zla,if_pos hh]);have K2:=Hz (fun(hh: ¬zmb L s)=>show zla L s t=if 0<=t/\t<=3 then 0 else 3 by rw[zla,if_neg hh]);generalize zla L s t=O at*;obtain⟨W0,hW0⟩:∃W,W=w.alloc (.cells #[.string (zad s),.int .i64 t,.bool nu] 71):=⟨_,rfl⟩;have b0:New w W0:=by rw[hW0];exact(Below.refl _ _).alloc (Nat.le_refl _) _
 have B0:Blk W0 w.heap.size 71 #[.string (zad s),.int .i64 t,.bool nu]:=by rw[hW0];exact Blk.new _ _ _
 obtain⟨x0,x1,x2⟩:=zan B0;rw[hW0] at x0 x1 x2;by_cases h0:s.length=0
 ·have O1:=Hz (K1.out (.inl h0))
  have e1:((s.length:Int)==0)=true:=by simp[h0]
  clear h0 K1 K2 B0 h;go_enter Tryz.func106,Tryz.ntmps106
  go_wp2
  go_ret
  exact⟨by rw[O1.out];rfl,by rw[<-hW0];exact b0⟩
 ·have e1:((s.length:Int)==0)=false:=beq_eq_false_iff_ne.2 (by omega)
  by_cases h1:100<s.length
  ·have O1:=Hz (K1.out (.inr (.inl h1)))
   have e2:decide (100<(s.length:Int))=true:=by simp;omega
   clear h0 K1 K2 B0 h;go_enter Tryz.func106,Tryz.ntmps106
   go_wp2
   go_ret
   exact⟨by rw[O1.out];rfl,by rw[<-hW0];exact b0⟩
  ·have e2:decide (100<(s.length:Int))=false:=by simp;omega
   have K1:=Hz (fun(hh:s∈L.map (·.1))=>K1.out (.inr (.inr hh)));have K2:=Hz (fun(hh:s∉L.map (·.1))=>K2.out (fun h'=>by rcases h' with h'|h'|h';exact h0 h';exact h1 h';exact hh h'));have r0:=Reads.later h b0;clear h0 h1 h;go_enter Tryz.func106,Tryz.ntmps106
   go_wp2
   rw[<-hW0];clear x0 x1 x2 hW0;go_loopw [19] (fun i wr=>∃k:Nat,i= .int .i64 (k:Int)/\k<=L.length/\New W0 wr/\Hid (s∉(L.take k).map (·.1))) (fun i _=>L.length-(intOf i).toNat)
   case atStart=>exact⟨0,rfl,by omega,New.refl _,Hz (by simp)⟩
   case round=>
    obtain⟨k,rfl,hk,hb,H⟩:=hrel;have B1:=B0.below hb B0.lt;obtain⟨x0,x1,x2⟩:=zan B1;by_cases hlt:k<L.length
    ·obtain⟨ad,rfl,hbk,c0,c1,c2⟩:=(Reads.later r0 hb).colT hlt
     have M:=Hz (zvj (s:=s) hlt);have hq:=qkl (nm L k) s (by rw[nm,List.getD_eq_getElem?_getD,List.getElem?_eq_getElem hlt];exact hL _ (List.getElem_mem hlt)) hs;have MM:=Hz (show nm L k=s->s∈L.map (·.1) from fun e=>by have:=(zvj (s:=s) hlt).2 (.inr e);exact List.mem_of_mem_take (by rwa[List.map_take] at this))
     unfold nm at*;generalize(L.getD k ([],0,false)).1=s2 at*;generalize(L.getD k ([],0,false)).2.1=t2 at*;generalize(L.getD k ([],0,false)).2.2=n2 at*;have X:=Hz (zan (B1.alloc (.cells #[.string (zad s2),.int .i64 t2,.bool n2] 71)));have Y:=Hz (zan (Blk.new wr 71 #[.string (zad s2),.int .i64 t2,.bool n2]));have hiz:(k:Int)<(L.length:Int):=by omega
     have b1:New W0 (wr.alloc (.cells #[.string (zad s2),.int .i64 t2,.bool n2] 71)):=Below.alloc hb hb.size _;obtain⟨q0,q1,q2⟩:=X.out;obtain⟨p0,p1,p2⟩:=Y.out;by_cases he:s2=s
     ·rw[decide_eq_true he] at hq
      have O1:=Hz (K1.out (MM.out he));clear he x0 x1 x2;go_wp2
      go_ret
      exact⟨by rw[O1.out];rfl,New.trans b0 b1⟩
     ·rw[decide_eq_false he] at hq
      have H2:=Hz (show s∉(L.take (k+1)).map (·.1) from fun hh=>by
       rcases M.out.1 hh with hh|hh
       ·exact H.out hh
       ·exact he hh)
      clear he x0 x1 x2;go_wp2
      go_roundw
      case rel=>exact⟨k+1,by go_num,by omega,b1,H2⟩
      case measure=>simp[intOf];omega
    ·obtain rfl:k=L.length:=by omega
     have H2:=H.out;rw[List.take_length] at H2;have O1:=Hz (K2.out H2);clear H H2 K1 K2;go_wp2
     all_goals go_ret
     all_goals
      simp only[beq_iff_eq,beq_eq_false_iff_ne,ne_eq] at*;refine⟨?_,New.trans b0 hb⟩;rw[O1.out];first
       |(rw[if_pos (by omega)];rfl)
       |(rw[if_neg (by omega)];rfl)
set_option maxRecDepth 100000 in
theorem znq{w:World}{A:Option Addr}{n c:Nat}{L:List zbc}(h:Reads w w.heap.size 3 A n (recs zls L))(hL:∀x∈L,(∀z∈x.1,z<256)/\x.1.length<=140737488351232)(hc:n<=c)(hn:n<=4611686018427387903):
 Calls Tryz.prog 81 #[.slice A n c] w (zal (.int .i64 (zcy L)) w):=by
 obtain rfl:=h.lenC;by_cases hm:64<L.length
 ·rw[zyc hm]
  go_enter Tryz.func81,Tryz.ntmps81
  go_wp2
  go_ret
  exact⟨rfl,New.refl _⟩
 ·have HO:=Hz (z24 hm)
  generalize zcy L=O at*;go_enter Tryz.func81,Tryz.ntmps81
  go_wp2
  go_loopw [11] (fun i wr=>∃k:Nat,i= .int .i64 (k:Int)/\k<=L.length/\New w wr/\Hid (O=zgp (L.take k) (L.drop k))) (fun i _=>L.length-(intOf i).toNat)
  case atStart=>exact⟨0,rfl,by omega,New.refl _,HO⟩
  case round=>
   obtain⟨k,rfl,hk,hb,H⟩:=hrel;by_cases hlt:k<L.length
   ·have r1:=Reads.later h hb
    obtain⟨ad,rfl,hbk,c0,c1,c2⟩:=r1.colT hlt;have hx:(L.getD k ([],0,false))∈L:=by rw[List.getD_eq_getElem?_getD,List.getElem?_eq_getElem hlt];exact List.getElem_mem hlt
    obtain⟨y1,y2⟩:=hL _ hx;have r2:=r1.take (k:=k) (by omega);rw[zie (f:=zls) (sz:=3) (fun _=>rfl) L k (by omega)] at r2;have S:=H.out;rw[zyd L k hlt] at S;have P:=fun(W:World) (hW:New wr W)=>zvk (c:=c) (t:=(L.getD k ([],0,false)).2.1) (nu:=(L.getD k ([],0,false)).2.2) (Reads.later r2 hW) (fun x hx=>(hL x (List.mem_of_mem_take hx)).1) y1 y2 (by omega)
    have P:=Hz P;generalize hck:zla (L.take k) (L.getD k ([],0,false)).1 (L.getD k ([],0,false)).2.1=ck at*;have HS:=Hz S;generalize(L.getD k ([],0,false)).1=s2 at*;generalize(L.getD k ([],0,false)).2.1=t2 at*;generalize(L.getD k ([],0,false)).2.2=n2 at*;clear S hck H hx y1 y2 r1 r2;have hiz:(k:Int)<(L.length:Int):=by omega
    have hiz2:(k:Int)<=(c:Int):=by omega
    obtain⟨W1,hW1⟩:∃W,W=wr.alloc (.cells #[.string (zad s2),.int .i64 t2,.bool n2] 71):=⟨_,rfl⟩;have b1:New wr W1:=by rw[hW1];exact(Below.refl _ _).alloc (Nat.le_refl _) _
    have Y:Blk W1 wr.heap.size 71 #[.string (zad s2),.int .i64 t2,.bool n2]:=by rw[hW1];exact Blk.new _ _ _
    go_wp2_with fail
    rw[<-hW1];clear hW1;refine zaw New [(true,0),(true,1),(true,2),(true,3),(false,4),(true,5)]
     New.refl New.trans (by kernel_rfl) (by kernel_rfl) (by kernel_rfl) (by kernel_rfl) ?_
    have hU:=New.trans b1 (New.drew W1);have hV:=New.refl W1.drew;repeat(first
     |(refine za7 rfl rfl (fun K hK=>?_);go_simp
       (with_reducible refine(P.out _ hU).mono ?_)
       rintro e w9 ⟨rfl,b9⟩;refine hK _ _ b9 ?_;clear hK;replace hU:=New.trans hU b9;replace hV:=New.trans hV b9)
     |(refine zar rfl rfl (v:=?_) (fun W hW=>?_) ?_;rotate_left;(obtain⟨x0,x1,x2⟩:=zan (Y.below (New.trans (New.drew W1) (New.trans hV hW)) Y.lt);go_simp<;> with_reducible rfl);simp only[Act.put,List.setIfInBounds_toArray,List.set_cons_zero,List.set_cons_succ]))
    refine zdh ?_;clear Y b1 P;by_cases hz:ck=0
    ·have HS2:=Hz (show O=zgp (L.take (k+1)) (L.drop (k+1)) by rw[HS.out,if_pos hz])
     subst hz;go_wp2
     go_roundw
     case rel=>exact⟨k+1,by go_num,by omega,New.trans hb hU,HS2⟩
     case measure=>simp[intOf];omega
    ·have HS2:=Hz (show O=ck by rw[HS.out,if_neg hz])
     have e1:(ck != 0)=true:=by simpa using hz
     clear hz;go_wp2
     go_ret
     exact⟨by rw[HS2.out];rfl,New.trans hb hU⟩
   ·obtain rfl:k=L.length:=by omega
    have HS2:=Hz (show O=0 by rw[H.out,z25]);go_wp2
    go_ret
    exact⟨by rw[HS2.out];rfl,hb⟩
end Go.Proofs.Y
namespace Go.Hm
open Go Go.RowKit
def zpi(l:List zbc):Prop:=l.length<=64/\(∀x∈l,0<x.1.length/\x.1.length<=100/\0<=x.2.1/\x.2.1<=3)/\(l.map (·.1)).Nodup
theorem zrg:∀(l a:List zbc),zgp a l=0↔(∀x∈l,0<x.1.length/\x.1.length<=100/\0<=x.2.1/\x.2.1<=3)/\(l.map (·.1)).Nodup/\ ∀x∈l,x.1∉a.map (·.1)
 | [],a=>by simp[zgp]
 |c::l,a=>by
  have key:zla a c.1 c.2.1=0↔(0<c.1.length/\c.1.length<=100/\0<=c.2.1/\c.2.1<=3)/\c.1∉a.map (·.1):=by
   unfold zla;by_cases h:zmb a c.1
   ·rw[if_pos h]
    refine⟨fun hh=>by omega,fun hh=>?_⟩;rcases h with h|h|h
    ·omega
    ·omega
    ·exact absurd h hh.2
   ·rw[if_neg h]
    by_cases h2:0<=c.2.1/\c.2.1<=3
    ·rw[if_pos h2]
     refine⟨fun _=>⟨⟨?_,?_,h2.1,h2.2⟩,fun hh=>h (.inr (.inr hh))⟩,fun _=>rfl⟩
     ·have: ¬c.1.length=0:=fun hh=>h (.inl hh)
      omega
     ·have: ¬100<c.1.length:=fun hh=>h (.inr (.inl hh))
      omega
    ·rw[if_neg h2]
     exact⟨fun hh=>by omega,fun hh=>by omega⟩
  have ih:=zrg l (a++[c]);have e:zgp a (c::l)=0↔zla a c.1 c.2.1=0/\zgp (a++[c]) l=0:=by
   rw[zgp];split
   ·rename_i h;exact⟨fun hh=>⟨h,hh⟩,fun hh=>hh.2⟩
   ·rename_i h;exact⟨fun hh=>absurd hh h,fun hh=>absurd hh.1 h⟩
  rw[e,key,ih];simp only[List.forall_mem_cons,List.map_cons,List.nodup_cons,List.map_append,List.map_nil,List.mem_append,List.mem_singleton];constructor
  ·rintro⟨⟨h1,h2⟩,h3,h4,h5⟩
   refine⟨⟨h1,h3⟩,⟨fun hh=>?_,h4⟩,h2,fun x hx hh=>h5 x hx (.inl hh)⟩;obtain⟨x,hx,hxe⟩:=List.mem_map.1 hh;exact h5 x hx (.inr hxe)
  ·rintro⟨⟨h1,h3⟩,⟨h4,h5⟩,h2,h6⟩
   refine⟨⟨h1,h2⟩,h3,h5,fun x hx hh=>?_⟩;rcases hh with hh|hh
   ·exact h6 x hx hh
   ·exact h4 (List.mem_map.2 ⟨x,hx,hh⟩)
theorem zek(l:List zbc):zcy l=0↔zpi l:=by
 unfold zcy zpi;split
 ·exact⟨fun hh=>by omega,fun hh=>by omega⟩
 ·rename_i h
  rw[zrg];simp only[List.map_nil,List.not_mem_nil,not_false_eq_true,implies_true,and_true];exact⟨fun hh=>⟨by omega,hh⟩,fun hh=>hh.2⟩
end Go.Hm
namespace Go.Proofs.Y
open Go.RowKit Go.Hm
theorem elP:ElT Tryz.prog 108 111 (.agg #[.int .i64 0,.int .i64 0]) 2 16:=⟨by kernel_rfl,by kernel_rfl,rfl,by omega⟩
def z77(l:List (Int × Int))(w:World)(e:Ending)(w':World):Prop:=∃A n c,e= .returned (.slice A n c)/\w'.ownsRow w.heap.size 111 2 (.slice A n c) n (zdj l)/\New w w'
theorem z27(l:List (Int × Int))(p:Int × Int):zdj (l++[p])=zdj l++[.int .i64 p.1,.int .i64 p.2]:=by simp[zdj]
set_option maxRecDepth 100000 in
theorem z0n(f t s:Int)(h1: -9223372036854775808<=f)(h2:t<=9223372036854775807)(h3:s<=9223372036854775807)(w:World):
 Calls Tryz.prog 50 #[.int .i64 f,.int .i64 t,.int .i64 s] w (z77 (zdq f t s) w):=by
 by_cases hg:f<0\/t<=f\/65536<t\/s<1
 ·rw[zvd hg]
  by_cases g1:f<0;all_goals try(have d1:decide (f<0)=false:=by simpa using g1)
  all_goals try(by_cases g2:t<=f)
  all_goals try(have d2:decide (t<=f)=false:=by simpa using g2)
  all_goals try(by_cases g3:65536<t)
  all_goals try(have d3:decide (65536<t)=false:=by simpa using g3)
  all_goals try(have g4:s<1:=by omega)
  all_goals
   clear hg;go_enter Tryz.func50,Tryz.ntmps50
   go_wp2
   go_ret
   exact⟨_,_,_,rfl,zdo,New.refl _⟩
 ·obtain⟨f,rfl⟩:=Int.eq_ofNat_of_zero_le (show 0<=f by omega)
  obtain⟨t,rfl⟩:=Int.eq_ofNat_of_zero_le (show 0<=t by omega);obtain⟨s,rfl⟩:=Int.eq_ofNat_of_zero_le (show 0<=s by omega);have k1:f<t:=by omega
  have k2:t<=65536:=by omega
  have k3:0<s:=by omega
  have k4:s<=9223372036854775807:=by omega
  rw[z0i k1 k2 k3];have d1:decide ((f:Int)<0)=false:=by simp
  have d2:decide (t<=f)=false:=by simp;omega
  have d3:decide ((65536:Int)<(t:Int))=false:=by simp;omega
  have d4:decide ((s:Int)<1)=false:=by simp;omega
  have hN:=z0g (f:=f) (t:=t) k3;clear hg h1 h2 h3;go_enter Tryz.func50,Tryz.ntmps50
  go_wp2
  go_loopw [7,8] (fun v i wr=>∃(k:Nat) (A:Option Addr) (c:Nat),k<=zhy f t s/\i= .int .i64 ((atN f t s k:Nat):Int)/\v= .slice A k c/\wr.ownsRow w.heap.size 111 2 (.slice A k c) k (zdj ((zgn f t s).take k))/\New w wr) (fun _ i _=>t-(intOf i).toNat)
  case atStart=>exact⟨0,none,0,by omega,by congr 1;unfold atN;simp;omega,rfl,zdo,New.refl _⟩
  case round=>
   obtain⟨k,A,c,hk,rfl,rfl,o,b⟩:=hrel;have L:=zgo (f:=f) (t:=t) k3 k;by_cases hlt:k<zhy f t s
   ·obtain⟨e1,e2,e3⟩:=z0h (L.1 hlt)
    have T:=Hz (zpe hlt);have E3:=Hz e3;have hp:atN f t s k<t:=by have:=L.1 hlt;omega
    clear L e1 e3;have HE2:=Hz e2;clear e2;generalize atN f t s k=p at*;generalize hq:atN f t s (k+1)=q at*;have HQ:=Hz hq;have e2:=HE2.out;have z0:=b.size;have hk6:k<=65536:=by omega
    by_cases hm:t-p<s;all_goals
     first
     |(have m2:(p:Int)+((t-p:Nat):Int)=(q:Int):=by have:=HE2.out;omega)
     |(have m2:(p:Int)+(s:Int)=(q:Int):=by have:=HE2.out;omega)
     have mq:p<q/\q<=t:=by have:=HE2.out;omega
     have M2:=Hz m2;clear m2
     go_wp2_with (refine zdp elP rfl (.tmp 36) (.tmp 40) rfl (W:=w) (B:=w.heap.size) (base:=w.heap.size) (n:=k) o rfl rfl b (Nat.le_refl _) z0 rfl (by simp[Value.oneCell']) (by omega) (by simp only[maxLen];omega) ?_
                  intro A' c' w' _ _ o' g' b' _ _)
     go_roundw
     case rel=>
      have e2:=HE2.out;refine⟨k+1,A',c',by omega,by rw[HQ.out];congr 1<;> omega,rfl,?_,b'⟩;rw[T.out,z27,E3.out];first
       |(rw[show(p:Int)+((t:Int)-(p:Int))=(q:Int) by omega] at o';exact o')
       |(rw[show(p:Int)+min (s:Int) ((t:Int)-(p:Int))=(q:Int) by omega] at o';exact o')
       |(rw[show(p:Int)+(s:Int)=(q:Int) by omega] at o';exact o')
     case measure=>simp[intOf];omega
   ·have hk2:k=zhy f t s:=by omega
    have hp:atN f t s k=t:=by
     have: ¬f+k*s<t:=fun hh=>hlt (L.2 hh)
     unfold atN;omega
    rw[hp] at*;have HK:=Hz hk2;have HO:=Hz o;clear hk2 L hp o;go_wp2
    go_ret
    exact⟨_,_,_,rfl,by have o:=HO.out;rw[HK.out,List.take_of_length_le (by rw[zfx];omega)] at o;rw[HK.out];exact o,b⟩
end Go.Proofs.Y
