import Derived.Laws.EntriesVeiled
import Derived.Test.YtbahbnbpmfgimaaGreatDoorBun20
set_option maxHeartbeats 4000000
set_option maxRecDepth 100000
namespace Go.Hm
open Go Go.RowKit
theorem zoo(n:Nat):∀k,k<=64->n<18446744073709551616->(Lib.bitLen n<=k↔n<2^k):=by
 intro k hk hn;refine⟨fun h=>?_,fun h=>Lib.bitLen_le n k hk h⟩;induction k generalizing n with
 |zero=>
  by_cases h0:n=0
  ·omega
  ·have:=Lib.bitLen_half n h0 hn
   omega
 |succ k ih=>
  by_cases h0:n=0
  ·subst h0;exact qnv _
  ·have h1:=Lib.bitLen_half n h0 hn
   have h2:=ih (n/2) (by omega) (by omega) (by omega);rw[qm3];omega
theorem z14{x:Nat}(h0:x≠0)(h:x<9223372036854775808):Lib.bitLen x=x.log2+1/\x.log2<63:=by
 have a1:=qm1 h0;have a2:=qm2 (n:=x);have hl:x.log2<63:=(qm5 (by omega:1<2)).1 (qm6 a1 h);have b1:=(zoo x (x.log2+1) (by omega) (by omega)).2 a2;have b2: ¬Lib.bitLen x<=x.log2:=fun hb=>by have:=(zoo x x.log2 (by omega) (by omega)).1 hb;omega
 omega
end Go.Hm
namespace Go.Proofs.Y
open Go.RowKit Go.Hm
theorem qfw(x:Nat)(w:World)(h:x<=9223372036854775807):Calls Tryz.prog 103 #[.int .u64 (x:Int)] w (zcv (.int .i64 (Lib.bitLen x:Nat)) w):=by
 have L:=qrf (bits_Len64 (x:Int) w (by omega) (by omega));go_enter Tryz.func103,Tryz.ntmps103
 go_wp2_with (go_at_call 120;refine L.out.mono ?_;rintro e w' ⟨rfl,rfl⟩)
 go_ret
 exact⟨by simp,rfl⟩
theorem z49(n:Int)(w:World)(h0: -9223372036854775808<=n)(h:n<=9223372036854775807):Calls Tryz.prog 72 #[.int .i64 n] w (zcv (.int .i64 (zbd n.toNat:Nat)) w):=by
 by_cases h2:n<2
 ·have hs:zbd n.toNat=0:=by unfold zbd;exact if_pos (by omega)
  rw[hs];have d:decide (n<2)=true:=decide_eq_true h2;go_enter Tryz.func72,Tryz.ntmps72
  go_wp2
  go_ret
  exact⟨by simp,rfl⟩
 ·have d:decide (n<2)=false:=decide_eq_false h2
  obtain⟨m,rfl⟩:∃m:Nat,n=(m:Int):=⟨n.toNat,by omega⟩;obtain⟨s1,s2,s3⟩:=zrc (n:=m) (by omega);obtain⟨b1,b2⟩:=z14 (x:=m-1) (by omega) (by omega);have L:=qfw (m-1) w (by omega);rw[b1] at L;have L:=qrf L;have e1:(m:Int)-1=((m-1:Nat):Int):=by omega
  rw[qmt,s1];have hp:2^(m-1).log2<9223372036854775808:=by omega
  generalize hk:(m-1).log2=k at*;obtain⟨p,hpp⟩:∃p,p=2^k:=⟨_,rfl⟩;have e2:((k+1:Nat):Int)-1=(k:Int):=by omega
  clear s1 s2 s3 b1 hk;go_enter Tryz.func72,Tryz.ntmps72
  go_wp2_with (go_at_call 103;refine L.out.mono ?_;rintro e w' ⟨rfl,rfl⟩)
  go_ret
  have c:(2:Int)^k=(p:Int):=by rw[hpp];simp
  have c2:wrap64 ((2:Int)^k)=((2^k:Nat):Int):=by rw[c,<-hpp];rw[<-hpp] at hp;unfold wrap64;omega
  exact⟨by rw[<-c2];rfl,rfl⟩
theorem z15(n:Int)(w:World)(h0: -9223372036854775808<=n)(h:n<=1152921504606846976):Calls Tryz.prog 73 #[.int .i64 n] w (zcv (.int .i64 (zbd n.toNat:Nat)) w):=by
 by_cases h2:n<2
 ·have hs:zbd n.toNat=0:=by unfold zbd;exact if_pos (by omega)
  rw[hs];have d:decide (n<2)=true:=decide_eq_true h2;go_enter Tryz.func73,Tryz.ntmps73
  go_wp2
  go_ret
  exact⟨by simp,rfl⟩
 ·have d:decide (n<2)=false:=decide_eq_false h2
  obtain⟨m,rfl⟩:∃m:Nat,n=(m:Int):=⟨n.toNat,by omega⟩;go_enter Tryz.func73,Tryz.ntmps73
  go_wp2
  go_loop [3] (fun v=>∃k p:Nat,v= .int .i64 (p:Int)/\Hid (p=2^k)/\p<m) (fun v=>m-(intOf v).toNat)
  case atStart=>exact⟨0,1,rfl,qrf rfl,by omega⟩
  case round=>
   obtain⟨k,p,rfl,HP,hp⟩:=hrel;have hp0:0<p:=by rw[HP.out];exact qm4 (by omega)
   by_cases hlt:p<m-p
   ·have d2:decide ((p:Int)<(m:Int)-(p:Int))=true:=decide_eq_true (by omega)
    have HP2:=qrf (show 2*p=2^(k+1) by rw[HP.out,qm3];omega);go_wp2
    go_round
    case rel=>exact⟨k+1,2*p,by go_num,HP2,by omega⟩
    case measure=>simp[intOf];omega
   ·have d2:decide ((p:Int)<(m:Int)-(p:Int))=false:=decide_eq_false (by omega)
    have hs:=(z43 (n:=m) (k:=k) (by rw[<-HP.out];exact hp) (by rw[qm3,<-HP.out];omega)).1;have HS:=qrf hs;clear hs;go_wp2
    go_ret
    exact⟨by rw[HS.out,<-HP.out];rfl,rfl⟩
end Go.Proofs.Y
namespace Go.Hm
open Go Go.RowKit
abbrev zb3:List Nat:=[110,111,100,101]
abbrev zbn:List Nat:=[110,111,110,101]
def zb4(s:List Nat)(L:List (List Nat)):List Nat:=(zdj s L).map Int.toNat
def zim(d:List Nat):Prop:=d.length=32/\ ∀x∈d,x<256
theorem qbe(l:List Nat):∀x∈zi9 l,0<=x/\x<256:=by intro x hx;unfold zi9 zl5 at hx;obtain⟨k,_,rfl⟩:=qly.1 hx;unfold qf3;omega
theorem zup(s:List Nat)(L:List (List Nat)):∀x∈zdj s L,0<=x/\x<256:=by
 unfold zdj;cases za5 s L with
 |none=>
  intro x hx;have:x=0:=(qoa.1 hx).2;omega
 |some f=>exact qbe f
theorem z19{l:List Int}(h:∀x∈l,0<=x):(l.map Int.toNat).map (fun n:Nat=>(n:Int))=l:=by
 rw[qnr];conv=>rhs;rw[<-List.map_id l]
 exact qns fun x hx=>by have:=h x hx;simp;omega
theorem zbu(s:List Nat)(L:List (List Nat)):zim (zb4 s L):=by refine⟨by unfold zb4;rw[qos,zfs],fun x hx=>?_⟩;obtain⟨y,hy,rfl⟩:=qly.1 hx;have:=zup s L y hy;omega
theorem z50(s:List Nat)(L:List (List Nat)):zah .u8 (zb4 s L)=zap .u8 (zdj s L):=by
 have:=z19 (l:=zdj s L) fun x hx=>(zup s L x hx).1
 unfold zah zap zb4;conv=>rhs;rw[<-this]
 simp only[qnr];rfl
theorem zl8{a b:List Nat}:za5 zb3 [a,b]=some (zc2 zb3 [a,b]):=by unfold za5;exact if_pos ⟨by decide,by decide,by simp⟩
theorem zja:za5 zbn []=some (zc2 zbn []):=by unfold za5;exact if_pos ⟨by decide,by decide,by simp⟩
def zel(L:List (List Nat)):List Nat × List (List Nat):=
 if _h0:L.length=0 then(zb4 zbn [],[zc2 zbn []])
 else if _h1:L.length=1 then(L.getD 0 [],[])
 else
  let a:=zel (L.take (zbd L.length))
  let b:=zel (L.drop (zbd L.length))
  (zb4 zb3 [a.1,b.1],a.2++b.2++[zc2 zb3 [a.1,b.1]])
termination_by L.length
decreasing_by
 ·have:=zg9 (n:=L.length) (by omega)
  rw[ql2];omega
 ·have:=zg9 (n:=L.length) (by omega)
  rw[ql0];omega
theorem zhe:zel []=(zb4 zbn [],[zc2 zbn []]):=by rw[zel];rfl
theorem zhf(x:List Nat):zel [x]=(x,[]):=by rw[zel];rfl
theorem zjb{L:List (List Nat)}(h:2<=L.length):zel L=(zb4 zb3 [(zel (L.take (zbd L.length))).1,(zel (L.drop (zbd L.length))).1],
 (zel (L.take (zbd L.length))).2++(zel (L.drop (zbd L.length))).2++[zc2 zb3 [(zel (L.take (zbd L.length))).1,(zel (L.drop (zbd L.length))).1]]):=by
 rw[zel,dif_neg (by omega),dif_neg (by omega)]
theorem qe1{C:List (List Nat)->Prop}(h0:C [])(h1:∀x,C [x])(h2:∀L,2<=L.length->C (L.take (zbd L.length))->C (L.drop (zbd L.length))->C L):∀L,C L:=by
 intro L;induction hn:L.length using Nat.strongRecOn generalizing L with
 |_ n ih=>
  match L,hn with
  | [],_=>exact h0
  | [x],_=>exact h1 x
  |x::y::r,hn=>
   have hs:=zg9 (n:=(x::y::r).length) (by simp);refine h2 _ (by simp) (ih _ ?_ _ rfl) (ih _ ?_ _ rfl)
   ·rw[ql2];omega
   ·rw[ql0];omega
def Digs(L:List (List Nat)):Prop:=∀d∈L,zim d
theorem Digs.take{L:List (List Nat)}(h:Digs L)(k:Nat):Digs (L.take k):=fun d hd=>h d (qmu hd)
theorem Digs.drop{L:List (List Nat)}(h:Digs L)(k:Nat):Digs (L.drop k):=fun d hd=>h d (qoo hd)
theorem zdn:∀L,Digs L->zim (zel L).1:=by
 refine qe1 ?_ ?_ ?_
 ·intro _;rw[zhe];exact zbu _ _
 ·intro x h;rw[zhf];exact h x (by simp)
 ·intro L h _ _ _;rw[zjb h];exact zbu _ _
theorem zfg:∀L,Digs L->1<=L.length->(zel L).2.length=L.length-1/\ ∀f∈(zel L).2,∃a b,zim a/\zim b/\za5 zb3 [a,b]=some f:=by
 refine qe1 ?_ ?_ ?_
 ·intro _ h;simp at h
 ·intro x h _;rw[zhf];exact⟨rfl,by simp⟩
 ·intro L h i1 i2 hd _
  obtain⟨s1,s2,s3⟩:=zg9 h;obtain⟨a1,a2⟩:=i1 (hd.take _) (by rw[ql2];omega);obtain⟨b1,b2⟩:=i2 (hd.drop _) (by rw[ql0];omega);rw[zjb h];refine⟨?_,?_⟩
  ·simp only[qmv,a1,b1,ql2,ql0,qm9,qpg]
   omega
  ·intro f hf
   simp only[qnd,qne] at hf;rcases hf with(hf|hf)|rfl
   ·exact a2 f hf
   ·exact b2 f hf
   ·exact⟨_,_,zdn _ (hd.take _),zdn _ (hd.drop _),zl8⟩
open Go Go.RowKit
def KeepT(t:TypeId)(w w':World):Prop:=w.heap.size<=w'.heap.size/\ ∀b cs,Blk w b t cs->Blk w' b t cs
theorem KeepT.refl(t:TypeId)(w:World):KeepT t w w:=⟨ql6 _,fun _ _ h=>h⟩
theorem KeepT.trans{t:TypeId}{w w1 w2:World}(h:KeepT t w w1)(k:KeepT t w1 w2):KeepT t w w2:=⟨qlw h.1 k.1,fun b cs hb=>k.2 b cs (h.2 b cs hb)⟩
theorem KeepT.new{t:TypeId}{w w':World}(h:New w w'):KeepT t w w':=⟨h.size,fun _ _ hb=>hb.below h hb.lt⟩
end Go.Hm
namespace Go.Proofs.Y
open Go.RowKit Go.Hm
abbrev tW:TypeId:=125
def OvPost(R:List Ev->World->Prop)(es:List Ev)(w:World)(e:Ending)(w':World):Prop:=e= .returned (.tuple #[])/\R es w'/\KeepT tW w w'
theorem OvPost.after{R:List Ev->World->Prop}{es:List Ev}{w w1:World}(k:KeepT tW w w1){e:Ending}{w':World}(h:OvPost R es w1 e w'):OvPost R es w e w':=⟨h.1,h.2.1,k.trans h.2.2⟩
end Go.Proofs.Y
namespace Go.Hm
open Go Go.RowKit
theorem KeepT.set_{t t':TypeId}{w:World}{b:Nat}{cs:Array Value}(h:Blk w b t' cs)(hne:t'≠t)(i:Nat)(u:Value):KeepT t w (w.setCell ⟨b,i,none⟩ u):=
 ⟨by simp,fun b' cs' h'=>h'.far (p:=⟨b,i,none⟩) (fun e=>qrx h h' hne e.symm) u⟩
end Go.Hm
namespace Go.Proofs.Y
open Go.RowKit Go.Hm
theorem zd4{α:Type}{l:List α}{k:Nat}(d:α)(h:k<l.length):l.getD k d∈l:=by rw[qnp,qlx h];exact qml h
def zfo(F:FootS):Prop:=(∀c∈F.cols,∀z∈c.1,z<256)/\ ∀g∈F.groups,∀l∈g.2,∀p∈l,statData p.2.2
def qhn(c:zbi)(g:Nat)(S:St)(w:World)(e:Ending)(w':World):Prop:=e= .returned (.agg #[.string (zai c.1),.int .i64 c.2.1,.bool c.2.2])/\CurS w' g S/\w.grownBy w' (some g)
theorem z30{w:World}{g:Nat}{S:St}(h:CurS w g S):Calls Tryz.prog 115 #[.pointer (some ⟨g,0,none⟩)] w (qhn (zt4 S).1 g (zt4 S).2 w):=by
 have hok:=h.ok;have hg:=h.lt;obtain⟨W0,hW0⟩:∃W,W=w.alloc (.cells #[.string ⟨#[]⟩,.int .i64 0,.bool false] 71):=⟨_,rfl⟩;have b0:New w W0:=by rw[hW0];exact(qq8 _ _).alloc (ql6 _) _
 have G0:w.grownBy W0 (some g):=by rw[hW0];exact qra _ _ _
 have B0:Blk W0 w.heap.size 71 #[.string ⟨#[]⟩,.int .i64 0,.bool false]:=by rw[hW0];exact qrv _ _ _
 have h0:=h.below b0;have hne:w.heap.size≠g:=by omega
 have P1:=qrf (zeb (m:=100) h0 (by omega) (by omega));have hl:=zds (m:=100) S (by omega) hok;have ok1:=zb9 (m:=100) hok;rw[hW0] at P1;have HW:=qrf hW0;clear h h0 hok hW0 b0;generalize hS:zt4 S=R;unfold zt4 at hS;generalize lenS 100 S=R1 at*;obtain⟨n1,S1⟩:=R1;simp only at hl ok1 hS P1;have HS:=qrf hS;clear hS;go_enter Tryz.func115,Tryz.ntmps115
 go_wp2_with fail
 refine P1.out.mono ?_;rintro e w1 ⟨rfl,C1,G1⟩;rw[<-HW.out] at G1;have B1:=B0.grown G1 (by simpa using hne);have G01:=G0.trans G1;have P2:=qrf (zpg (n:=(n1:Int)) C1 (by omega) (by omega));obtain⟨ok2,l2⟩:=zjf (n:=(n1:Int)) ok1;replace HS:=HS.out;generalize ze6 (n1:Int) S1=R2 at*;obtain⟨s2,S2⟩:=R2;simp only at ok2 l2 HS P2;replace HS:=qrf HS;clear P1 B0 G0 G1 C1;go_wp2_with fail
 refine P2.out.mono ?_;rintro e w2 ⟨A2,n2,c2,rfl,e2,k2,C2,G2⟩;have B2:=B1.grown G2 (by simpa using hne);have G02:=G01.trans G2;have X2:=znu (c:=c2) k2.reads;have P3:=qrf (zix C2);have ok3:=ztb ok2;have lt3:=zn2 ok2;replace HS:=HS.out;generalize zcn S2=R3 at*;obtain⟨t3,S3⟩:=R3;simp only at ok3 lt3 HS P3;replace HS:=qrf HS;clear P2 B1 G01 G2 C2 k2 e2;go_wp2_with fail
 refine P3.out.mono ?_;rintro e w3 ⟨rfl,C3,G3⟩;have B3:=B2.grown G3 (by simpa using hne);have G03:=G02.trans G3;have P4:=qrf (zix C3);have lt4:=zn2 ok3;replace HS:=HS.out;generalize zcn S3=R4 at*;obtain⟨u4,S4⟩:=R4;simp only at lt4 HS P4;replace HS:=qrf HS;clear P3 B2 G02 G3 C3 X2;go_wp2_with fail
 refine P4.out.mono ?_;rintro e w4 ⟨rfl,C4,G4⟩;have B4:=B3.grown G4 (by simpa using hne);have G04:=G03.trans G4;clear P4 B3 G03 G4;by_cases hu:1<u4
 ·have P5:=qrf (zpf C4)
  go_wp2_with fail
  refine P5.out.mono ?_;rintro e w5 ⟨rfl,C5,G5⟩;have B5:=B4.grown G5 (by simpa using hne);have G05:=G04.trans G5;clear P5 B4 G04 G5 C4;obtain⟨p0,p1,p2⟩:=zar B5;have f0:=B5.frozen 0;have f1:=B5.frozen 1;have f2:=B5.frozen 2;have HB:=qrf B5;clear B5;go_wp2
  obtain⟨W3,hW3,R10,G10,K10⟩:=z6b HB.out (a:= .string (zai s2)) (b:= .int .i64 (t3:Int)) (c:= .bool ((u4:Int)==1)) G05 (ql6 _);rw[<-hW3];have s0:=R10.cell 0;have s1:=R10.cell 1;have s2':=R10.cell 2;simp at s0 s1 s2';have CW:CurS W3 g none:=by rw[hW3];exact((C5.keep zch HB.out (by omega) (by decide)).keep zch (HB.out.set_ 0 _) (by omega) (by decide)).keep zch ((HB.out.set_ 0 _).set_ 1 _) (by omega) (by decide)
  refine bodyPost_ret (v:= .agg #[.string (zai s2),.int .i64 (t3:Int),.bool ((u4:Int)==1)]) (by simp[results,Tryz.results115,go_sem,s0,s1,s2']) rfl ⟨?_,?_,G10⟩
  ·rw[<-HS.out,show((u4:Int)==1)=decide (u4=1) by rw[qmj];simp;omega]
  ·rw[<-HS.out,if_pos hu]
   exact CW
 ·
  obtain⟨p0,p1,p2⟩:=zar B4;have f0:=B4.frozen 0;have f1:=B4.frozen 1;have f2:=B4.frozen 2;have HB:=qrf B4;clear B4;go_wp2
  obtain⟨W3,hW3,R10,G10,K10⟩:=z6b HB.out (a:= .string (zai s2)) (b:= .int .i64 (t3:Int)) (c:= .bool ((u4:Int)==1)) G04 (ql6 _);rw[<-hW3];have s0:=R10.cell 0;have s1:=R10.cell 1;have s2':=R10.cell 2;simp at s0 s1 s2';have CW:CurS W3 g S4:=by rw[hW3];exact((C4.keep zch HB.out (by omega) (by decide)).keep zch (HB.out.set_ 0 _) (by omega) (by decide)).keep zch ((HB.out.set_ 0 _).set_ 1 _) (by omega) (by decide)
  refine bodyPost_ret (v:= .agg #[.string (zai s2),.int .i64 (t3:Int),.bool ((u4:Int)==1)]) (by simp[results,Tryz.results115,go_sem,s0,s1,s2']) rfl ⟨?_,?_,G10⟩
  ·rw[<-HS.out,show((u4:Int)==1)=decide (u4=1) by rw[qmj];simp;omega]
  ·rw[<-HS.out,if_neg hu]
   exact CW
theorem zi4{w w1 w2:World}{row:Option Nat}(h:w.grownBy w1 row)(h2:w1.grownBy w2 row):w.grownBy w2 row:=h.trans h2
def qdw(l:List zbi)(g:Nat)(S:St)(w:World)(e:Ending)(w':World):Prop:=∃A n c,e= .returned (.slice A n c)/\n<=c/\c<=maxLen/\w'.ownsRow w.heap.size 71 3 (.slice A n c) n (recs zl3 l)/\CurS w' g S/\w.grownBy w' (some g)
theorem elC:ElT Tryz.prog 53 71 (.agg #[.string ⟨#[]⟩,.int .i64 0,.bool false]) 3 32:=⟨by kernel_rfl,by kernel_rfl,rfl,by omega⟩
theorem qdx{w:World}{g:Nat}{S:St}(h:CurS w g S):Calls Tryz.prog 96 #[.pointer (some ⟨g,0,none⟩)] w (qdw (getC S).1 g (getC S).2 w):=by
 have hok:=h.ok;have hg:=h.lt;have P1:=qrf (zeb (m:=64) h (by omega) (by omega));have hl:=zds (m:=64) S (by omega) hok;have ok1:=zb9 (m:=64) hok;have G1:=qrf (show getC S=_ from rfl);generalize hR:getC S=R at*;unfold getC at hR;generalize lenS 64 S=R1 at*;obtain⟨n,S1⟩:=R1;simp only at hl ok1 hR P1;have HR:=qrf hR;clear hR G1 h hok;go_enter Tryz.func96,Tryz.ntmps96
 go_wp2_with fail
 refine P1.out.mono ?_;rintro e w1 ⟨rfl,C1,G1⟩;have z1:=G1.size;clear P1;have g1:g<w1.heap.size:=C1.lt
 go_wp2_with (refine z2c elC rfl (.tmp 8) (.tmp 8) rfl (W:=w1) (B:=w1.heap.size) n rfl rfl rfl rfl (qq8 _ w1) (ql6 _) (by omega) (by simp only[maxLen];omega) ?_
              intro w2 o2 g2 b2 s2)
 have C2:=C1.below b2;have G2:w.grownBy w2 (some g):=zh3 G1 b2;obtain⟨gm,hgm⟩:∃gm,gm=w1.heap.size:=⟨_,rfl⟩;rw[<-hgm] at o2⊢;have hgm1:w.heap.size<=gm/\g≠gm:=by omega
 have o2:=ze4 o2 hgm1.1;clear hgm C1 G1 z1 g2 b2 s2 g1;go_loopw [12] (fun i wr=>∃k:Nat,i= .int .i64 (k:Int)/\k<=n/\CurS wr g (ze0 k S1).2/\wr.ownsRow w.heap.size 71 3 (.slice (some ⟨gm,0,none⟩) n n) n (recs zl3 ((ze0 k S1).1++List.replicate (n-k) ([],0,false)))/\w.grownBy wr (some g)) (fun i _=>n-(intOf i).toNat)
 case atStart=>exact⟨0,rfl,by omega,C2,by simpa[recs,ze0,List.flatMap_replicate,zl3,zai] using o2,G2⟩
 case round=>
  obtain⟨k,rfl,hk,C3,o3,G3⟩:=hrel;by_cases hlt:k<n
  ·have P4:=qrf (z30 C3)
   obtain⟨q1,q2⟩:=zr3 k S1;have okk:=z09 k ok1;have hlen:=zlu k S1;have fin:=zwc okk;have HQ1:=qrf q1;have HQ2:=qrf q2;clear q1 q2;generalize(ze0 k S1).1=pre at*;generalize(ze0 k S1).2=Sk at*;generalize zt4 Sk=R4 at*;obtain⟨⟨nm4,t4,u4⟩,S4⟩:=R4;simp only at P4;have hrep:List.replicate (n-k) (([],0,false):zbi)=([],0,false)::List.replicate (n-(k+1)) ([],0,false):=by rw[show n-k=(n-(k+1))+1 by omega];rfl
   rw[hrep,za7,zhd] at o3;have hpl:(recs zl3 pre).length=k*3:=by rw[zaz (sz:=3) (fun _=>rfl),hlen]
   have hiz:(k:Int)<(n:Int):=by omega
   have HO3:=qrf o3;clear o3 C3 hrep;go_wp2_with fail
   refine P4.out.mono ?_;rintro e w4 ⟨rfl,C4,G4⟩;have o4:=qlm HO3.out G4 (.inr (by simp[Value.ownBlock];exact fun e=>hgm1.2 e.symm));have G04:=zi4 G3 G4;obtain⟨cs,B4⟩:=zxl o4;have c0:=o4.cellAt (k*3) (by omega);have c1:=o4.cellAt (k*3+1) (by omega);have c2:=o4.cellAt (k*3+2) (by omega);rw[qoy (by omega),hpl] at c0 c1 c2;simp[zl3] at c0 c1 c2;have f0:=o4.frozenAt (k*3);have f1:=o4.frozenAt (k*3+1);have f2:=o4.frozenAt (k*3+2);have HO4:=qrf o4;clear o4 P4 HO3;go_wp2
   obtain⟨W5,hW5,o5,g5⟩:=qbm (a:= .string (zai nm4)) (b:= .int .i64 t4) (d:= .bool u4) HO4.out hpl;rw[<-hW5];clear hW5;go_roundw
   case rel=>exact⟨k+1,by go_num,by omega,by rw[HQ2.out];exact C4.keep g5 B4 hgm1.2 (by decide),by rw[HQ1.out,qmi,za7];exact o5,z6a G04 g5 hgm1.1⟩
   case measure=>simp[intOf];omega
  ·obtain rfl:k=n:=by omega
   rw[qn6,qpq,qmg] at o3;have hfin:=zr4 k ok1;have HR:=HR.out;have hlen:=zlu k S1;generalize ze0 k S1=R5 at*;obtain⟨L,S5⟩:=R5;simp only at o3 hfin HR hlen C3;subst hlen;have r3:=qrt o3;have P6:=qrf (zn8 (c:=L.length) r3 (fun x hx=>⟨(hfin x hx).1,by have:=(hfin x hx).2;omega⟩) (ql6 _) (by omega));have P5:=qrf (qe6 C3);rcases S5 with _|l5
   ·rw[if_pos (.inl rfl)] at HR
    subst HR;go_wp2_with fail
    refine P5.out.mono ?_;rintro e w5 ⟨rfl,rfl⟩;have P7:=qrf (zpf C3);go_wp2_with fail
    refine P7.out.mono ?_;rintro e w7 ⟨rfl,C7,G7⟩;go_wp2
    go_ret
    exact⟨none,0,0,rfl,by omega,by simp[maxLen],zdx,C7,zi4 G3 G7⟩
   ·by_cases hck:zc7 L=0
    ·rw[if_neg (by simp[hck])] at HR
     subst HR;rw[hck] at P6;go_wp2_with fail
     refine P5.out.mono ?_;rintro e w5 ⟨rfl,rfl⟩;go_wp2_with fail
     refine P6.out.mono ?_;rintro e w6 ⟨rfl,b6⟩;go_wp2
     go_ret
     exact⟨_,_,_,rfl,ql6 _,by simp only[maxLen];omega,za8 o3 b6,C3.below b6,zh3 G3 b6⟩
    ·rw[if_pos (.inr hck)] at HR
     subst HR;generalize zc7 L=ck at*;have e1:(ck != 0)=true:=by simpa using hck
     clear hck;go_wp2_with fail
     refine P5.out.mono ?_;rintro e w5 ⟨rfl,rfl⟩;go_wp2_with fail
     refine P6.out.mono ?_;rintro e w6 ⟨rfl,b6⟩;have P7:=qrf (zpf (C3.below b6));go_wp2_with fail
     refine P7.out.mono ?_;rintro e w7 ⟨rfl,C7,G7⟩;go_wp2
     go_ret
     exact⟨none,0,0,rfl,by omega,by simp[maxLen],zdx,C7,zi4 (zh3 G3 b6) G7⟩
end Go.Proofs.Y
namespace Go.Hm
open Go Go.RowKit
theorem qd7(k:IntKind)(l:List Int)(i:Nat)(x:Int):(zap k l).set i (.int k x)=zap k (l.set i x):=by simp[zap]
theorem zeo(k:IntKind)(n:Nat)(x:Int):zap k (List.replicate n x)=List.replicate n (.int k x):=by simp[zap]
theorem Own.int0{w:World}{base:Nat}{e:TypeId}{g n c i:Nat}{k:IntKind}{l:List Int}(h:Own w base e (.slice (some ⟨g,0,none⟩) n c) (zap k l))(hi:i<n):
 base<=g/\g<w.heap.size/\w.cell? ⟨g,i,none⟩=some (.int k (l.getD i 0))/\w.frozen? ⟨g,i,none⟩=false/\
  ∀y:Int,Own (w.setCell ⟨g,i,none⟩ (.int k y)) base e (.slice (some ⟨g,0,none⟩) n c) (zap k (l.set i y)):=by
 have hn:=h.len;rw[zhw] at hn;obtain⟨u,h3,h1,h2,h4,h5,h6⟩:=h.at0 hi;rw[zoj k l i (by omega)] at h3;injection h3 with h3;subst h3;exact⟨h1,h2,h4,h5,fun y=>by rw[<-qd7];exact h6 _⟩
theorem zlz{P:List Int}{n k:Nat}(q:Int)(hP:P.length=k)(hk:k<n):(P++List.replicate (n-k) 0).set k q=(P++[q])++List.replicate (n-(k+1)) 0:=by rw[qn5 _ _ (by omega),hP,qn6,show n-k=(n-(k+1))+1 by omega,qn7,qn8,qmi];rfl
theorem zwv{P:List Nat}{n k:Nat}(q:Nat)(hP:P.length=k)(hk:k<n):(P++List.replicate (n-k) 0).set k q=(P++[q])++List.replicate (n-(k+1)) 0:=by rw[qn5 _ _ (by omega),hP,qn6,show n-k=(n-(k+1))+1 by omega,qn7,qn8,qmi];rfl
end Go.Hm
namespace Go.Proofs.Y
open Go.RowKit Go.Hm
def qd8(l:List Int)(w:World)(e:Ending)(w':World):Prop:=∃A n c,e= .returned (.slice A n c)/\Go.Hm.Own w' w.heap.size 3 (.slice A n c) (zap .i64 l)/\New w w'
def OptI(o:Option (List Int))(w:World)(e:Ending)(w':World):Prop:=
 match o with
 |none=>e= .returned (.tuple #[.slice none 0 0,.bool false])/\New w w'
 |some l=>∃A n c,e= .returned (.tuple #[.slice A n c,.bool true])/\Go.Hm.Own w' w.heap.size 3 (.slice A n c) (zap .i64 l)/\New w w'
theorem qd9{w:World}{A:Option Addr}{n c:Nat}{l:List Int}(h:Reads w w.heap.size 1 A n (zap .i64 l))(h0:0<n)(hn:n<=1000000):
 Calls Tryz.prog 209 #[.slice A n c] w (zcv (.int .i64 (leastD l)) w):=by
 obtain rfl:=h.lenI;obtain⟨ad,rfl,_,c0⟩:=h.int h0;rw[zfp] at c0;have t1: ¬(l.length:Int)<1:=by omega
 have t2: ¬l.length<1:=by omega
 have t3:(0:Int)<(l.length:Int):=by omega
 have HR:=qrf h;have L0:Hid (zhl l 0=l.getD 0 0):=qrf rfl;have LS:Hid (∀j,0<j->zhl l j=min (zhl l (j-1)) (l.getD j 0)):=qrf (fun j hj=>by obtain⟨k,rfl⟩:∃k,j=k+1:=⟨j-1,by omega⟩;rfl)
 have LD:Hid (leastD l=zhl l (l.length-1)):=qrf rfl;clear h;generalize leastD l=LL at*;generalize zhl l=LK at*;generalize l.getD 0 0=z0 at*;go_enter Tryz.func209,Tryz.ntmps209
 go_wp2_with fail
 go_loop [3,4] (fun v i=>∃j:Nat,0<j/\j<=l.length/\i= .int .i64 (j:Int)/\v= .int .i64 (LK (j-1))) (fun _ i=>l.length+1-(intOf i).toNat)
 case atStart=>exact⟨1,by omega,h0,rfl,by rw[qn6,L0.out]⟩
 case round=>
  obtain⟨j,hj0,hj,rfl,rfl⟩:=hrel;clear c0;by_cases hlt:j<l.length
  ·obtain⟨ad',e,_,c1⟩:=HR.out.int hlt
   injection e with e;subst e;have hs:=LS.out j hj0;have HSK:=qrf hs;clear hs;have hki:(j:Int)<(l.length:Int):=by omega
   have hw:IntKind.i64.wrap ((j:Int)+1)=(j:Int)+1:=by rw[qrl];omega
   generalize l.getD j 0=x at*;generalize LK (j-1)=y at*;go_wp2_with fail
   go_round
   case rel=>exact⟨j+1,by omega,by omega,by go_num,by first|(rw[Nat.add_sub_cancel,HSK.out];done)|(rw[Nat.add_sub_cancel,HSK.out];exact congrArg (Value.int .i64) (by split<;> omega))⟩
   case measure=>simp[intOf];omega
  ·have hke:j=l.length:=by omega
   have hki: ¬(j:Int)<(l.length:Int):=by omega
   have hv:LK (j-1)=LL:=by rw[LD.out,hke]
   rw[hv];clear hke hv;go_wp2_with fail
   go_ret
   exact⟨rfl,rfl⟩
theorem z35{w:World}{A:Option Addr}{n c:Nat}{l:List Int}(h:Reads w w.heap.size 1 A n (zap .i64 l))(hn:n<=1000000):
 Calls Tryz.prog 195 #[.slice A n c] w (qd8 (zen l) w):=by
 obtain rfl:=h.lenI;have HR:=qrf h;have SL:=zjh l;have HAT:=qrf (zu7 l);have HS0:Hid (l.length=0->zen l=[]):=qrf (fun e=>by rw[qmn e];rfl);clear h;generalize zen l=S at*;by_cases h0:l.length=0
 ·have e0:((l.length:Int)==0)=true:=by rw[h0];rfl
  have hS:=HS0.out h0;have HS:=qrf hS;have H0:=qrf h0;clear SL h0 hS;go_enter Tryz.func195,Tryz.ntmps195
  go_wp2
  go_ret
  exact⟨none,0,0,rfl,by rw[HS.out];exact qru,qrz _⟩
 ·have e0:((l.length:Int)==0)=false:=by rw[beq_eq_false_iff_ne];omega
  obtain⟨m,hm⟩:∃m,m=l.length-1:=⟨_,rfl⟩;rw[<-hm] at SL;have hlm:l.length=m+1:=by omega
  have hw1:IntKind.i64.wrap ((l.length:Int)-1)=(m:Int):=by rw[qrl];omega
  have HLM:=qrf hlm;have HSL:=qrf SL;clear hm hlm SL h0;go_enter Tryz.func195,Tryz.ntmps195
  go_wp2_with (refine zci elI rfl (.tmp 10) (.tmp 10) rfl (W:=w) (B:=w.heap.size) m m rfl rfl rfl rfl (ql6 _) (qq8 _ _) (ql6 _) rfl (by have:=HLM.out;omega) (by have:=HLM.out;simp only[maxLen];omega) ?_
               intro w1 o1 _ b1 s1)
  clear hw1 e0;go_loopw [14] (fun i wr=>∃k:Nat,k<=m/\i= .int .i64 (k:Int)/\Go.Hm.Own wr w.heap.size 3 (.slice (some ⟨w.heap.size,0,none⟩) m m) (zap .i64 (S.take k++List.replicate (m-k) 0))/\New w wr) (fun i _=>m-(intOf i).toNat)
  case atStart=>exact⟨0,ql7 _,rfl,by simpa[zeo] using o1,b1⟩
  case round=>
   clear o1 b1 s1;obtain⟨k,hk,rfl,o,b⟩:=hrel;by_cases hlt:k<m
   ·have hlm:=HLM.out
    obtain⟨ad,rfl,_,c0⟩:=(qsg HR.out b).int (i:=k) (by omega);obtain⟨ad',e,_,c1⟩:=(qsg HR.out b).int (i:=k+1) (by omega);injection e with e;subst e;have hat:=HAT.out k (by omega);have htk:=zae S k 0 (by have:=HSL.out;omega);obtain⟨hg0,hgl,hc,hf,hset⟩:=o.int0 (i:=k) hlt;have hsl:(S.take k).length=k:=by rw[ql2];have:=HSL.out;omega
    have hs2:=hset (S.getD k 0);rw[zlz _ hsl hlt,<-htk,hat] at hs2;have HSet:=qrf hs2;generalize(S.take k++List.replicate (m-k) 0).getD k 0=z at*;generalize l.getD k 0=x at*;generalize l.getD (k+1) 0=y at*;have hw2:IntKind.i64.wrap (y-x)=wrI (y-x):=rfl;obtain⟨j,hj⟩:∃j,j=k+1:=⟨_,rfl⟩;rw[<-hj] at c1 HSet;have hw3:IntKind.i64.wrap ((k:Int)+1)=(j:Int):=by rw[qrl];omega
    have i1:(k:Int)<(m:Int):=by omega
    have i2:(k:Int)<(l.length:Int):=by omega
    have i3:(j:Int)<(l.length:Int):=by omega
    have HJ:=qrf hj;have HB:=qrf (fun q=>(below_drewN b q).setCell (p:=⟨w.heap.size,k,none⟩) (ql6 _) (.int .i64 (wrI (y-x))));clear hat htk hset hs2 hsl hlm hj;go_wp2
    go_still_tail 13,(by kernel_rfl)
    go_wp2
    go_roundw
    case rel=>exact⟨j,by have:=HJ.out;omega,rfl,by first|exact HSet.out|exact(HSet.out).drewN _,by first|exact HB.out _|exact HB.out 0⟩
    case measure=>have:=HJ.out;simp[intOf];omega
   ·obtain rfl:k=m:=by omega
    have hS:S.take k=S:=qm0 (by have:=HSL.out;omega);rw[hS,qn6,qpq,qmg] at o;clear hS;go_wp2
    go_ret
    exact⟨_,_,_,rfl,o,b⟩
theorem z36(n:Nat)(w:World)(hn:n<=1000000):Calls Tryz.prog 196 #[.int .i64 (n:Int)] w (zcv (.int .i64 (nblk n:Nat)) w):=by
 have h1:IntKind.i64.wrap ((n:Int)+32)=(n:Int)+32:=by rw[qrl];omega
 have hq:((n:Int)+31)/32=((nblk n:Nat):Int):=by unfold nblk;omega
 have HQ:=qrf hq;clear hq;generalize nblk n=q at*;go_enter Tryz.func196,Tryz.ntmps196
 go_wp2
 go_ret
 exact⟨congrArg (fun z=>Ending.returned (.int .i64 z)) (by have:=HQ.out;omega),rfl⟩
theorem zww{w:World}{A:Option Addr}{n c:Nat}{l:List Int}(h:Reads w w.heap.size 1 A n (zap .i64 l))(hl:∀x∈l,zjg x)(h0:0<n)(hn:n<=65536):
 Calls Tryz.prog 197 #[.slice A n c] w (OptB (some (blockD l)) w):=by
 obtain rfl:=h.lenI;have MN:=qrf (qd9 (c:=c) h h0 (by omega));have HR:=qrf h;have hll:=zo9 hl h0;have ZG:=qrf (fun W:World=>zo7 (leastD l) W hll.1 hll.2);have PT:=qrf (fun W:World=>zc9 none 0 0 [] (zig (leastD l)) W qrs (by omega) (by have:=zo8 hll;omega));have hvl:=zas (zo8 hll);have hmw:=ztc hl;have hml:=z64 l;have hw:=zo2 _ hmw;have PO:=zf9 (zft l) (wid (zft l)) hw (by rw[hml];exact hn) (ql6 _);have hm:(wid (zft l)*l.length+7)/8<=524288:=by have:=qp5 hw hn;omega
 have hlen:(low (pk (wid (zft l)) (zft l)) ((wid (zft l)*l.length+7)/8)).length=(wid (zft l)*l.length+7)/8:=zbe _ _;rw[hml] at PO;have HAT:Hid (∀k,k<l.length->(zft l).getD k 0=(l.getD k 0-leastD l).toNat/\zjg (l.getD k 0)/\leastD l<=l.getD k 0):=qrf (fun k hk=>by refine⟨?_,hl _ (zis hk),zva (zis hk)⟩;unfold zft;rw[qnp,qou,qnp,qlx hk];rfl)
 have HB:Hid (blockD l=vp (zig (leastD l))++[wid (zft l)]++low (pk (wid (zft l)) (zft l)) ((wid (zft l)*l.length+7)/8)):=qrf (by unfold blockD;simp);have HML:=qrf hml;have HMW:=qrf hmw;have HPO:=qrf PO;have HLL:=qrf hll;clear h hl PO hml hmw hll;generalize blockD l=BD at*;generalize low (pk (wid (zft l)) (zft l)) ((wid (zft l)*l.length+7)/8)=PB at*;generalize(wid (zft l)*l.length+7)/8=pm at*;generalize zft l=D at*;generalize leastD l=ll at*;subst hlen;go_enter Tryz.func197,Tryz.ntmps197
 go_wp2_with fail
 refine MN.out.mono ?_;rintro e w1 ⟨rfl,rfl⟩;clear MN
 go_wp2_with (refine zci elW rfl (.tmp 15) (.tmp 15) rfl (W:=w) (B:=w.heap.size) l.length l.length rfl rfl rfl rfl (ql6 _) (qq8 _ _) (ql6 _) rfl (by omega) (by simp only[maxLen];omega) ?_
              intro w1 o1 _ b1 s1)
 go_loopw [19] (fun i wr=>∃k:Nat,k<=l.length/\i= .int .i64 (k:Int)/\Go.Hm.Own wr w.heap.size 138 (.slice (some ⟨w.heap.size,0,none⟩) l.length l.length) (zah .u64 (D.take k++List.replicate (l.length-k) 0))/\New w wr) (fun i _=>l.length-(intOf i).toNat)
 case atStart=>exact⟨0,ql7 _,rfl,by simpa[zb8] using o1,b1⟩
 case round=>
  clear o1 b1 s1;obtain⟨k,hk,rfl,o,b⟩:=hrel;by_cases hlt:k<l.length
  ·obtain⟨ad,rfl,_,c0⟩:=(qsg HR.out b).int hlt
   obtain⟨e1,e2,e3⟩:=HAT.out k hlt;have htk:=zae D k 0 (by have:=HML.out;omega);obtain⟨hg0,hgl,hc,hf,hset⟩:=o.num0 (i:=k) hlt;have hsl:(D.take k).length=k:=by rw[ql2];have:=HML.out;omega
   have hs2:=hset (D.getD k 0);rw[zwv _ hsl hlt,<-htk,e1] at hs2;have HSet:=qrf hs2;generalize(D.take k++List.replicate (l.length-k) 0).getD k 0=z at*;generalize l.getD k 0=x at*;have hll:=HLL.out;unfold zjg at e2 hll;have hw2:IntKind.u64.wrap (IntKind.u64.wrap x-IntKind.u64.wrap ll)=(((x-ll).toNat:Nat):Int):=by rw[qrj,qrj,qrj];omega
   generalize(x-ll).toNat=d at*;have i1:(k:Int)<(l.length:Int):=by omega
   have HB2:=qrf (fun q=>(below_drewN b q).setCell (p:=⟨w.heap.size,k,none⟩) (ql6 _) (.int .u64 (d:Int)));clear e1 e2 e3 hll htk hset hs2 hsl;go_wp2
   go_roundw
   case rel=>exact⟨k+1,by omega,by go_num,by first|exact HSet.out|exact(HSet.out).drewN _,by first|exact HB2.out _|exact HB2.out 0⟩
   case measure=>simp[intOf];omega
  ·obtain rfl:k=l.length:=by omega
   have hS:D.take l.length=D:=qm0 (by have:=HML.out;omega);rw[hS,qn6,qpq,qmg] at o;have W:=qrf (zk2 (c:=l.length) o.reads HMW.out (by omega));have K:=zn1 (c:=l.length) (wid D:Int) o.reads HMW.out (by omega) (by omega) (by omega);rw[HPO.out] at K;replace K:=qrf K;generalize wid D=q at*;clear hS o;go_wp2_with fail
   refine W.out.mono ?_;rintro e w1 ⟨rfl,rfl⟩;go_wp2_with fail
   refine K.out.mono ?_;rintro e w2 ⟨A2,n2,c2,rfl,o2,b2⟩;obtain rfl:n2=PB.length:=by have:=o2.len;rwa[zaa] at this
   clear W K;have b02:=qr0 b b2;have hwq:IntKind.u8.wrap (q:Int)=(q:Int):=by rw[qrg];omega
   go_wp2_with fail
   refine(ZG.out _).mono ?_;rintro e w3 ⟨rfl,rfl⟩;go_wp2_with fail
   refine(PT.out _).mono ?_;rintro e w3 ⟨A3,n3,c3,rfl,o3,b3⟩;rw[qmx] at o3;obtain rfl:n3=(vp (zig ll)).length:=by have:=o3.len;rwa[zaa] at this
   have b03:=qr0 b02 b3;have z3:=b3.size;have h23:=zgj (zh6 o3 (o2.base_le (ql7 _)));have o2:=o2.later b3;have o3:=o3.base_le (b':=w.heap.size) b02.size;clear ZG PT;go_wp2_with (first
    |(refine zbr elB rfl (.tmp 43) (.tmp 46) rfl (W:=w) (B:=w.heap.size) o3 rfl rfl q rfl b03 (ql6 _) b03.size (by omega) (by simp only[maxLen];omega) ?_
      intro A4 c4 w4 _ _ o4 g4 b4 _ d4;have p2:=o2.kept g4 h23;have hz4:=b4.size)
    |(refine zal elB rfl (.tmp 48) (.tmp 49) rfl (W:=w) (B:=w.heap.size) o4 p2.reads rfl rfl b4 (ql6 _) hz4 (by omega) (by simp only[maxLen];omega) ?_
      intro A5 c5 w5 _ _ o5 _ b5 _))
   go_ret2
   refine⟨A5,_,c5,rfl,?_,b5⟩;rw[HB.out];exact o5
theorem qlf:Tryz.prog.underlying 57=some (.slice (Tryz.prog.elem 57)):=by kernel_rfl
theorem qlg(w:World):(sizeOf (Tryz.prog.elem 57)).run Tryz.prog w= .ok 1 w:=by kernel_rfl
theorem z9k(k:IntKind)(l:List Int)(i:Nat):(zap k l).drop i=zap k (l.drop i):=by simp[zap]
theorem zq7(k:IntKind)(l:List Int)(i:Nat):(zap k l).take i=zap k (l.take i):=by simp[zap]
theorem Reads.part{w:World}{B n cap:Nat}{A:Option Addr}{l:List Int}(h:Reads w B 1 A n (zap .i64 l)){f e:Nat}(hf:f<=e)(he:e<=n)(hc:n<=cap):
 Reads w B 1 (if cap=f then A else A.map (·.add (f*1))) (e-f) (zap .i64 ((l.drop f).take (e-f))):=by
 have r1:=(h.cut (k:=f) (cap:=cap) (by omega) hc).take (k:=e-f) (by omega);rw[qmd,qmd,z9k,zq7] at r1;rw[qmd];exact r1
theorem zi5{w:World}{A:Option Addr}{n c:Nat}{l:List Int}(h:Reads w w.heap.size 1 A n (zap .i64 l))(hl:∀x∈l,zjg x)(hn:n<=9223372036854775807):
 Calls Tryz.prog 179 #[.slice A n c] w (OptB (zvb l) w):=by
 obtain rfl:=h.lenI;obtain⟨X,hX⟩:∃X,X=zvb l:=⟨_,rfl⟩;rw[<-hX];unfold zvb at hX;by_cases h1:65536<l.length
 ·rw[if_pos h1] at hX
  have HX:=qrf hX;have i1:(65536:Int)<(l.length:Int):=by omega
  clear hX h hl;go_enter Tryz.func179,Tryz.ntmps179
  go_wp2
  go_ret2
  rw[HX.out];exact⟨rfl,qrz _⟩
 rw[if_neg h1] at hX;by_cases h0:l.length=0
 ·rw[if_pos h0] at hX
  have HX:=qrf hX;have i1: ¬(65536:Int)<(l.length:Int):=by omega
  have e0:((l.length:Int)==0)=true:=by rw[h0];rfl
  have H0:=qrf h0;clear hX h hl h0;go_enter Tryz.func179,Tryz.ntmps179
  go_wp2
  go_ret2
  rw[HX.out];exact⟨none,0,0,rfl,qru,qrz _⟩
 rw[if_neg h0] at hX;have i1: ¬(65536:Int)<(l.length:Int):=by omega
 have e0:((l.length:Int)==0)=false:=by rw[beq_eq_false_iff_ne];omega
 have i0:(0:Int)<(l.length:Int):=by omega
 obtain⟨ad,rfl,_,c0⟩:=h.int (i:=0) (by omega);rw[zfp] at c0;have hx:=hl _ (zis (show 0<l.length by omega));have ZG:=qrf (fun W:World=>zo7 (l.getD 0 0) W hx.1 hx.2);have PT:=qrf (fun W:World=>zc9 none 0 0 [] (zig (l.getD 0 0)) W qrs (by omega) (by have:=zo8 hx;omega));have hvl:=zas (zo8 hx);have SP:=qrf (fun(W:World) (hW:New w W)=>z35 (c:=c) (qsg h hW) (by omega));have hin:=zk3 l;have hsl:=zjh l;have B0:=qrf (zk4 (zen l));have BS:=qrf (zk5 (zen l));have hbl:=zit hin;have hpart:=fun k=>(show∀x∈blk (zen l) k,zjg x from z0f hin k)
 have hbk:=fun k (hk:k<nblk (zen l).length)=>show(blockD (blk (zen l) k)).length<=268 from zrn (z0f hin k) (by rw[ztd];unfold nblk at hk;omega) (by rw[ztd];omega)
 have hNB:Hid (nblk (l.length-1)=nblk (zen l).length):=qrf (by rw[hsl]);have HX:=qrf hX;have HBL:=qrf hbl;have HPT:=qrf hpart;have HBK:=qrf hbk;have HSL:=qrf hsl;have hs65:(zen l).length<=65536:=by omega
 clear hX h hl hin hsl hbl hpart hbk hx h0 h1;generalize zen l=s at*;generalize l.getD 0 0=x at*;generalize hV:vp (zig x)=V at*;clear hV;go_enter Tryz.func179,Tryz.ntmps179
 go_wp2_with fail
 refine(ZG.out _).mono ?_;rintro e w1 ⟨rfl,rfl⟩;go_wp2_with fail
 refine(PT.out _).mono ?_;rintro e w1 ⟨A1,n1,c1,rfl,o1,b1⟩;rw[qmx] at o1;obtain rfl:n1=V.length:=by have:=o1.len;rwa[zaa] at this
 clear ZG PT c0;go_wp2_with fail
 refine(SP.out _ b1).mono ?_;rintro e w2 ⟨A2,n2,c2,rfl,o2,b2⟩;obtain rfl:n2=s.length:=by have:=o2.len;rwa[zhw] at this
 have h21:=zh6 o2 (o1.base_le (ql7 _));have o1:=o1.later b2;have b02:=qr0 b1 b2;have o2:=o2.base_le (b':=w.heap.size) b1.size;have hc2:=o2.cap.1;clear SP b1 b2;have KB1:=qrf (fun W=>z36 s.length W (by omega));have hK:nblk s.length<=2048:=by unfold nblk;omega
 have HK:Hid (nblk s.length=(s.length+31)/32):=qrf rfl;go_wp2_with fail
 refine(KB1.out _).mono ?_;rintro e w3 ⟨rfl,rfl⟩;clear KB1;generalize hKK:nblk s.length=K at*;have HKK:=qrf hKK;clear hKK;go_wp2_with fail
 go_loopw [4,26] (fun v i wr=>∃(k:Nat) (AE:Option Addr) (cE:Nat),k<=K/\i= .int .i64 (k:Int)/\v= .slice AE (V++zc1 s k).length cE/\Go.Hm.Own wr w.heap.size 5 (.slice AE (V++zc1 s k).length cE) (zah .u8 (V++zc1 s k))/\Go.Hm.Own wr w.heap.size 3 (.slice A2 s.length c2) (zap .i64 s)/\(Value.ownBlock (.slice A2 s.length c2)=none\/Value.ownBlock (.slice A2 s.length c2)≠Value.ownBlock (.slice AE (V++zc1 s k).length cE))/\New w wr) (fun _ i _=>K-(intOf i).toNat)
 case atStart=>exact⟨0,A1,c1,ql7 _,rfl,by rw[B0.out,qmg],by rw[B0.out,qmg];exact o1,o2,by rw[B0.out,qmg];exact h21,b02⟩
 case round=>
  clear o1 o2 h21 b02;obtain⟨k,AE,cE,hk,rfl,rfl,o,u,hap,b⟩:=hrel;by_cases hlt:k<K
  ·have hK2:=HK.out
   obtain⟨f,hf⟩:∃f,f=k*32:=⟨_,rfl⟩;obtain⟨g,hg⟩:∃g,g=f+32:=⟨_,rfl⟩;obtain⟨e,he⟩:∃e,e=min g s.length:=⟨_,rfl⟩;have hfs:f<s.length:=by omega
   have w1:IntKind.i64.wrap ((k:Int)*32)=(f:Int):=by rw[qrl];omega
   have w2:IntKind.i64.wrap ((f:Int)+32)=(g:Int):=by rw[qrl];omega
   have m1:min (g:Int) (s.length:Int)=(e:Int):=by omega
   have m2:(if(s.length:Int)<(g:Int) then(s.length:Int) else(g:Int))=(e:Int):=by split<;> omega
   have m3:(if s.length<g then(s.length:Int) else(g:Int))=(e:Int):=by split<;> omega
   have SL:=fun W=>zhu qlf qlg A2 s.length c2 f e (by omega) (by omega) W
   have RP:=Reads.part (cap:=c2) u.reads (f:=f) (e:=e) (by omega) (by omega) hc2;have hbe:(s.drop f).take (e-f)=blk s k:=by
    unfold blk;rw[<-hf];by_cases q:g<=s.length
    ·rw[show e-f=32 by omega]
    ·rw[qm0 (by rw[ql0];omega),qm0 (by rw[ql0];omega)]
   rw[hbe] at RP;obtain⟨A',hA'⟩:∃A',A'=(if c2=f then A2 else A2.map (·.add (f*1))):=⟨_,rfl⟩;rw[<-hA'] at SL RP;have LB:=qrf (zww (c:=c2-f) RP (HPT.out k) (by omega) (by omega));have hkb:=HBK.out k hlt;have hb2:=HBL.out k (by omega);have BSk:=qrf (show V++zc1 s (k+1)=V++zc1 s k++blockD (blk s k) by rw[BS.out k,qmi]);have hkl:(V++zc1 s k).length=V.length+(zc1 s k).length:=qmv;have hbq:(V++zc1 s k).length<=600000:=by omega
   have HO:=qrf (qok hf (qok hg he));clear hbe hA' RP hf hg he hK2 hb2 hkl;generalize V++zc1 s k=VB at*;generalize blockD (blk s k)=BD at*;generalize e-f=ef at*;generalize c2-f=cf at*;have hki:(k:Int)<(K:Int):=by omega
   go_wp2_with fail
   refine LB.out.mono ?_;rintro e w3 ⟨A3,n3,c3,rfl,o3,b3⟩;obtain rfl:n3=BD.length:=by have:=o3.len;rwa[zaa] at this
   have u3:=u.later b3;have oo3:=o.later b3;have b03:=qr0 b b3;have z3:=b03.size;clear u o b b3 LB SL m1 m2 m3;go_wp2_with (first
    |(refine zal elB rfl (.tmp 45) (.tmp 46) rfl (W:=w) (B:=w.heap.size) oo3 o3.reads rfl rfl b03 (ql6 _) z3 (by omega) (by simp only[maxLen];omega) ?_
      intro A5 c5 w5 _ _ o5 g5 b5 d5;have u5:=u3.kept g5 hap;have hap5:=zlg hap d5 u3))
   go_roundw
   have hq5:=o5.len;rw[zaa] at hq5;rw[hq5] at o5 hap5;case rel=>exact⟨k+1,A5,c5,by omega,by go_num,by rw[BSk.out,<-hq5],by rw[BSk.out];exact o5,u5,by rw[BSk.out];exact hap5,b5⟩
   case measure=>simp[intOf];omega
  ·obtain rfl:k=K:=by omega
   have hXe:X=some (V++zc1 s k):=by rw[HX.out,hNB.out]
   go_wp2_with fail
   go_ret2
   rw[hXe];exact⟨_,_,_,rfl,o,b⟩
end Go.Proofs.Y
namespace Go.Hm
open Go Go.RowKit
section
variable{α:Type}{t:TypeId}{sz:Nat}{f:α->List Value}
abbrev z40(α:Type):=Option Addr × Nat × List α
def zm0(d:z40 α):Value:= .slice d.1 d.2.2.length d.2.1
theorem zoh{D:List (z40 α)}{j:Nat}{d x:z40 α}(h:j<D.length):(D.set j x).getD j d=x:=by rw[qnp,qol h];rfl
theorem zw3{D:List (z40 α)}{i j:Nat}{d x:z40 α}(h:i≠j):(D.set j x).getD i d=D.getD i d:=by rw[qnp,List.getElem?_set_ne (by omega),qnp]
structure RowsAp(t:TypeId)(sz:Nat)(f:α->List Value)(w:World)(B:Nat)(D:List (z40 α)):Prop where
 rows:∀d∈D,w.ownsRow B t sz (zm0 d) d.2.2.length (recs f d.2.2)
 apart:∀i j,i<D.length->j<D.length->i≠j->(zm0 (D.getD i (none,0,[]))).ownBlock=none\/(zm0 (D.getD i (none,0,[]))).ownBlock≠(zm0 (D.getD j (none,0,[]))).ownBlock
theorem RowsAp.later{w w':World}{B:Nat}{D:List (z40 α)}(h:RowsAp t sz f w B D)(hb:New w w'):RowsAp t sz f w' B D:=⟨fun d hd=>za8 (h.rows d hd) hb,h.apart⟩
theorem RowsAp.keepT{w w':World}{B g:Nat}{t':TypeId}{cs:Array Value}{D:List (z40 α)}(h:RowsAp t sz f w B D)(hT:Blk w g t' cs)(hne:t≠t')(hg:w.grownBy w' (some g)):RowsAp t sz f w' B D:=
 ⟨fun d hd=>qlm (h.rows d hd) hg (.inr (zav (h.rows d hd) hT hne)),h.apart⟩
theorem RowsAp.nil{w:World}{B n:Nat}:RowsAp t sz f w B (List.replicate n (none,0,[])):=by
 refine⟨fun d hd=>?_,fun i j hi hj hne=>?_⟩
 ·rw[qq0 hd]
  exact zdx
 ·rw[qom] at hi
  left;rw[qnp,qq1,if_pos hi];rfl
theorem z98{D:List (z40 α)}{j:Nat}(h:j<D.length):D.getD j (none,0,[])∈D:=by rw[qnp,qlx h];exact qml h
theorem RowsAp.at_{w:World}{B j:Nat}{D:List (z40 α)}(h:RowsAp t sz f w B D)(hj:j<D.length):w.ownsRow B t sz (zm0 (D.getD j (none,0,[]))) (D.getD j (none,0,[])).2.2.length (recs f (D.getD j (none,0,[])).2.2):=h.rows _ (z98 hj)
theorem RowsAp.put{w w':World}{B j:Nat}{D:List (z40 α)}{d:z40 α}(h:RowsAp t sz f w B D)(hj:j<D.length)(hd:w'.ownsRow B t sz (zm0 d) d.2.2.length (recs f d.2.2))(hg:w.grownBy w' (zm0 (D.getD j (none,0,[]))).ownBlock)
 (hat:(zm0 d).ownBlock=(zm0 (D.getD j (none,0,[]))).ownBlock\/ ∃g,(zm0 d).ownBlock=some g/\w.heap.size<=g):RowsAp t sz f w' B (D.set j d):=by
 have hap:∀i,i<D.length->i≠j->(zm0 (D.getD i (none,0,[]))).ownBlock=none\/(zm0 (D.getD i (none,0,[]))).ownBlock≠(zm0 d).ownBlock:=by
  intro i hi hne;rcases hat with hat|⟨g,hat,hgg⟩
  ·rw[hat]
   exact h.apart i j hi hj hne
  ·rcases hu:(zm0 (D.getD i (none,0,[]))).ownBlock with _|k
   ·exact .inl rfl
   ·right
    rw[hat];intro e;injection e with e;have:=(qln (h.at_ hi) _ hu).2;omega
 refine⟨fun x hx=>?_,fun i k hi hk hne=>?_⟩
 ·obtain⟨i,hi,rfl⟩:=qo4 hx
  have e:(D.set j d)[i]'hi=(D.set j d).getD i (none,0,[]):=by rw[qnp,qlx hi];rfl
  have hi:i<D.length:=by simpa using hi
  rw[e];by_cases hij:i=j
  ·subst hij
   rw[zoh hj];exact hd
  ·rw[zw3 hij]
   exact qlm (h.at_ hi) hg (h.apart i j hi hj hij)
 ·rw[ql9] at hi hk
  by_cases hij:i=j
  ·subst hij
   rw[zoh hi,zw3 (fun e=>hne e.symm)];exact zgj (hap k hk (fun e=>hne e.symm))
  ·rw[zw3 hij]
   by_cases hkj:k=j
   ·subst hkj
    rw[zoh hk];exact hap i hi hij
   ·rw[zw3 hkj]
    exact h.apart i k hi hk hne
end
end Go.Hm
