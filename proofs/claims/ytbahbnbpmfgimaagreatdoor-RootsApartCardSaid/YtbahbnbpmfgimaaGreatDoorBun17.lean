/- Merged. -/
import Derived.Test.YtbahbnbpmfgimaaGreatDoorBun15
import Derived.Test.YtbahbnbpmfgimaaGreatDoorBun16
set_option maxHeartbeats 4000000
namespace Go.Proofs.Y
open Go.RowKit Go.Hm
def zec(s:zdb):Prop:=(s.2.2.1.2.2.1.length<=140737488351232/\ ∀z∈s.2.2.1.2.2.1,z<256)/\s.2.2.2.2.2.1.length<=140737488351232/\ ∀z∈s.2.2.2.2.2.1,z<256
set_option maxRecDepth 100000 in
theorem zg6{w:World}{t:Int}{s:zdb}(hf:zec s):Calls Tryz.prog 133 #[.int .i64 t,zce s] w (zal (.bool (zb9 t s)) w):=by
 obtain⟨M,hM⟩:∃M,M=zb9 t s:=⟨_,rfl⟩;rw[<-hM];unfold zb9 at hM;obtain⟨n,b,p,q⟩:=s;obtain⟨⟨hf1,hf2⟩,hf3,hf4⟩:=hf;dsimp only at hM hf1 hf2 hf3 hf4;have E:∀W,(binOp .eql 133 (zce (n,false,p,q)) (zce (n,false,za8,za8))).run Tryz.prog W= .ok (.bool (decide (p=za8)&&decide (q=za8))) W:=fun W=>by
  rw[z2v];have:eqS (n,false,p,q) (n,false,za8,za8)=(decide (p=za8)&&decide (q=za8)):=by rw[Bool.eq_iff_iff,qin hf2 hf4 (by simp[za8]) (by simp[za8])];simp
  rw[this]
 have HN:=fun(h1:zae p t false=true) (h2:zae q t false=true) (W:World)=>zfd (w:=W) (t:=t) (a:=p) (b:=q) (zl8 h1) (zl8 h2)
 have R1:=fun(W:World)=>zfw (w:=W) (b:=p.1) (n:=p.2.1) (s:=p.2.2.1) (x:=p.2.2.2.1) (y:=p.2.2.2.2) (cn:=[]) (t:=t) (nu:=false) hf1
 have R2:=fun(W:World)=>zfw (w:=W) (b:=q.1) (n:=q.2.1) (s:=q.2.2.1) (x:=q.2.2.2.1) (y:=q.2.2.2.2) (cn:=[]) (t:=t) (nu:=false) hf3
 generalize(decide (p=za8)&&decide (q=za8))=eq at*;generalize zjr t p q=o at*;obtain⟨p1,p2,p3,p4,p5⟩:=p;obtain⟨q1,q2,q3,q4,q5⟩:=q;dsimp only at R1 R2 hM;generalize zae (p1,p2,p3,p4,p5) t false=m1 at*;generalize zae (q1,q2,q3,q4,q5) t false=m2 at*;have E:∀W,(binOp .eql 133 (.agg #[.int .i64 n,.bool false,.bool p1,.int .i64 p2,.string (zad p3),.int .i64 p4,.int .i64 p5,.bool q1,.int .i64 q2,.string (zad q3),.int .i64 q4,.int .i64 q5]) (.agg #[.int .i64 n,.bool false,.bool false,.int .i64 0,.string ⟨#[]⟩,.int .i64 0,.int .i64 0,.bool false,.int .i64 0,.string ⟨#[]⟩,.int .i64 0,.int .i64 0])).run Tryz.prog W= .ok (.bool eq) W:=E;have R1:Hid (∀W,Calls Tryz.prog 83 #[.agg #[.bool p1,.int .i64 p2,.string (zad p3),.int .i64 p4,.int .i64 p5],.agg #[.string ⟨#[]⟩,.int .i64 t,.bool false]] W (zal (.bool m1) W)):=Hz R1;have R2:Hid (∀W,Calls Tryz.prog 83 #[.agg #[.bool q1,.int .i64 q2,.string (zad q3),.int .i64 q4,.int .i64 q5],.agg #[.string ⟨#[]⟩,.int .i64 t,.bool false]] W (zal (.bool m2) W)):=Hz R2;unfold zc2 zay at HN;dsimp only at HN;have HN:=Hz HN;show Calls Tryz.prog 133 #[.int .i64 t,.agg #[.int .i64 n,.bool b,.bool p1,.int .i64 p2,.string (zad p3),.int .i64 p4,.int .i64 p5,.bool q1,.int .i64 q2,.string (zad q3),.int .i64 q4,.int .i64 q5]] w (zal (.bool M) w);have B0:=Blk.new w 133 #[.int .i64 n,.bool b,.bool p1,.int .i64 p2,.string (zad p3),.int .i64 p4,.int .i64 p5,.bool q1,.int .i64 q2,.string (zad q3),.int .i64 q4,.int .i64 q5];have hb:New w (w.alloc (.cells #[.int .i64 n,.bool b,.bool p1,.int .i64 p2,.string (zad p3),.int .i64 p4,.int .i64 p5,.bool q1,.int .i64 q2,.string (zad q3),.int .i64 q4,.int .i64 q5] 133)):=(Below.refl _ _).alloc (Nat.le_refl _) _;have HB0:=Hz B0;have Hb:=Hz hb;obtain⟨x0,x1,x2,x3,x4,x5,x6,x7,x8,x9,x10,x11⟩:=zba B0;clear B0 hb hf1 hf2 hf3 hf4;by_cases hr:t<0\/3<t\/n<0\/65536<n
 ·rw[if_pos hr] at hM
  have HM:=Hz hM;clear hM E;by_cases h1:t<0;all_goals try by_cases h2:3<t
  all_goals try by_cases h3:n<0
  all_goals try(have h4:65536<n:=by omega)
  all_goals
   clear hr;go_enter Tryz.func133,Tryz.ntmps133
   go_wp2
   go_ret
   exact⟨by rw[HM.out];rfl,Hb.out⟩
 rw[if_neg hr] at hM;have h1: ¬t<0:=by omega
 have h2: ¬3<t:=by omega
 have h3: ¬n<0:=by omega
 have h4: ¬65536<n:=by omega
 clear hr;cases b with
 |false=>
  rw[if_neg (by simp)] at hM;have HM:=Hz hM;clear hM;go_enter Tryz.func133,Tryz.ntmps133
  go_wp2
  go_ret
  exact⟨by rw[HM.out];rfl,Hb.out⟩
 |true=>
  rw[if_pos rfl] at hM;have HM:=Hz hM;clear hM E;go_enter Tryz.func133,Tryz.ntmps133
  go_wp2_with fail
  refine(R1.out _).mono ?_;rintro e w1 ⟨rfl,b1⟩;have B0:=(HB0.out.alloc _).below b1 (by simp;omega);have BC:=(Blk.new _ _ _).below b1 (by simp);have hl:=New.trans (New.trans Hb.out ((Below.refl _ _).alloc (Nat.le_refl _) _)) b1;simp only[World.size_alloc] at BC;clear x0 x1 x2 x3 x4 x5 x6 x7 x8 x9 x10 x11 HB0 Hb b1;obtain⟨x0,x1,x2,x3,x4,x5,x6,x7,x8,x9,x10,x11⟩:=zba B0;obtain⟨y0,y1,y2⟩:=zan BC;cases m1 with
  |false=>
   go_wp2_with fail
   go_ret
   exact⟨by rw[HM.out];rfl,hl⟩
  |true=>
   go_wp2_with fail
   refine(R2.out _).mono ?_;rintro e w2 ⟨rfl,b2⟩;replace B0:=B0.below b2 B0.lt;replace hl:=New.trans hl b2;clear x0 x1 x2 x3 x4 x5 x6 x7 x8 x9 x10 x11 b2 y0 y1 y2 BC;obtain⟨x0,x1,x2,x3,x4,x5,x6,x7,x8,x9,x10,x11⟩:=zba B0;cases m2 with
   |false=>
    go_wp2_with fail
    go_ret
    exact⟨by rw[HM.out];rfl,hl⟩
   |true=>
    have C:=Hz (HN.out (by trivial) (by trivial));go_wp2_with fail
    refine(C.out _).mono ?_;rintro e w3 ⟨rfl,b3⟩;go_wp2
    go_ret
    exact⟨by rw[HM.out];rfl,New.trans hl b3⟩
end Go.Proofs.Y
namespace Go.Hm
open Go Go.RowKit
def zl9(t:Int)(s:zdb):List Nat:=plB t [s.2.2.1,s.2.2.2]
def putS(l:List Nat)(t:Int)(s:zdb):List Nat:=
 if zb9 t s then(if s.2.1 then l++vp s.1.toNat++[1]++vp (zl9 t s).length++zl9 t s else l++vp s.1.toNat++[0]) else l
theorem zk7{t:Int}{s:zdb}(h:zb9 t s=true):(0<=t/\t<=3)/\0<=s.1/\s.1<=65536:=by
 unfold zb9 at h;split at h
 ·simp at h
 ·omega
theorem zma{t:Int}{s:zdb}(h:zb9 t s=true)(hh:s.2.1=true):zae s.2.2.1 t false=true/\zae s.2.2.2 t false=true/\zjr t s.2.2.1 s.2.2.2<=0:=by
 unfold zb9 at h;split at h
 ·simp at h
 ·simpa[hh] using h
theorem z7m{t:Int}{s:zdb}(h:zb9 t s=true)(hh:s.2.1=true):zkx t [s.2.2.1,s.2.2.2]=true:=by
 obtain⟨h1,h2,-⟩:=zma h hh;have h3:=(zk7 h).1;rw[plOk_iff];refine⟨⟨h3.1,h3.2,by simp⟩,fun c hc=>?_⟩;simp at hc;rcases hc with rfl|rfl
 ·exact h1
 ·exact h2
end Go.Hm
namespace Go.Proofs.Y
open Go.RowKit Go.Hm
theorem zs8{t:Int}{s:zdb}(h:zb9 t s=true)(hh:s.2.1=true):(zl9 t s).length<=131112:=by
 obtain⟨h1,h2,-⟩:=zma h hh;have a:=zxr h1;have b:=zxr h2;have ta:s.2.2.1.2.2.1.length<=65536:=zjb h1;have tb:s.2.2.2.2.2.1.length<=65536:=zjb h2;unfold zl9 plB;split
 ·rw[za6];simp
 ·simp only[List.flatMap_cons,List.flatMap_nil,List.append_nil,List.length_append]
  omega
def statData(s:zdb):Prop:=zaq s.2.2.1/\zaq s.2.2.2
theorem statData.fine{s:zdb}(h:statData s):zec s:=⟨h.1.1,h.2.1⟩
set_option maxRecDepth 100000 in
theorem z7n{w:World}{A:Option Addr}{n c:Nat}{l:List Nat}{t:Int}{s:zdb}(h:Reads w w.heap.size 1 A n (zao .u8 l))(hn:n<=100000000)(hs:statData s):
 Calls Tryz.prog 113 #[.slice A n c,.int .i64 t,zce s] w (zck (putS l t s) w):=by
 obtain rfl:n=l.length:=h.len;have HR:=Hz h;have SR:=fun(W:World)=>zg6 (w:=W) (t:=t) hs.fine
 have hrn:=fun(e:zb9 t s=true)=>zk7 e
 have PE:=fun(e:zb9 t s=true) (eh:s.2.1=true) (W:World)=>zk1 (t:=t) (c:=2) (Reads.litR W 75 (zay s.2.2.1++zay s.2.2.2).toArray 2 5 (recs zay [s.2.2.1,s.2.2.2]) (by simp[recs]) (by simp[recs,zay])) (fun y hy=>by simp at hy;rcases hy with rfl|rfl;exact hs.1;exact hs.2) (by omega)
 have pe2:=fun(e:zb9 t s=true) (eh:s.2.1=true)=>(show plO t [s.2.2.1,s.2.2.2]=some (zl9 t s) by unfold plO zl9;rw[if_pos (z7m e eh)])
 have hel:=fun(e:zb9 t s=true) (eh:s.2.1=true)=>zs8 e eh
 obtain⟨M,hM⟩:∃M,M=putS l t s:=⟨_,rfl⟩;rw[<-hM];unfold putS at hM;clear hs h;generalize zb9 t s=R at*;generalize zl9 t s=E at*;obtain⟨nn,b,⟨p1,p2,p3,p4,p5⟩,⟨q1,q2,q3,q4,q5⟩⟩:=s;dsimp only at hrn PE pe2 hel hM;have SR:Hid (∀W,Calls Tryz.prog 133 #[.int .i64 t,.agg #[.int .i64 nn,.bool b,.bool p1,.int .i64 p2,.string (zad p3),.int .i64 p4,.int .i64 p5,.bool q1,.int .i64 q2,.string (zad q3),.int .i64 q4,.int .i64 q5]] W (zal (.bool R) W)):=Hz SR;show Calls Tryz.prog 113 #[.slice A l.length c,.int .i64 t,.agg #[.int .i64 nn,.bool b,.bool p1,.int .i64 p2,.string (zad p3),.int .i64 p4,.int .i64 p5,.bool q1,.int .i64 q2,.string (zad q3),.int .i64 q4,.int .i64 q5]] w (zck M w);have B0:=Blk.new w 133 #[.int .i64 nn,.bool b,.bool p1,.int .i64 p2,.string (zad p3),.int .i64 p4,.int .i64 p5,.bool q1,.int .i64 q2,.string (zad q3),.int .i64 q4,.int .i64 q5];have hb:New w (w.alloc (.cells #[.int .i64 nn,.bool b,.bool p1,.int .i64 p2,.string (zad p3),.int .i64 p4,.int .i64 p5,.bool q1,.int .i64 q2,.string (zad q3),.int .i64 q4,.int .i64 q5] 133)):=(Below.refl _ _).alloc (Nat.le_refl _) _;obtain⟨x0,x1,x2,x3,x4,x5,x6,x7,x8,x9,x10,x11⟩:=zba B0;have HPE:=Hz PE;have Hpe2:=Hz pe2;have Hhel:=Hz hel;clear PE pe2 hel;cases R with
 |false=>
  rw[if_neg (by simp)] at hM;have HM:=Hz hM;clear hM hrn HPE Hpe2 Hhel;go_enter Tryz.func113,Tryz.ntmps113
  go_wp2_with fail
  refine(SR.out _).mono ?_;rintro e w1 ⟨rfl,b1⟩;have b01:=New.trans hb b1;have CL:=Hz (zg4 (c:=c) (Reads.later HR.out b01) (by omega));clear b1 hb B0 x0 x1 x2 x3 x4 x5 x6 x7 x8 x9 x10 x11;go_wp2_with fail
  refine CL.out.mono ?_;rintro e w2 ⟨A2,n2,c2,rfl,k2,b2⟩;go_wp2_with fail
  go_ret
  rw[HM.out];exact⟨_,_,_,rfl,k2.base_le b01.size,New.trans b01 b2⟩
 |true=>
  rw[if_pos rfl] at hM;obtain⟨-,⟨n0,n1⟩⟩:=hrn rfl;clear hrn;obtain⟨N,rfl⟩:=Int.eq_ofNat_of_zero_le n0;rw[Int.toNat_natCast] at hM;have hw:IntKind.u64.wrap (N:Int)=(N:Int):=by rw[IntKind.wrap_u64];omega
  have V:=zap (n:=N) (by omega);cases b with
  |false=>
   rw[if_neg (by simp)] at hM;have HM:=Hz hM;clear hM HPE Hpe2 Hhel;go_enter Tryz.func113,Tryz.ntmps113
   go_wp2_with fail
   refine(SR.out _).mono ?_;rintro e w1 ⟨rfl,b1⟩;have b01:=New.trans hb b1;have B1:=B0.below b1 B0.lt;clear b1 hb B0 x0 x1 x2 x3 x4 x5 x6 x7 x8 x9 x10 x11;obtain⟨x0,x1,x2,x3,x4,x5,x6,x7,x8,x9,x10,x11⟩:=zba B1;have P:=Hz (zc0 A l.length c l N w1 (Reads.later HR.out b01) (by omega) (by omega));go_wp2_with fail
   refine P.out.mono ?_;rintro e w2 ⟨A2,n2,c2,rfl,k2,b2⟩;have hq2:n2<=100000010:=by have:=k2.len;rw[zaa,List.length_append] at this;omega
   have b02:=New.trans b01 b2;have hz2:=b2.size;have B2:=B1.below b2 B1.lt;clear P b2 B1 x0 x1 x2 x3 x4 x5 x6 x7 x8 x9 x10 x11;obtain⟨x0,x1,x2,x3,x4,x5,x6,x7,x8,x9,x10,x11⟩:=zba B2;have hz1:=b01.size
   go_wp2_with (refine zci elB rfl (.tmp 24) (.tmp 25) rfl (W:=w) (B:=w.heap.size) (k2.base_le hz1) rfl rfl 0 rfl b02 (Nat.le_refl _) (by omega) (by omega) (by simp only[maxLen];omega) ?_
                intro A5 c5 w5 _ _ o5 _ b5 _ _)
   go_ret
   rw[HM.out];exact⟨_,_,_,rfl,o5,b5⟩
  |true=>
   rw[if_pos rfl] at hM;have PE:=HPE.out rfl rfl;rw[Hpe2.out rfl rfl] at PE;have hel:=Hhel.out rfl rfl;have PE:Hid (∀W:World,Calls Tryz.prog 134 #[.int .i64 t,.slice (some ⟨W.heap.size,0,none⟩) 2 2] (W.alloc (.cells #[.bool p1,.int .i64 p2,.string (zad p3),.int .i64 p4,.int .i64 p5,.bool q1,.int .i64 q2,.string (zad q3),.int .i64 q4,.int .i64 q5] 75)) (OptB (some E) (W.alloc (.cells #[.bool p1,.int .i64 p2,.string (zad p3),.int .i64 p4,.int .i64 p5,.bool q1,.int .i64 q2,.string (zad q3),.int .i64 q4,.int .i64 q5] 75)))):=Hz PE;have HM:=Hz hM;clear hM HPE Hpe2 Hhel;have V2:=zap (n:=E.length) (by omega);have P2:=Hz (fun(W:World)=>zc0 none 0 0 [] E.length W Reads.none_ (by omega) (by omega));have hw2:IntKind.u64.wrap (E.length:Int)=(E.length:Int):=by rw[IntKind.wrap_u64];omega
   go_enter Tryz.func113,Tryz.ntmps113
   go_wp2_with fail
   refine(SR.out _).mono ?_;rintro e w1 ⟨rfl,b1⟩;have b01:=New.trans hb b1;have B1:=B0.below b1 B0.lt;clear b1 hb B0 x0 x1 x2 x3 x4 x5 x6 x7 x8 x9 x10 x11;obtain⟨x0,x1,x2,x3,x4,x5,x6,x7,x8,x9,x10,x11⟩:=zba B1;have P:=Hz (zc0 A l.length c l N w1 (Reads.later HR.out b01) (by omega) (by omega));go_wp2_with fail
   refine P.out.mono ?_;rintro e w2 ⟨A2,n2,c2,rfl,k2,b2⟩;have hq2:n2<=100000010:=by have:=k2.len;rw[zaa,List.length_append] at this;omega
   have b02:=New.trans b01 b2;have hz2:=b2.size;have hz1:=b01.size;have B2:=B1.below b2 B1.lt;have o2:=k2.base_le hz1;clear P b2 B1 x0 x1 x2 x3 x4 x5 x6 x7 x8 x9 x10 x11 k2;obtain⟨x0,x1,x2,x3,x4,x5,x6,x7,x8,x9,x10,x11⟩:=zba B2;go_wp2_with fail
   refine(PE.out _).mono ?_;rintro e w3 ⟨A3,n3,c3,rfl,k3,b3⟩;have ha:New w2 (w2.alloc (.cells #[.bool p1,.int .i64 p2,.string (zad p3),.int .i64 p4,.int .i64 p5,.bool q1,.int .i64 q2,.string (zad q3),.int .i64 q4,.int .i64 q5] 75)):=(Below.refl _ _).alloc (Nat.le_refl _) _;have b23:=New.trans ha b3;have hap:=zhw k3 (o2.later ha);have o3:=o2.later b23;have b03:=New.trans b02 b23;have hz3:=b23.size;have hn3:n3<=131112:=by have l3:=k3.len;rw[zaa] at l3;omega
   have HNE:Hid (n3=E.length):=Hz (by have l3:=k3.len;rwa[zaa] at l3);have P2:Hid (∀W,Calls Tryz.prog 111 #[.slice none 0 0,.int .u64 (n3:Int)] W (zck ([]++vp E.length) W)):=Hz (by rw[HNE.out];exact P2.out);have hw2:IntKind.u64.wrap (n3:Int)=(n3:Int):=by rw[IntKind.wrap_u64];omega
   clear ha b3 b23 o2 b02 B2 x0 x1 x2 x3 x4 x5 x6 x7 x8 x9 x10 x11
   go_wp2_with (refine zci elB rfl (.tmp 37) (.tmp 38) rfl (W:=w) (B:=w.heap.size) o3 rfl rfl 1 rfl b03 (Nat.le_refl _) (by omega) (by omega) (by simp only[maxLen];omega) ?_
                intro A5 c5 w5 _ _ o5 g5 b5 _ d5)
   have hap5:=zk4 hap d5 k3;have k5:=k3.kept g5 hap;have hz5:=b5.size;refine(P2.out _).mono ?_;rintro e w6 ⟨A6,n6,c6,rfl,k6,b6⟩;rw[List.nil_append] at k6;have hq6:n6<=10:=by have:=k6.len;rw[zaa] at this;omega
   have o6:=o5.later b6;have k56:=k5.later b6;have b06:=New.trans b5 b6;have hz6:=b06.size;clear k3 k5 o3 b03 o5 b5 b6 hap g5 d5;go_wp2_with (first
    |(refine zam elB rfl (.tmp 40) (.tmp 44) rfl (W:=w) (B:=w.heap.size) o6 k6.reads rfl rfl b06 (Nat.le_refl _) (by omega) (by omega) (by simp only[maxLen];omega) ?_
      intro A7 c7 w7 _ _ o7 g7 b7 _;have k7:=k56.kept g7 hap5;have hz7:=b7.size)
    |(refine zam elB rfl (.tmp 46) (.tmp 47) rfl (W:=w) (B:=w.heap.size) o7 k7.reads rfl rfl b7 (Nat.le_refl _) (by omega) (by omega) (by simp only[maxLen];omega) ?_
      intro A8 c8 w8 _ _ o8 _ b8 _))
   go_ret
   rw[HM.out];exact⟨_,_,_,rfl,o8,b8⟩
end Go.Proofs.Y
namespace Go.Hm
open Go Go.RowKit
abbrev za2:=Int × Int × zdb
def zg7(p:za2):List Value:= .int .i64 p.1:: .int .i64 p.2.1::zb8 p.2.2
abbrev za1:=Int × List (List za2)
structure FootS where
 cols:List zbc
 rows:Int
 groups:List za1
def zh6(t:Int)(nu:Bool)(p:za2)(most:Int):Bool:=
 if p.2.1<1\/most<p.2.1\/p.1<1\/268435456<p.1 then false
 else zb9 t p.2.2&&(decide (p.2.2.1<=p.2.1)&&((p.2.2.2.1==decide (p.2.2.1<p.2.1))&&(nu||decide (p.2.2.1=0))))
def zez(t:Int)(nu:Bool):List za2->Int->Int->Int × Bool
 | [],rows,size=>(size,decide (rows=0))
 |p::l,rows,size=>if zh6 t nu p rows then zez t nu l (rows-p.2.1) (size+p.1) else(0,false)
def zcm(l:List za2):Int:=(l.map (·.1)).sum
def zmc(l:List za2):Int:=(l.map (·.2.1)).sum
def zef(t:Int)(nu:Bool)(l:List za2)(rows:Int):Prop:=(∀p∈l,zh6 t nu p 65536=true)/\zmc l=rows
theorem zj6(p:za2)(l:List za2):zcm (p::l)=p.1+zcm l:=by simp[zcm]
theorem zg8(p:za2)(l:List za2):zmc (p::l)=p.2.1+zmc l:=by simp[zmc]
theorem pageB_most{t:Int}{nu:Bool}{p:za2}{m:Int}:zh6 t nu p m=true↔(1<=p.2.1/\p.2.1<=m/\1<=p.1/\p.1<=268435456)/\(zb9 t p.2.2&&(decide (p.2.2.1<=p.2.1)&&((p.2.2.2.1==decide (p.2.2.1<p.2.1))&&(nu||decide (p.2.2.1=0)))))=true:=by
 unfold zh6;split
 ·rename_i h
  constructor
  ·intro e;cases e
  ·rintro⟨e,_⟩;omega
 ·rename_i h
  constructor
  ·intro e;exact⟨by omega,e⟩
  ·exact fun e=>e.2
theorem zrh{t:Int}{nu:Bool}{p:za2}{m k:Int}(h:zh6 t nu p m=true)(hk:p.2.1<=k):zh6 t nu p k=true:=by obtain⟨h1,h2⟩:=pageB_most.1 h;exact pageB_most.2 ⟨by omega,h2⟩
theorem zfe{t:Int}{nu:Bool}:∀{l:List za2},(∀p∈l,zh6 t nu p 65536=true)->0<=zmc l/\(l.length:Int)<=zmc l/\0<=zcm l/\zcm l<=l.length*268435456
 | [],_=>by simp[zmc,zcm]
 |p::l,h=>by
  have h1:=(pageB_most.1 (h p (by simp))).1;have:=zfe (l:=l) fun q hq=>h q (by simp[hq])
  rw[zg8,zj6,List.length_cons];omega
theorem zri{t:Int}{nu:Bool}:∀(l:List za2) (rows size:Int),rows<=65536->((zez t nu l rows size).2=true↔zef t nu l rows)/\(zef t nu l rows->(zez t nu l rows size).1=size+zcm l)
 | [],rows,size,_=>by
   simp[zez,zef,zmc,zcm];omega
 |p::l,rows,size,hr=>by
  unfold zez;by_cases hp:zh6 t nu p rows=true
  ·rw[if_pos hp]
   have h1:=(pageB_most.1 hp).1;have ih:=zri (t:=t) (nu:=nu) l (rows-p.2.1) (size+p.1) (by omega);have hiff:zef t nu (p::l) rows↔zef t nu l (rows-p.2.1):=by
    unfold zef;rw[zg8];constructor
    ·rintro⟨a,b⟩
     exact⟨fun q hq=>a q (by simp[hq]),by omega⟩
    ·rintro⟨a,b⟩
     refine⟨fun q hq=>?_,by omega⟩;rcases List.mem_cons.1 hq with rfl|hq
     ·exact zrh hp (by omega)
     ·exact a q hq
   refine⟨ih.1.trans hiff.symm,fun hc=>?_⟩;rw[ih.2 (hiff.1 hc),zj6];omega
  ·rw[if_neg hp]
   have hno: ¬zef t nu (p::l) rows:=by
    rintro⟨a,b⟩;have h1:=a p (by simp);have h2:=zfe (l:=l) fun q hq=>a q (by simp[hq])
    rw[zg8] at b;exact hp (zrh h1 (by omega))
   exact⟨⟨fun h=>by simp at h,fun h=>absurd h hno⟩,fun h=>absurd h hno⟩
def zcf(g:za1):Int:=(g.2.map zcm).sum
def GroupOk(cols:List zbc)(g:za1):Prop:=
 1<=g.1/\g.2.length=cols.length/\ ∀i,i<cols.length->zef (cols.getD i ([],0,false)).2.1 (cols.getD i ([],0,false)).2.2 (g.2.getD i []) g.1
def zbq(F:FootS):Prop:=
 zpi F.cols/\(∀g∈F.groups,GroupOk F.cols g)/\(F.groups.map (·.1)).sum=F.rows/\F.rows<=65536/\(F.groups.map zcf).sum<=1073741824
def zfq(t:Int)(p:za2):List Nat:=vp p.1.toNat++vp p.2.1.toNat++Go.Hm.putS [] t p.2.2
def zgq(t:Int)(l:List za2):List Nat:=vp l.length++l.flatMap (zfq t)
def zca:List zbc->List (List za2)->List Nat
 |c::cs,l::ls=>zgq c.2.1 l++zca cs ls
 |_,_=>[]
def zc3(cols:List zbc)(g:za1):List Nat:=vp g.1.toNat++zca cols g.2
def zev(F:FootS):List Nat:=putC [] F.cols++vp F.rows.toNat++vp F.groups.length++F.groups.flatMap (zc3 F.cols)
open Go Go.RowKit
abbrev ty(l:List zbc)(i:Nat):Int:=(l.getD i ([],0,false)).2.1
def zft(l:List zab)(c:zbc):Bool:=l.all fun x=>zae x c.2.1 c.2.2
def zjo(D:List zex)(L:List zbc):Bool:=(List.zip D L).all fun p=>zft p.1.2.2 p.2
def zgg(L:List zbc)(r:Int)(D:List zex):Int:=
 if zcy L≠0 then zcy L else if zc5 L.length r D≠0 then zc5 L.length r D else if zjo D L then 0 else 3
theorem zv8{m:Nat}{r:Int}{D:List zex}(h:zc5 m r D=0):D.length=m/\0<=r/\r<=65536/\ ∀d∈D,((d.2.2.length:Nat):Int)=r:=by
 unfold zc5 at h;split at h
 ·cases h
 split at h
 ·cases h
 split at h
 ·cases h
 rename_i h1 h2 h3;refine⟨by omega,by omega,by omega,fun d hd=>?_⟩;by_cases e:((d.2.2.length:Nat):Int)=r
 ·exact e
 ·exact absurd ⟨d,hd,e⟩ h3
theorem zyu{l:List zab}{c:zbc}(h:zft l c=true){k:Nat}(hk:k<l.length):zae (l.getD k (false,0,[],0,0)) c.2.1 c.2.2=true:=by rw[List.getD_eq_getElem?_getD,List.getElem?_eq_getElem hk];exact(List.all_eq_true.1 h) _ (List.getElem_mem hk)
theorem zyv{l:List zab}{c:zbc}(h:∀k,k<l.length->zae (l.getD k (false,0,[],0,0)) c.2.1 c.2.2=true):zft l c=true:=by
 refine List.all_eq_true.2 fun x hx=>?_
 obtain⟨k,hk,rfl⟩:=List.getElem_of_mem hx;have:=h k hk;rwa[List.getD_eq_getElem?_getD,List.getElem?_eq_getElem hk] at this
theorem zyw{D:List zex}{L:List zbc}(hl:D.length=L.length)(h:∀k,k<D.length->zft (D.getD k (none,0,[])).2.2 (L.getD k ([],0,false))=true):zjo D L=true:=by
 refine List.all_eq_true.2 fun x hx=>?_
 obtain⟨k,hk,rfl⟩:=List.getElem_of_mem hx;rw[List.length_zip] at hk;have:=h k (by omega);rw[List.getD_eq_getElem?_getD,List.getElem?_eq_getElem (by omega),List.getD_eq_getElem?_getD,List.getElem?_eq_getElem (by omega)] at this;rw[List.getElem_zip];exact this
theorem zpy{D:List zex}{L:List zbc}(hl:D.length=L.length)(h:zjo D L=true){k:Nat}(hk:k<D.length):zft (D.getD k (none,0,[])).2.2 (L.getD k ([],0,false))=true:=by have:=(List.all_eq_true.1 h) _ (List.getElem_mem (l:=List.zip D L) (n:=k) (by rw[List.length_zip];omega));rw[List.getElem_zip] at this;rw[List.getD_eq_getElem?_getD,List.getElem?_eq_getElem (by omega),List.getD_eq_getElem?_getD,List.getElem?_eq_getElem (by omega)];exact this
def DataIn(w:World)(B:Nat)(D:List zex):Prop:=∀d∈D,Reads w B 5 d.1 d.2.2.length (recs zay d.2.2)/\(∀x∈d.2.2,x.2.2.1.length<=140737488351232/\ ∀z∈x.2.2.1,z<256)/\d.2.2.length<=d.2.1/\d.2.1<=9223372036854775807/\(d.1=none->d.2.1=0)
theorem DataIn.later{w w':World}{D:List zex}(h:DataIn w w.heap.size D)(hb:New w w'):DataIn w' w'.heap.size D:=fun d hd=>⟨Reads.later (h d hd).1 hb,(h d hd).2⟩
end Go.Hm
namespace Go.Proofs.Y
open Go.RowKit Go.Hm
set_option maxRecDepth 100000 in
theorem z84{w:World}{Ac:Option Addr}{nc cc:Nat}{L:List zbc}{r:Int}{Ad:Option Addr}{nd cd:Nat}{D:List zex}
 (h1:Reads w w.heap.size 3 Ac nc (recs zls L))(hL:∀x∈L,(∀z∈x.1,z<256)/\x.1.length<=140737488351232)(hc:nc<=cc)(hn:nc<=4611686018427387903)
 (h:Reads w w.heap.size 1 Ad nd (recs zk2 D))(hnd:nd<=4611686018427387903)(hD:DataIn w w.heap.size D):
 Calls Tryz.prog 48 #[.agg #[.slice Ac nc cc,.int .i64 r,.slice Ad nd cd]] w (zal (.int .i64 (zgg L r D)) w):=by
 obtain rfl:=h1.lenC;obtain rfl:=h.lenD;have K1:=Hz (fun(hh:zcy L≠0)=>show zgg L r D=zcy L by rw[zgg,if_pos hh]);have K2:=Hz (fun(hh:zcy L=0) (h2:zc5 L.length r D≠0)=>show zgg L r D=zc5 L.length r D by rw[zgg,if_neg (by simpa using hh),if_pos h2]);have K3:=Hz (fun(hh:zcy L=0) (h2:zc5 L.length r D=0)=>show zgg L r D=if zjo D L then 0 else 3 by rw[zgg,if_neg (by simpa using hh),if_neg (by simpa using h2)]);have SL:=Hz (fun(h2:zc5 L.length r D=0)=>zv8 h2);generalize zgg L r D=O at*;obtain⟨W0,hW0⟩:∃W,W=w.alloc (.cells #[.slice Ac L.length cc,.int .i64 r,.slice Ad D.length cd] 56):=⟨_,rfl⟩;have b0:New w W0:=by rw[hW0];exact(Below.refl _ _).alloc (Nat.le_refl _) _
 have B0:Blk W0 w.heap.size 56 #[.slice Ac L.length cc,.int .i64 r,.slice Ad D.length cd]:=by rw[hW0];exact Blk.new _ _ _
 obtain⟨x0,x1,x2⟩:=zan B0;have P1:=Hz (znq (c:=cc) (Reads.later h1 b0) hL hc hn);have P2:=Hz (fun(W:World) (hW:New W0 W)=>z83 (Ac:=Ac) (nc:=L.length) (cc:=cc) (r:=r) (cd:=cd) (Reads.later h (New.trans b0 hW)) hnd);rw[hW0] at x0 x1 x2;have r1:=Hz (fun(W:World) (hW:New W0 W)=>Reads.later h1 (New.trans b0 hW));have r0:=Hz (fun(W:World) (hW:New W0 W)=>Reads.later h (New.trans b0 hW));have rD:=Hz (fun(W:World) (hW:New W0 W)=>hD.later (New.trans b0 hW));clear h h1 hD;generalize zcy L=q1 at*;generalize zc5 L.length r D=q2 at*;go_enter Tryz.func48,Tryz.ntmps48
 go_wp2_with fail
 rw[<-hW0];refine(P1.out).mono ?_;rintro e W1 ⟨rfl,b1⟩;clear x0 x1 x2 hW0 P1;by_cases h2:q1=0
 ·have K22:=Hz (K2.out h2)
  have K33:=Hz (K3.out h2);clear K1 K2 K3;subst h2;obtain⟨x0,x1,x2⟩:=zan (B0.below b1 B0.lt);go_wp2_with fail
  refine(P2.out _ b1).mono ?_;rintro e W2 ⟨rfl,b2⟩;have b12:=New.trans b1 b2;clear x0 x1 x2 P2 b1 b2;by_cases h3:q2=0
  ·have K5:=Hz (K33.out h3)
   have hSL:=SL.out h3;subst h3;have hDL:=hSL.1;have K6:=Hz (fun(hh:∀k,k<D.length->zft (D.getD k (none,0,[])).2.2 (L.getD k ([],0,false))=true)=>show O=0 by rw[K5.out,if_pos (zyw hDL hh)]);have K7:=Hz (fun(k:Nat) (hk:k<D.length) (hh: ¬zft (D.getD k (none,0,[])).2.2 (L.getD k ([],0,false))=true)=>show O=3 by rw[K5.out,if_neg (fun e=>hh (zpy hDL e hk))]);clear K22 K33 K5 SL hSL;obtain⟨x0,x1,x2⟩:=zan (B0.below b12 B0.lt);go_wp2
   clear x0 x1 x2;go_loopw [23] (fun i wr=>∃k:Nat,i= .int .i64 (k:Int)/\k<=D.length/\New W0 wr/\Hid (∀j,j<k->zft (D.getD j (none,0,[])).2.2 (L.getD j ([],0,false))=true)) (fun i _=>D.length-(intOf i).toNat)
   case atStart=>exact⟨0,rfl,by omega,b12,Hz (by intro j hj;omega)⟩
   case round=>
    obtain⟨k,rfl,hk,hb,H⟩:=hrel;obtain⟨x0,x1,x2⟩:=zan (B0.below hb B0.lt);by_cases hlt:k<D.length
    ·obtain⟨ad,rfl,hbk,c0⟩:=(r0.out _ hb).colD hlt
     have hmem:(D.getD k (none,0,[]))∈D:=by rw[List.getD_eq_getElem?_getD,List.getElem?_eq_getElem hlt];exact List.getElem_mem hlt
     have C:=Hz (fun(W:World) (hW:New W0 W)=>(r1.out W hW).colT (show k<L.length by omega));have E:=Hz (fun(W:World) (hW:New W0 W)=>rD.out W hW _ hmem);have M0:=Hz (fun(hh:∀i,i<(D.getD k (none,0,[])).2.2.length->zae ((D.getD k (none,0,[])).2.2.getD i (false,0,[],0,0)) (L.getD k ([],0,false)).2.1 (L.getD k ([],0,false)).2.2=true)=>show∀j,j<k+1->zft (D.getD j (none,0,[])).2.2 (L.getD j ([],0,false))=true by
      intro j hj;rcases Nat.lt_succ_iff_lt_or_eq.1 hj with hj|rfl
      ·exact H.out j hj
      ·exact zyv hh)
     have M1:=Hz (fun(i:Nat) (hi:i<(D.getD k (none,0,[])).2.2.length) (hh: ¬zae ((D.getD k (none,0,[])).2.2.getD i (false,0,[],0,0)) (L.getD k ([],0,false)).2.1 (L.getD k ([],0,false)).2.2=true)=>K7.out k hlt (fun e=>hh (zyu e hi)));clear hmem H;generalize(D.getD k (none,0,[])).1=aA at*;generalize(D.getD k (none,0,[])).2.2=l at*;generalize(D.getD k (none,0,[])).2.1=cA at*;generalize(L.getD k ([],0,false)).1=cn at*;generalize(L.getD k ([],0,false)).2.1=t at*;generalize(L.getD k ([],0,false)).2.2=nu at*;have hiz:(k:Int)<(D.length:Int):=by omega
     have hiz2:(k:Int)<(L.length:Int):=by omega
     go_wp2
     clear x0 x1 x2 c0;go_loopw [30] (fun i wr=>∃j:Nat,i= .int .i64 (j:Int)/\j<=l.length/\New W0 wr/\Hid (∀i,i<j->zae (l.getD i (false,0,[],0,0)) t nu=true)) (fun i _=>l.length-(intOf i).toNat)
     case atStart=>exact⟨0,rfl,by omega,hb,Hz (by intro j hj;omega)⟩
     case round=>
      obtain⟨j,rfl,hj,hb2,H2⟩:=hrel;by_cases hl2:j<l.length
      ·obtain⟨E1,E2,E3,E4,_⟩:=E.out _ hb2
       obtain⟨ad2,e2,hbk2,d0,d1,d2,d3,d4⟩:=E1.cell5 hl2;subst e2;have hxm:(l.getD j (false,0,[],0,0))∈l:=by rw[List.getD_eq_getElem?_getD,List.getElem?_eq_getElem hl2];exact List.getElem_mem hl2
       have hsz:=(E2 _ hxm).1;obtain⟨ad3,e3,hbk3,f0,f1,f2⟩:=C.out _ hb2;subst e3;have P:=Hz (fun(W:World)=>zfw (w:=W) (b:=(l.getD j (false,0,[],0,0)).1) (n:=(l.getD j (false,0,[],0,0)).2.1) (s:=(l.getD j (false,0,[],0,0)).2.2.1) (x:=(l.getD j (false,0,[],0,0)).2.2.2.1) (y:=(l.getD j (false,0,[],0,0)).2.2.2.2) (cn:=cn) (t:=t) (nu:=nu) hsz);have N1:=Hz (fun(hh: ¬zae ((l.getD j (false,0,[],0,0)).1,(l.getD j (false,0,[],0,0)).2.1,(l.getD j (false,0,[],0,0)).2.2.1,(l.getD j (false,0,[],0,0)).2.2.2.1,(l.getD j (false,0,[],0,0)).2.2.2.2) t nu=true)=>M1.out j hl2 hh);have N0:=Hz (fun(hh:zae ((l.getD j (false,0,[],0,0)).1,(l.getD j (false,0,[],0,0)).2.1,(l.getD j (false,0,[],0,0)).2.2.1,(l.getD j (false,0,[],0,0)).2.2.2.1,(l.getD j (false,0,[],0,0)).2.2.2.2) t nu=true)=>show∀i,i<j+1->zae (l.getD i (false,0,[],0,0)) t nu=true by
        intro i hi;rcases Nat.lt_succ_iff_lt_or_eq.1 hi with hi|rfl
        ·exact H2.out i hi
        ·exact hh)
       clear hxm hsz H2 E1 E2;generalize(l.getD j (false,0,[],0,0)).1=b at*;generalize(l.getD j (false,0,[],0,0)).2.1=n at*;generalize(l.getD j (false,0,[],0,0)).2.2.1=s at*;generalize(l.getD j (false,0,[],0,0)).2.2.2.1=px at*;generalize(l.getD j (false,0,[],0,0)).2.2.2.2=py at*;generalize zae (b,n,s,px,py) t nu=R at*;have hiz3:(j:Int)<(l.length:Int):=by omega
       obtain⟨W3,hW3⟩:∃W,W=wr.alloc (.cells #[.bool b,.int .i64 n,.string (zad s),.int .i64 px,.int .i64 py] 75):=⟨_,rfl⟩;have b3:New wr W3:=by rw[hW3];exact(Below.refl _ _).alloc (Nat.le_refl _) _
       have Y:Blk W3 wr.heap.size 75 #[.bool b,.int .i64 n,.string (zad s),.int .i64 px,.int .i64 py]:=by rw[hW3];exact Blk.new _ _ _
       have F1:=Hz (fun(W:World) (hW:New W3 W)=>zcq (Y.below hW Y.lt));have F2:=Hz (fun(W:World) (hW:New W3 W)=>zan (B0.below (New.trans hb2 (New.trans b3 hW)) B0.lt));have hb3:(ad3.add (k*3)).block<wr.heap.size:=by rw[zaj];exact hbk3
       have F3:=Hz (fun(W:World) (hW:New W3 W)=>(And.intro ((Below.cell (New.trans b3 hW) hb3).trans f0) (And.intro ((Below.cell (p:=⟨(ad3.add (k*3)).block,_,none⟩) (New.trans b3 hW) hb3).trans f1) ((Below.cell (p:=⟨(ad3.add (k*3)).block,_,none⟩) (New.trans b3 hW) hb3).trans f2))));go_wp2_with fail
       rw[<-hW3];clear hW3;refine zaw New [(true,0),(true,1),(true,2),(true,3),(true,4),(true,5),(false,6),(true,7)]
        New.refl New.trans (by kernel_rfl) (by kernel_rfl) (by kernel_rfl) (by kernel_rfl) ?_
       have hU:=New.drew W3;have hV:=New.refl W3.drew;repeat(first
        |(refine za7 rfl rfl (fun K hK=>?_);go_simp
          (with_reducible refine(P.out _).mono ?_)
          rintro e w9 ⟨rfl,b9⟩;refine hK _ _ b9 ?_;clear hK;replace hU:=New.trans hU b9;replace hV:=New.trans hV b9)
        |(refine zar rfl rfl (v:=?_) (fun W hW=>?_) ?_;rotate_left;(obtain⟨p0,p1,p2,p3,p4⟩:=F1.out W (New.trans (New.drew W3) (New.trans hV hW));obtain⟨y0,y1,y2⟩:=F2.out W (New.trans (New.drew W3) (New.trans hV hW));obtain⟨z0,z1,z2⟩:=F3.out W (New.trans (New.drew W3) (New.trans hV hW));go_simp<;> with_reducible rfl);simp only[Act.put,List.setIfInBounds_toArray,List.set_cons_zero,List.set_cons_succ]))
       refine zdh ?_;clear F1 F2 F3 f0 f1 f2 d0 d1 d2 d3 d4 P Y;have hb4:=New.trans hb2 (New.trans b3 hU);cases R with
       |true=>
        have N3:=Hz (N0.out rfl);go_wp2
        go_roundw
        case rel=>exact⟨j+1,by go_num,by omega,hb4,N3⟩
        case measure=>simp[intOf];omega
       |false=>
        have N3:=Hz (N1.out (by simp));go_wp2
        go_ret
        exact⟨by rw[N3.out];rfl,New.trans b0 hb4⟩
      ·obtain rfl:j=l.length:=by omega
       have M3:=Hz (M0.out H2.out);go_wp2
       go_roundw
       case rel=>exact⟨k+1,by go_num,by omega,hb2,M3⟩
       case measure=>simp[intOf];omega
    ·obtain rfl:k=D.length:=by omega
     have O1:=Hz (K6.out H.out);go_wp2
     go_ret
     exact⟨by rw[O1.out];rfl,New.trans b0 hb⟩
  ·have O1:=Hz (K22.out h3)
   have e1:(q2 != 0)=true:=by simpa using h3
   clear K22 K33 SL h3;go_wp2
   go_ret
   exact⟨by rw[O1.out];rfl,New.trans b0 b12⟩
 ·have O1:=Hz (K1.out h2)
  have e1:(q1 != 0)=true:=by simpa using h2
  clear K1 K2 K3 h2;go_wp2
  go_ret
  exact⟨by rw[O1.out];rfl,New.trans b0 b1⟩
end Go.Proofs.Y
namespace Go.Hm
open Go Go.RowKit
theorem qdz(z:Array Value)(n:Nat):(madeCells z (n*z.size)).toList=(List.replicate n z.toList).flatten:=by
 induction n with
 |zero=>simp[madeCells]
 |succ n ih=>
  rw[List.replicate_succ',List.flatten_append,<-ih];simp only[madeCells,Array.toList_map,Array.toList_range,Nat.succ_mul,List.range_add,List.map_append,List.flatten_cons,List.flatten_nil,List.append_nil,List.map_map];congr 1
  refine List.ext_getElem (by simp) fun i h1 h2=>?_
  have hi:i<z.size:=by simpa using h1
  have e:(n*z.size+i)%z.size=i:=by rw[Nat.mul_comm,Nat.mul_add_mod,Nat.mod_eq_of_lt hi]
  simp[e,hi]
section
variable{P:Program}{ops:Array Oper}{rest:List Oper}{o:Oper}{a:Act}{Q:Exit->Act->World->Prop}
theorem qhe{w:World}{t e:TypeId}{z:Array Value}{sz bytes:Nat}(E:ElT P t e (.agg z) sz bytes)(hs:z.size=sz){kl kc:IntKind}(n:Nat)(hn:n*bytes<=140737488355328)(hm:n<=maxLen):
 (Instr.makeSlice t (.int kl (n:Int)) (.int kc (n:Int))).run P w= .ok (.slice (some ⟨w.heap.size,0,none⟩) n n) (w.alloc (.cells (List.replicate n z.toList).flatten.toArray e)):=by
 obtain⟨i,hi,hz0,hs1,hb1⟩:=info_parts E.hi;have hmC:(n:Int)<=9223372036854775807:=by have h:=hm;simp only[maxLen] at h;omega
 have hbC:(i.bytes:Int)*(n:Int)<=281474976710656:=by
  have h:((i.bytes*n:Nat):Int)<=281474976710656:=by rw[hb1,Nat.mul_comm];omega
  rwa[Int.natCast_mul] at h
 have hrun:=run_make (P:=P) w t e i (.agg z) E.ht hi hz0 kl kc (n:Int) (n:Int) (by omega) (by omega) hbC hmC;have e1:madeCells (Value.agg z).cells (n*i.size)=(List.replicate n z.toList).flatten.toArray:=by apply Array.toList_inj.1;rw[hs1,<-hs];exact qdz z n
 rw[Int.toNat_natCast,e1] at hrun;exact hrun
theorem z4h{w:World}{t e:TypeId}{z:Array Value}{sz bytes:Nat}(E:ElT P t e (.agg z) sz bytes)(hs:z.size=sz)(hgd:o.guard=none)(lo co:Operand)(ho:o.op=Op.makeSlice t lo co)
 {kl kc:IntKind}{L C:Int}(n:Nat)(hl:a.eval lo= .int kl L)(hc:a.eval co= .int kc C)(hL:L=(n:Int))(hC:C=(n:Int))(hn:n*bytes<=140737488355328)(hm:n<=maxLen)
 (h:∀w',Blk w' w.heap.size e (List.replicate n z.toList).flatten.toArray->New w w'->w'.heap.size=w.heap.size+1->wpList P ops Q rest (a.put o.dst (.slice (some ⟨w.heap.size,0,none⟩) n n)) w'):
 wpList P ops Q (o::rest) a w:=by
 subst hL hC;have hrun:=qhe (w:=w) E hs (kl:=kl) (kc:=kc) n hn hm;refine wpList_plain hgd fun K hK=>?_
 unfold Oper.wp;simp[execOp,ho,hl,hc,hrun,Result.andThen];exact hK _ _ (h _ (by simpa using Blk.new w e (List.replicate n z.toList).flatten.toArray) ((Below.refl _ _).alloc (Nat.le_refl _) _) (by simp))
theorem Blk.setCells{g:Nat}{t:TypeId}:∀(vs:List Value) {w:World} {A old B:List Value},Blk w g t (A++(old++B)).toArray->old.length=vs.length->Blk (w.setCells g A.length vs) g t (A++(vs++B)).toArray
 | [],w,A,old,B,h,hl=>by
   obtain rfl:=List.length_eq_zero_iff.1 hl;exact h
 |v::vs,w,A,[],B,h,hl=>by simp at hl
 |v::vs,w,A,x::old,B,h,hl=>by
  have h1:=h.set_ A.length v;have e:(A++(x::old++B)).toArray.setIfInBounds A.length v=((A++[v])++(old++B)).toArray:=by rw[List.setIfInBounds_toArray,List.set_append_right _ _ (Nat.le_refl _),Nat.sub_self];simp
  rw[e] at h1;have h2:=Blk.setCells vs h1 (by simpa using hl);rw[List.length_append] at h2;show Blk ((w.setCell ⟨g,A.length,none⟩ v).setCells g (A.length+1) vs) g t (A++(v::vs++B)).toArray;simpa using h2
theorem zjy{g:Nat}:∀(vs:List Value) (w:World) (o:Nat),w.grownBy (w.setCells g o vs) (some g)/\(w.setCells g o vs).heap.size=w.heap.size
 | [],w,_=>⟨World.grownBy.refl w _,rfl⟩
 |v::vs,w,o=>by
  have h1:w.grownBy (w.setCell ⟨g,o,none⟩ v) (some g):=⟨rfl,rfl,rfl,by simp[World.setCell],fun k _ hne=>Below.heap_setCell _ _ _ _ (fun e=>hne (by rw[e]))⟩;obtain⟨h2,h3⟩:=zjy vs (w.setCell ⟨g,o,none⟩ v) (o+1);exact⟨World.grownBy.trans h1 h2,by show((w.setCell ⟨g,o,none⟩ v).setCells g (o+1) vs).heap.size=_;rw[h3];simp[World.setCell]⟩
theorem ztx{w:World}(hgd:o.guard=none)(ty:TypeId)(x y:Operand)(ho:o.op= .store ty x y)
 (g:Nat)(us:Array Value){A old B:List Value}{m:Nat}(hx:a.eval x= .pointer (some ⟨g,m,none⟩))(hy:a.eval y= .agg us){t:TypeId}(hB:Blk w g t (A++(old++B)).toArray)(hA:A.length=m)(hlen:old.length=us.size)
 (hi:(P.info? ty).map (·.size)=some us.size)(h1:us.all (·.oneCell')=true)
 (h:∀W,Blk W g t (A++(us.toList++B)).toArray->w.grownBy W (some g)->W.heap.size=w.heap.size->wpList P ops Q rest (a.put o.dst undef) W):wpList P ops Q (o::rest) a w:=by
 subst hA;refine wpList_store_mid hgd ty x y ho g A.length us hx hy (fun j hj=>⟨?_,hB.frozen _⟩) hi h1 ?_
 ·rw[hB.cell,Array.getElem?_eq_getElem (by simp;omega)]
  rfl
 ·obtain⟨g1,g2⟩:=zjy us.toList w A.length (g:=g)
  exact h _ (Blk.setCells us.toList hB (by simpa using hlen)) g1 g2
end
end Go.Hm
