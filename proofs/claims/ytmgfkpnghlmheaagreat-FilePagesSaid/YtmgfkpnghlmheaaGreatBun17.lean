/- Merged. -/
import Derived.Test.YtmgfkpnghlmheaaGreatBun12
import Derived.Test.YtmgfkpnghlmheaaGreatBun13
set_option maxHeartbeats 4000000
namespace Go.Proofs.Y
open Go.RowKit Go.Hm
def zco(s:zc7):Prop:=(s.2.2.1.2.2.1.length<=140737488351232/\ ∀z∈s.2.2.1.2.2.1,z<256)/\s.2.2.2.2.2.1.length<=140737488351232/\ ∀z∈s.2.2.2.2.2.1,z<256
set_option maxRecDepth 100000 in
theorem zg5{w:World}{t:Int}{s:zc7}(hf:zco s):Calls Tryz.prog 119 #[.int .i64 t,zbz s] w (zak (.bool (zbu t s)) w):=by
 obtain⟨M,hM⟩:∃M,M=zbu t s:=⟨_,rfl⟩;rw[<-hM];unfold zbu at hM;obtain⟨n,b,p,q⟩:=s;obtain⟨⟨hf1,hf2⟩,hf3,hf4⟩:=hf;dsimp only at hM hf1 hf2 hf3 hf4;have E:∀W,(binOp .eql 63 (zbz (n,false,p,q)) (zbz (n,false,zaz,zaz))).run Tryz.prog W= .ok (.bool (decide (p=zaz)&&decide (q=zaz))) W:=fun W=>by
  rw[z2f];have:eqS (n,false,p,q) (n,false,zaz,zaz)=(decide (p=zaz)&&decide (q=zaz)):=by rw[Bool.eq_iff_iff,qdz hf2 hf4 (by simp[zaz]) (by simp[zaz])];simp
  rw[this]
 have HN:=fun(h1:zaf p t false=true) (h2:zaf q t false=true) (W:World)=>ze9 (w:=W) (t:=t) (a:=p) (b:=q) (zft h1) (zft h2)
 have R1:=fun(W:World)=>zfs (w:=W) (b:=p.1) (n:=p.2.1) (s:=p.2.2.1) (x:=p.2.2.2.1) (y:=p.2.2.2.2) (cn:=[]) (t:=t) (nu:=false) hf1
 have R2:=fun(W:World)=>zfs (w:=W) (b:=q.1) (n:=q.2.1) (s:=q.2.2.1) (x:=q.2.2.2.1) (y:=q.2.2.2.2) (cn:=[]) (t:=t) (nu:=false) hf3
 generalize(decide (p=zaz)&&decide (q=zaz))=eq at*;generalize zh2 t p q=o at*;obtain⟨p1,p2,p3,p4,p5⟩:=p;obtain⟨q1,q2,q3,q4,q5⟩:=q;dsimp only at R1 R2 hM;generalize zaf (p1,p2,p3,p4,p5) t false=m1 at*;generalize zaf (q1,q2,q3,q4,q5) t false=m2 at*;have E:∀W,(binOp .eql 63 (.agg #[.int .i64 n,.bool false,.bool p1,.int .i64 p2,.string (zac p3),.int .i64 p4,.int .i64 p5,.bool q1,.int .i64 q2,.string (zac q3),.int .i64 q4,.int .i64 q5]) (.agg #[.int .i64 n,.bool false,.bool false,.int .i64 0,.string ⟨#[]⟩,.int .i64 0,.int .i64 0,.bool false,.int .i64 0,.string ⟨#[]⟩,.int .i64 0,.int .i64 0])).run Tryz.prog W= .ok (.bool eq) W:=E;have R1:Hid (∀W,Calls Tryz.prog 52 #[.agg #[.bool p1,.int .i64 p2,.string (zac p3),.int .i64 p4,.int .i64 p5],.agg #[.string ⟨#[]⟩,.int .i64 t,.bool false]] W (zak (.bool m1) W)):=Hz R1;have R2:Hid (∀W,Calls Tryz.prog 52 #[.agg #[.bool q1,.int .i64 q2,.string (zac q3),.int .i64 q4,.int .i64 q5],.agg #[.string ⟨#[]⟩,.int .i64 t,.bool false]] W (zak (.bool m2) W)):=Hz R2;unfold zca zan at HN;dsimp only at HN;have HN:=Hz HN;show Calls Tryz.prog 119 #[.int .i64 t,.agg #[.int .i64 n,.bool b,.bool p1,.int .i64 p2,.string (zac p3),.int .i64 p4,.int .i64 p5,.bool q1,.int .i64 q2,.string (zac q3),.int .i64 q4,.int .i64 q5]] w (zak (.bool M) w);have B0:=Blk.new w 63 #[.int .i64 n,.bool b,.bool p1,.int .i64 p2,.string (zac p3),.int .i64 p4,.int .i64 p5,.bool q1,.int .i64 q2,.string (zac q3),.int .i64 q4,.int .i64 q5];have hb:New w (w.alloc (.cells #[.int .i64 n,.bool b,.bool p1,.int .i64 p2,.string (zac p3),.int .i64 p4,.int .i64 p5,.bool q1,.int .i64 q2,.string (zac q3),.int .i64 q4,.int .i64 q5] 63)):=(Below.refl _ _).alloc (Nat.le_refl _) _;have HB0:=Hz B0;have Hb:=Hz hb;obtain⟨x0,x1,x2,x3,x4,x5,x6,x7,x8,x9,x10,x11⟩:=za6 B0;clear B0 hb hf1 hf2 hf3 hf4;by_cases hr:t<0\/3<t\/n<0\/65536<n
 ·rw[if_pos hr] at hM
  have HM:=Hz hM;clear hM E;by_cases h1:t<0;all_goals try by_cases h2:3<t
  all_goals try by_cases h3:n<0
  all_goals try(have h4:65536<n:=by omega)
  all_goals
   clear hr;go_enter Tryz.func119,Tryz.ntmps119
   go_wp2
   go_ret
   exact⟨by rw[HM.out];rfl,Hb.out⟩
 rw[if_neg hr] at hM;have h1: ¬t<0:=by omega
 have h2: ¬3<t:=by omega
 have h3: ¬n<0:=by omega
 have h4: ¬65536<n:=by omega
 clear hr;cases b with
 |false=>
  rw[if_neg (by simp)] at hM;have HM:=Hz hM;clear hM;go_enter Tryz.func119,Tryz.ntmps119
  go_wp2
  go_ret
  exact⟨by rw[HM.out];rfl,Hb.out⟩
 |true=>
  rw[if_pos rfl] at hM;have HM:=Hz hM;clear hM E;go_enter Tryz.func119,Tryz.ntmps119
  go_wp2_with fail
  refine(R1.out _).mono ?_;rintro e w1 ⟨rfl,b1⟩;have B0:=(HB0.out.alloc _).below b1 (by simp;omega);have BC:=(Blk.new _ _ _).below b1 (by simp);have hl:=New.trans (New.trans Hb.out ((Below.refl _ _).alloc (Nat.le_refl _) _)) b1;simp only[World.size_alloc] at BC;clear x0 x1 x2 x3 x4 x5 x6 x7 x8 x9 x10 x11 HB0 Hb b1;obtain⟨x0,x1,x2,x3,x4,x5,x6,x7,x8,x9,x10,x11⟩:=za6 B0;obtain⟨y0,y1,y2⟩:=zad BC;cases m1 with
  |false=>
   go_wp2_with fail
   go_ret
   exact⟨by rw[HM.out];rfl,hl⟩
  |true=>
   go_wp2_with fail
   refine(R2.out _).mono ?_;rintro e w2 ⟨rfl,b2⟩;replace B0:=B0.below b2 B0.lt;replace hl:=New.trans hl b2;clear x0 x1 x2 x3 x4 x5 x6 x7 x8 x9 x10 x11 b2 y0 y1 y2 BC;obtain⟨x0,x1,x2,x3,x4,x5,x6,x7,x8,x9,x10,x11⟩:=za6 B0;cases m2 with
   |false=>
    go_wp2_with fail
    go_ret
    exact⟨by rw[HM.out];rfl,hl⟩
   |true=>
    have C:=Hz (HN.out (by trivial) (by trivial));go_wp2_with fail
    refine(C.out _).mono ?_;rintro e w3 ⟨rfl,b3⟩;go_wp2
    go_ret
    exact⟨by rw[HM.out];rfl,New.trans hl b3⟩
end Go.Proofs.Y
namespace Go.Hm
open Go Go.RowKit
def zlh(t:Int)(s:zc7):List Nat:=plB t [s.2.2.1,s.2.2.2]
def putS(l:List Nat)(t:Int)(s:zc7):List Nat:=
 if zbu t s then(if s.2.1 then l++vp s.1.toNat++[1]++vp (zlh t s).length++zlh t s else l++vp s.1.toNat++[0]) else l
theorem zkm{t:Int}{s:zc7}(h:zbu t s=true):(0<=t/\t<=3)/\0<=s.1/\s.1<=65536:=by
 unfold zbu at h;split at h
 ·simp at h
 ·omega
theorem zli{t:Int}{s:zc7}(h:zbu t s=true)(hh:s.2.1=true):zaf s.2.2.1 t false=true/\zaf s.2.2.2 t false=true/\zh2 t s.2.2.1 s.2.2.2<=0:=by
 unfold zbu at h;split at h
 ·simp at h
 ·simpa[hh] using h
theorem z6i{t:Int}{s:zc7}(h:zbu t s=true)(hh:s.2.1=true):zh5 t [s.2.2.1,s.2.2.2]=true:=by
 obtain⟨h1,h2,-⟩:=zli h hh;have h3:=(zkm h).1;rw[plOk_iff];refine⟨⟨h3.1,h3.2,by simp⟩,fun c hc=>?_⟩;simp at hc;rcases hc with rfl|rfl
 ·exact h1
 ·exact h2
end Go.Hm
namespace Go.Proofs.Y
open Go.RowKit Go.Hm
theorem zss{t:Int}{s:zc7}(h:zbu t s=true)(hh:s.2.1=true):(zlh t s).length<=131112:=by
 obtain⟨h1,h2,-⟩:=zli h hh;have a:=zw6 h1;have b:=zw6 h2;have ta:s.2.2.1.2.2.1.length<=65536:=zi0 h1;have tb:s.2.2.2.2.2.1.length<=65536:=zi0 h2;unfold zlh plB;split
 ·rw[zbk];simp
 ·simp only[List.flatMap_cons,List.flatMap_nil,List.append_nil,List.length_append]
  omega
def statData(s:zc7):Prop:=zai s.2.2.1/\zai s.2.2.2
theorem statData.fine{s:zc7}(h:statData s):zco s:=⟨h.1.1,h.2.1⟩
set_option maxRecDepth 100000 in
theorem z6j{w:World}{A:Option Addr}{n c:Nat}{l:List Nat}{t:Int}{s:zc7}(h:Reads w w.heap.size 1 A n (za2 .u8 l))(hn:n<=100000000)(hs:statData s):
 Calls Tryz.prog 95 #[.slice A n c,.int .i64 t,zbz s] w (zc4 (putS l t s) w):=by
 obtain rfl:n=l.length:=h.len;have HR:=Hz h;have SR:=fun(W:World)=>zg5 (w:=W) (t:=t) hs.fine
 have hrn:=fun(e:zbu t s=true)=>zkm e
 have PE:=fun(e:zbu t s=true) (eh:s.2.1=true) (W:World)=>zkf (t:=t) (c:=2) (Reads.litR W 61 (zan s.2.2.1++zan s.2.2.2).toArray 2 5 (recs zan [s.2.2.1,s.2.2.2]) (by simp[recs]) (by simp[recs,zan])) (fun y hy=>by simp at hy;rcases hy with rfl|rfl;exact hs.1;exact hs.2) (by omega)
 have pe2:=fun(e:zbu t s=true) (eh:s.2.1=true)=>(show plO t [s.2.2.1,s.2.2.2]=some (zlh t s) by unfold plO zlh;rw[if_pos (z6i e eh)])
 have hel:=fun(e:zbu t s=true) (eh:s.2.1=true)=>zss e eh
 obtain⟨M,hM⟩:∃M,M=putS l t s:=⟨_,rfl⟩;rw[<-hM];unfold putS at hM;clear hs h;generalize zbu t s=R at*;generalize zlh t s=E at*;obtain⟨nn,b,⟨p1,p2,p3,p4,p5⟩,⟨q1,q2,q3,q4,q5⟩⟩:=s;dsimp only at hrn PE pe2 hel hM;have SR:Hid (∀W,Calls Tryz.prog 119 #[.int .i64 t,.agg #[.int .i64 nn,.bool b,.bool p1,.int .i64 p2,.string (zac p3),.int .i64 p4,.int .i64 p5,.bool q1,.int .i64 q2,.string (zac q3),.int .i64 q4,.int .i64 q5]] W (zak (.bool R) W)):=Hz SR;show Calls Tryz.prog 95 #[.slice A l.length c,.int .i64 t,.agg #[.int .i64 nn,.bool b,.bool p1,.int .i64 p2,.string (zac p3),.int .i64 p4,.int .i64 p5,.bool q1,.int .i64 q2,.string (zac q3),.int .i64 q4,.int .i64 q5]] w (zc4 M w);have B0:=Blk.new w 63 #[.int .i64 nn,.bool b,.bool p1,.int .i64 p2,.string (zac p3),.int .i64 p4,.int .i64 p5,.bool q1,.int .i64 q2,.string (zac q3),.int .i64 q4,.int .i64 q5];have hb:New w (w.alloc (.cells #[.int .i64 nn,.bool b,.bool p1,.int .i64 p2,.string (zac p3),.int .i64 p4,.int .i64 p5,.bool q1,.int .i64 q2,.string (zac q3),.int .i64 q4,.int .i64 q5] 63)):=(Below.refl _ _).alloc (Nat.le_refl _) _;obtain⟨x0,x1,x2,x3,x4,x5,x6,x7,x8,x9,x10,x11⟩:=za6 B0;have HPE:=Hz PE;have Hpe2:=Hz pe2;have Hhel:=Hz hel;clear PE pe2 hel;cases R with
 |false=>
  rw[if_neg (by simp)] at hM;have HM:=Hz hM;clear hM hrn HPE Hpe2 Hhel;go_enter Tryz.func95,Tryz.ntmps95
  go_wp2_with fail
  refine(SR.out _).mono ?_;rintro e w1 ⟨rfl,b1⟩;have b01:=New.trans hb b1;have CL:=Hz (zgw (c:=c) (Reads.later HR.out b01) (by omega));clear b1 hb B0 x0 x1 x2 x3 x4 x5 x6 x7 x8 x9 x10 x11;go_wp2_with fail
  refine CL.out.mono ?_;rintro e w2 ⟨A2,n2,c2,rfl,k2,b2⟩;go_wp2_with fail
  go_ret
  rw[HM.out];exact⟨_,_,_,rfl,k2.base_le b01.size,New.trans b01 b2⟩
 |true=>
  rw[if_pos rfl] at hM;obtain⟨-,⟨n0,n1⟩⟩:=hrn rfl;clear hrn;obtain⟨N,rfl⟩:=Int.eq_ofNat_of_zero_le n0;rw[Int.toNat_natCast] at hM;have hw:IntKind.u64.wrap (N:Int)=(N:Int):=by rw[IntKind.wrap_u64];omega
  have V:=zap (n:=N) (by omega);cases b with
  |false=>
   rw[if_neg (by simp)] at hM;have HM:=Hz hM;clear hM HPE Hpe2 Hhel;go_enter Tryz.func95,Tryz.ntmps95
   go_wp2_with fail
   refine(SR.out _).mono ?_;rintro e w1 ⟨rfl,b1⟩;have b01:=New.trans hb b1;have B1:=B0.below b1 B0.lt;clear b1 hb B0 x0 x1 x2 x3 x4 x5 x6 x7 x8 x9 x10 x11;obtain⟨x0,x1,x2,x3,x4,x5,x6,x7,x8,x9,x10,x11⟩:=za6 B1;have P:=Hz (zcz A l.length c l N w1 (Reads.later HR.out b01) (by omega) (by omega));go_wp2_with fail
   refine P.out.mono ?_;rintro e w2 ⟨A2,n2,c2,rfl,k2,b2⟩;have hq2:n2<=100000010:=by have:=k2.len;rw[zaa,List.length_append] at this;omega
   have b02:=New.trans b01 b2;have hz2:=b2.size;have B2:=B1.below b2 B1.lt;clear P b2 B1 x0 x1 x2 x3 x4 x5 x6 x7 x8 x9 x10 x11;obtain⟨x0,x1,x2,x3,x4,x5,x6,x7,x8,x9,x10,x11⟩:=za6 B2;have hz1:=b01.size
   go_wp2_with (refine zdt elB rfl (.tmp 24) (.tmp 25) rfl (W:=w) (B:=w.heap.size) (k2.base_le hz1) rfl rfl 0 rfl b02 (Nat.le_refl _) (by omega) (by omega) (by simp only[maxLen];omega) ?_
                intro A5 c5 w5 _ _ o5 _ b5 _ _)
   go_ret
   rw[HM.out];exact⟨_,_,_,rfl,o5,b5⟩
  |true=>
   rw[if_pos rfl] at hM;have PE:=HPE.out rfl rfl;rw[Hpe2.out rfl rfl] at PE;have hel:=Hhel.out rfl rfl;have PE:Hid (∀W:World,Calls Tryz.prog 120 #[.int .i64 t,.slice (some ⟨W.heap.size,0,none⟩) 2 2] (W.alloc (.cells #[.bool p1,.int .i64 p2,.string (zac p3),.int .i64 p4,.int .i64 p5,.bool q1,.int .i64 q2,.string (zac q3),.int .i64 q4,.int .i64 q5] 61)) (OptB (some E) (W.alloc (.cells #[.bool p1,.int .i64 p2,.string (zac p3),.int .i64 p4,.int .i64 p5,.bool q1,.int .i64 q2,.string (zac q3),.int .i64 q4,.int .i64 q5] 61)))):=Hz PE;have HM:=Hz hM;clear hM HPE Hpe2 Hhel;have V2:=zap (n:=E.length) (by omega);have P2:=Hz (fun(W:World)=>zcz none 0 0 [] E.length W Reads.none_ (by omega) (by omega));have hw2:IntKind.u64.wrap (E.length:Int)=(E.length:Int):=by rw[IntKind.wrap_u64];omega
   go_enter Tryz.func95,Tryz.ntmps95
   go_wp2_with fail
   refine(SR.out _).mono ?_;rintro e w1 ⟨rfl,b1⟩;have b01:=New.trans hb b1;have B1:=B0.below b1 B0.lt;clear b1 hb B0 x0 x1 x2 x3 x4 x5 x6 x7 x8 x9 x10 x11;obtain⟨x0,x1,x2,x3,x4,x5,x6,x7,x8,x9,x10,x11⟩:=za6 B1;have P:=Hz (zcz A l.length c l N w1 (Reads.later HR.out b01) (by omega) (by omega));go_wp2_with fail
   refine P.out.mono ?_;rintro e w2 ⟨A2,n2,c2,rfl,k2,b2⟩;have hq2:n2<=100000010:=by have:=k2.len;rw[zaa,List.length_append] at this;omega
   have b02:=New.trans b01 b2;have hz2:=b2.size;have hz1:=b01.size;have B2:=B1.below b2 B1.lt;have o2:=k2.base_le hz1;clear P b2 B1 x0 x1 x2 x3 x4 x5 x6 x7 x8 x9 x10 x11 k2;obtain⟨x0,x1,x2,x3,x4,x5,x6,x7,x8,x9,x10,x11⟩:=za6 B2;go_wp2_with fail
   refine(PE.out _).mono ?_;rintro e w3 ⟨A3,n3,c3,rfl,k3,b3⟩;have ha:New w2 (w2.alloc (.cells #[.bool p1,.int .i64 p2,.string (zac p3),.int .i64 p4,.int .i64 p5,.bool q1,.int .i64 q2,.string (zac q3),.int .i64 q4,.int .i64 q5] 61)):=(Below.refl _ _).alloc (Nat.le_refl _) _;have b23:=New.trans ha b3;have hap:=zgj k3 (o2.later ha);have o3:=o2.later b23;have b03:=New.trans b02 b23;have hz3:=b23.size;have hn3:n3<=131112:=by have l3:=k3.len;rw[zaa] at l3;omega
   have HNE:Hid (n3=E.length):=Hz (by have l3:=k3.len;rwa[zaa] at l3);have P2:Hid (∀W,Calls Tryz.prog 93 #[.slice none 0 0,.int .u64 (n3:Int)] W (zc4 ([]++vp E.length) W)):=Hz (by rw[HNE.out];exact P2.out);have hw2:IntKind.u64.wrap (n3:Int)=(n3:Int):=by rw[IntKind.wrap_u64];omega
   clear ha b3 b23 o2 b02 B2 x0 x1 x2 x3 x4 x5 x6 x7 x8 x9 x10 x11
   go_wp2_with (refine zdt elB rfl (.tmp 37) (.tmp 38) rfl (W:=w) (B:=w.heap.size) o3 rfl rfl 1 rfl b03 (Nat.le_refl _) (by omega) (by omega) (by simp only[maxLen];omega) ?_
                intro A5 c5 w5 _ _ o5 g5 b5 _ d5)
   have hap5:=zif hap d5 k3;have k5:=k3.kept g5 hap;have hz5:=b5.size;refine(P2.out _).mono ?_;rintro e w6 ⟨A6,n6,c6,rfl,k6,b6⟩;rw[List.nil_append] at k6;have hq6:n6<=10:=by have:=k6.len;rw[zaa] at this;omega
   have o6:=o5.later b6;have k56:=k5.later b6;have b06:=New.trans b5 b6;have hz6:=b06.size;clear k3 k5 o3 b03 o5 b5 b6 hap g5 d5;go_wp2_with (first
    |(refine zau elB rfl (.tmp 40) (.tmp 44) rfl (W:=w) (B:=w.heap.size) o6 k6.reads rfl rfl b06 (Nat.le_refl _) (by omega) (by omega) (by simp only[maxLen];omega) ?_
      intro A7 c7 w7 _ _ o7 g7 b7 _;have k7:=k56.kept g7 hap5;have hz7:=b7.size)
    |(refine zau elB rfl (.tmp 46) (.tmp 47) rfl (W:=w) (B:=w.heap.size) o7 k7.reads rfl rfl b7 (Nat.le_refl _) (by omega) (by omega) (by simp only[maxLen];omega) ?_
      intro A8 c8 w8 _ _ o8 _ b8 _))
   go_ret
   rw[HM.out];exact⟨_,_,_,rfl,o8,b8⟩
end Go.Proofs.Y
namespace Go.Hm
open Go Go.RowKit
abbrev zax:=Int × Int × zc7
def zf7(p:zax):List Value:= .int .i64 p.1:: .int .i64 p.2.1::zb3 p.2.2
abbrev za5:=Int × List (List zax)
structure FootS where
 cols:List za1
 rows:Int
 groups:List za5
def zex(t:Int)(nu:Bool)(p:zax)(most:Int):Bool:=
 if p.2.1<1\/most<p.2.1\/p.1<1\/268435456<p.1 then false
 else zbu t p.2.2&&(decide (p.2.2.1<=p.2.1)&&((p.2.2.2.1==decide (p.2.2.1<p.2.1))&&(nu||decide (p.2.2.1=0))))
def zer(t:Int)(nu:Bool):List zax->Int->Int->Int × Bool
 | [],rows,size=>(size,decide (rows=0))
 |p::l,rows,size=>if zex t nu p rows then zer t nu l (rows-p.2.1) (size+p.1) else(0,false)
def zbv(l:List zax):Int:=(l.map (·.1)).sum
def zjd(l:List zax):Int:=(l.map (·.2.1)).sum
def zdn(t:Int)(nu:Bool)(l:List zax)(rows:Int):Prop:=(∀p∈l,zex t nu p 65536=true)/\zjd l=rows
theorem zf8(p:zax)(l:List zax):zbv (p::l)=p.1+zbv l:=by simp[zbv]
theorem zey(p:zax)(l:List zax):zjd (p::l)=p.2.1+zjd l:=by simp[zjd]
theorem pageB_most{t:Int}{nu:Bool}{p:zax}{m:Int}:zex t nu p m=true↔(1<=p.2.1/\p.2.1<=m/\1<=p.1/\p.1<=268435456)/\(zbu t p.2.2&&(decide (p.2.2.1<=p.2.1)&&((p.2.2.2.1==decide (p.2.2.1<p.2.1))&&(nu||decide (p.2.2.1=0)))))=true:=by
 unfold zex;split
 ·rename_i h
  constructor
  ·intro e;cases e
  ·rintro⟨e,_⟩;omega
 ·rename_i h
  constructor
  ·intro e;exact⟨by omega,e⟩
  ·exact fun e=>e.2
theorem zrc{t:Int}{nu:Bool}{p:zax}{m k:Int}(h:zex t nu p m=true)(hk:p.2.1<=k):zex t nu p k=true:=by obtain⟨h1,h2⟩:=pageB_most.1 h;exact pageB_most.2 ⟨by omega,h2⟩
theorem zeo{t:Int}{nu:Bool}:∀{l:List zax},(∀p∈l,zex t nu p 65536=true)->0<=zjd l/\(l.length:Int)<=zjd l/\0<=zbv l/\zbv l<=l.length*268435456
 | [],_=>by simp[zjd,zbv]
 |p::l,h=>by
  have h1:=(pageB_most.1 (h p (by simp))).1;have:=zeo (l:=l) fun q hq=>h q (by simp[hq])
  rw[zey,zf8,List.length_cons];omega
theorem zrd{t:Int}{nu:Bool}:∀(l:List zax) (rows size:Int),rows<=65536->((zer t nu l rows size).2=true↔zdn t nu l rows)/\(zdn t nu l rows->(zer t nu l rows size).1=size+zbv l)
 | [],rows,size,_=>by
   simp[zer,zdn,zjd,zbv];omega
 |p::l,rows,size,hr=>by
  unfold zer;by_cases hp:zex t nu p rows=true
  ·rw[if_pos hp]
   have h1:=(pageB_most.1 hp).1;have ih:=zrd (t:=t) (nu:=nu) l (rows-p.2.1) (size+p.1) (by omega);have hiff:zdn t nu (p::l) rows↔zdn t nu l (rows-p.2.1):=by
    unfold zdn;rw[zey];constructor
    ·rintro⟨a,b⟩
     exact⟨fun q hq=>a q (by simp[hq]),by omega⟩
    ·rintro⟨a,b⟩
     refine⟨fun q hq=>?_,by omega⟩;rcases List.mem_cons.1 hq with rfl|hq
     ·exact zrc hp (by omega)
     ·exact a q hq
   refine⟨ih.1.trans hiff.symm,fun hc=>?_⟩;rw[ih.2 (hiff.1 hc),zf8];omega
  ·rw[if_neg hp]
   have hno: ¬zdn t nu (p::l) rows:=by
    rintro⟨a,b⟩;have h1:=a p (by simp);have h2:=zeo (l:=l) fun q hq=>a q (by simp[hq])
    rw[zey] at b;exact hp (zrc h1 (by omega))
   exact⟨⟨fun h=>by simp at h,fun h=>absurd h hno⟩,fun h=>absurd h hno⟩
def zch(g:za5):Int:=(g.2.map zbv).sum
def GroupOk(cols:List za1)(g:za5):Prop:=
 1<=g.1/\g.2.length=cols.length/\ ∀i,i<cols.length->zdn (cols.getD i ([],0,false)).2.1 (cols.getD i ([],0,false)).2.2 (g.2.getD i []) g.1
def zbj(F:FootS):Prop:=
 zos F.cols/\(∀g∈F.groups,GroupOk F.cols g)/\(F.groups.map (·.1)).sum=F.rows/\F.rows<=65536/\(F.groups.map zch).sum<=1073741824
def zfl(t:Int)(p:zax):List Nat:=vp p.1.toNat++vp p.2.1.toNat++Go.Hm.putS [] t p.2.2
def zgn(t:Int)(l:List zax):List Nat:=vp l.length++l.flatMap (zfl t)
def zb6:List za1->List (List zax)->List Nat
 |c::cs,l::ls=>zgn c.2.1 l++zb6 cs ls
 |_,_=>[]
def zc8(cols:List za1)(g:za5):List Nat:=vp g.1.toNat++zb6 cols g.2
def zei(F:FootS):List Nat:=putC [] F.cols++vp F.rows.toNat++vp F.groups.length++F.groups.flatMap (zc8 F.cols)
open Go Go.RowKit Go.Maps
section
variable{P:Program}{k e:TypeId}{F:Nat->Value}
open Classical in
noncomputable def qhl(F:Nat->Value)(v:Value):Option (DWn × List MemPlace):=if h:∃m,v=F m then some (zw2 (Classical.choose h),[]) else none
theorem qf2(F:Nat->Value)(m:Nat):∃q,qhl F (F m)=some (zw2 q,[])/\F q=F m:=by have h:∃q,F m=F q:=⟨m,rfl⟩;refine⟨Classical.choose h,?_,(Classical.choose_spec h).symm⟩;unfold qhl;rw[dif_pos h]
theorem qca{v:Value}{z:DWn × List MemPlace}(h:qhl F v=some z):∃q,v=F q/\z=(zw2 q,[]):=by
 unfold qhl at h;split at h
 ·rename_i hx
  injection h with h;exact⟨_,Classical.choose_spec hx,h.symm⟩
 ·cases h
theorem qcb{p q:Nat}(h:zw2 p=zw2 q):p=q:=by simp only[zw2,DataW.lit.injEq,Lit.int.injEq,true_and] at h;omega
def MapF_mapf(P:Program)(k:TypeId)(F:Nat->Value)(w:World)(b n:Nat)(f:Int->Option Nat):Prop:=
 ∃D:DWn,w.ownsMap P k (qhl F) b n D/\IsMap D/\ ∀x m kl,f x=some m->keyOf P k (.int .i64 x)=some kl-> ∃q,F q=F m/\ ∀zd,D.atKey kl zd=zw2 q
theorem MapF_mapf.made(w:World):MapF_mapf P k F (w.alloc (.map #[] 0)) w.heap.size 0 fun _=>none:=
 ⟨.map [],World.ownsMap_made _ _ _ _,isMap_empty,fun _ _ _ h _=>by cases h⟩
variable{w:World}{b n:Nat}{f:Int->Option Nat}
theorem MapF_mapf.kept{w':World}{row:Option Nat}(h:MapF_mapf P k F w b n f)(hg:w.grownBy w' row)(hne:some b≠row):MapF_mapf P k F w' b n f:=by obtain⟨D,h1,h2,h3⟩:=h;exact⟨D,h1.kept hg hne,h2,h3⟩
theorem MapF_mapf.lt(h:MapF_mapf P k F w b n f):b<w.heap.size:=by obtain⟨D,h1,_⟩:=h;exact h1.lt
theorem MapF_mapf.look{t:TypeId}(h:MapF_mapf P k F w b n f)(K:Keyed P k)(ht:P.underlying t=some (.map k e)){z:Value}(hz:(zeroValue e).run P w= .ok z w){x:Int}{m:Nat}(hf:f x=some m)(hkey:∃kl,keyOf P k (.int .i64 x)=some kl):
 (Instr.lookup t (.map (some b)) (.int .i64 x) false).run P w= .ok (F m) w:=by
 obtain⟨D,⟨es,clock,hb,Ft,_,rfl⟩,h2,h3⟩:=h;obtain⟨kl,hkey⟩:=hkey;obtain⟨q,hq,h4⟩:=h3 x m kl hf hkey;rcases fit_look false K ht hz hb Ft hkey with⟨hrun,_,hat⟩|⟨e0,y,_,_,hrun,hRv,hat,_⟩
 ·have h5:=(hat .nil).symm.trans (h4 .nil)
  cases h5
 ·obtain⟨p,hp,rfl⟩:=qca hRv
  have h5:zw2 p=zw2 q:=(hat .nil).symm.trans (h4 .nil);rw[qcb h5] at hp;rw[hp,hq] at hrun;exact hrun
theorem MapF_mapf.put{t:TypeId}(h:MapF_mapf P k F w b n f)(K:Keyed P k)(ht:P.underlying t=some (.map k e))(hn:n<maxLen){x:Int}(hkey:∃kl,keyOf P k (.int .i64 x)=some kl)(m:Nat):
 ∃w',(Instr.mapUpdate t (.map (some b)) (.int .i64 x) (F m)).run P w= .ok () w'/\MapF_mapf P k F w' b (n+1) (fun y=>if y=x then some m else f y)/\w.grownBy w' (some b):=by
 obtain⟨D,h1,h2,h3⟩:=h;obtain⟨kl,hkey⟩:=hkey;obtain⟨q,hq,hqm⟩:=qf2 F m;obtain⟨w',hrun,ho,hg⟩:=h1.update K ht hn hkey hq;refine⟨w',hrun,⟨_,ho,h2.put _ _,fun y m2 km hd hm=>?_⟩,hg⟩;dsimp only at hd;by_cases he:y=x
 ·subst he
  rw[if_pos rfl] at hd;injection hd with hd;subst hd;rw[hm] at hkey;obtain rfl:=Option.some.inj hkey;exact⟨q,hqm,fun zd=>atKey_put_same h2 (K.key hm) _ _⟩
 ·rw[if_neg he] at hd
  obtain⟨q2,e2,e3⟩:=h3 y m2 km hd hm;refine⟨q2,e2,fun zd=>?_⟩;rw[atKey_put_other,e3];intro hk;subst hk;have:=K.inj hm hkey;injection this with _ this;exact he this
theorem zha{ops:Array Oper}{rest:List Oper}{o:Oper}{a:Act}{Q:Exit->Act->World->Prop}(hg:o.guard=none)(m x:Operand)(t:TypeId)(hop:o.op=Op.lookup t m x false)
 (K:Keyed P k)(ht:P.underlying t=some (.map k e)){z:Value}(hz:(zeroValue e).run P w= .ok z w)(hown:MapF_mapf P k F w b n f){y:Int}{q:Nat}(hf:f y=some q)(hkey:∃kl,keyOf P k (.int .i64 y)=some kl)(hm:a.eval m= .map (some b))(hx:a.eval x= .int .i64 y)
 (h:wpList P ops Q rest (a.put o.dst (F q)) w):wpList P ops Q (o::rest) a w:=by
 refine wpList_plain hg fun K' hK'=>?_
 have hrun:=hown.look K ht hz hf hkey;unfold Oper.wp;simp[execOp,hop,hm,hx,hrun,Result.andThen];exact hK' _ _ h
theorem zf9{ops:Array Oper}{rest:List Oper}{o:Oper}{a:Act}{Q:Exit->Act->World->Prop}(hg:o.guard=none)(m x v:Operand)(t:TypeId)(hop:o.op=Op.insert t m x v)
 (K:Keyed P k)(ht:P.underlying t=some (.map k e))(hown:MapF_mapf P k F w b n f)(hn:n<maxLen){y:Int}(hkey:∃kl,keyOf P k (.int .i64 y)=some kl)(q:Nat)
 (hm:a.eval m= .map (some b))(hx:a.eval x= .int .i64 y)(hv:a.eval v=F q)
 (h:∀w',MapF_mapf P k F w' b (n+1) (fun z=>if z=y then some q else f z)->w.grownBy w' (some b)->wpList P ops Q rest (a.put o.dst undef) w'):wpList P ops Q (o::rest) a w:=by
 refine wpList_plain hg fun K' hK'=>?_
 obtain⟨w',hrun,r1,r2⟩:=hown.put K ht hn hkey q;unfold Oper.wp;simp[execOp,hop,hm,hx,hv,hrun,Result.andThen];exact hK' _ _ (h w' r1 r2)
end
end Go.Hm
