/- Merged. -/
import Derived.Test.YtbahbnbpmfgimaaGreatDoorBun8
set_option maxHeartbeats 4000000
namespace Go.Hm
open Go Go.RowKit
def near(c:zab):Prop:=(-1048576<=c.2.2.2.1/\c.2.2.2.1<=1048576)/\ -1048576<=c.2.2.2.2/\c.2.2.2.2<=1048576
theorem qj1:near za8:=by unfold near za8;decide
theorem qdv{a b:zab}(h:near a)(k:near b):qh0 a.2.2.2.1 a.2.2.2.2 b.2.2.2.1 b.2.2.2.2:=by unfold near at h k;unfold qh0;omega
end Go.Hm
namespace Go.Proofs.Y
open Go.RowKit Go.Hm
theorem zff{w:World}{t:Int}{a b:zab}(ha:near a)(hb:near b):Calls Tryz.prog 144 #[.int .i64 t,zc2 a,zc2 b] w (zal (.int .i64 (zjs t a b)) w):=zvm (qdv ha hb)
set_option maxRecDepth 100000 in
theorem z8c{w:World}{t:Int}{a b:zdc}(ha1:near a.2.2.1)(ha2:near a.2.2.2)(hb1:near b.2.2.1)(hb2:near b.2.2.2)(hn:0<=a.1/\a.1<=1000000)(hm:0<=b.1/\b.1<=1000000):
 Calls Tryz.prog 129 #[.int .i64 t,zcg a,zcg b] w (zal (zcg (zm1 t a b)) w):=by
 have C1:=Hz (fun(W:World)=>zff (w:=W) (t:=t) hb1 ha1);have C2:=Hz (fun(W:World)=>zff (w:=W) (t:=t) hb2 ha2);have D1:=Hz (fun(W:World)=>zff (w:=W) (t:=t) hb1 hb1);have D2:=Hz (fun(W:World)=>zff (w:=W) (t:=t) hb2 hb2);rw[zvn] at D1 D2;obtain⟨n,ah,p,q⟩:=a;obtain⟨m,bh,r,s⟩:=b;dsimp only at*;obtain⟨M,hM⟩:∃M,M=zm1 t (n,ah,p,q) (m,bh,r,s):=⟨_,rfl⟩;rw[<-hM];unfold zm1 at hM;dsimp only at hM;generalize zjs t r p=o1 at*;generalize zjs t s q=o2 at*;obtain⟨p1,p2,p3,p4,p5⟩:=p;obtain⟨q1,q2,q3,q4,q5⟩:=q;obtain⟨r1,r2,r3,r4,r5⟩:=r;obtain⟨s1,s2,s3,s4,s5⟩:=s;unfold zc2 za0 at C1 C2 D1 D2;dsimp only at C1 C2 D1 D2;show Calls Tryz.prog 129 #[.int .i64 t,.agg #[.int .i64 n,.bool ah,.bool p1,.int .i64 p2,.string (zae p3),.int .i64 p4,.int .i64 p5,.bool q1,.int .i64 q2,.string (zae q3),.int .i64 q4,.int .i64 q5],
  .agg #[.int .i64 m,.bool bh,.bool r1,.int .i64 r2,.string (zae r3),.int .i64 r4,.int .i64 r5,.bool s1,.int .i64 s2,.string (zae s3),.int .i64 s4,.int .i64 s5]] w (zal (zcg M) w)
 have B0:=Blk.new w 133 #[.int .i64 n,.bool ah,.bool p1,.int .i64 p2,.string (zae p3),.int .i64 p4,.int .i64 p5,.bool q1,.int .i64 q2,.string (zae q3),.int .i64 q4,.int .i64 q5];have B1:=Blk.new (w.alloc (.cells #[.int .i64 n,.bool ah,.bool p1,.int .i64 p2,.string (zae p3),.int .i64 p4,.int .i64 p5,.bool q1,.int .i64 q2,.string (zae q3),.int .i64 q4,.int .i64 q5] 133)) 133 #[.int .i64 m,.bool bh,.bool r1,.int .i64 r2,.string (zae r3),.int .i64 r4,.int .i64 r5,.bool s1,.int .i64 s2,.string (zae s3),.int .i64 s4,.int .i64 s5];have hnm:IntKind.i64.wrap (n+m)=n+m:=IntWalk.i64_in _ (by omega);have HM:=Hz hM;clear hM ha1 ha2 hb1 hb2;have BO:=fun(cs:Array Value)=>Blk.new (((w.alloc (.cells #[.int .i64 n,.bool ah,.bool p1,.int .i64 p2,.string (zae p3),.int .i64 p4,.int .i64 p5,.bool q1,.int .i64 q2,.string (zae q3),.int .i64 q4,.int .i64 q5] 133)).alloc (.cells #[.int .i64 m,.bool bh,.bool r1,.int .i64 r2,.string (zae r3),.int .i64 r4,.int .i64 r5,.bool s1,.int .i64 s2,.string (zae s3),.int .i64 s4,.int .i64 s5] 133)).alloc (.cells #[.int .i64 0,.bool false,.bool false,.int .i64 0,.string ⟨#[]⟩,.int .i64 0,.int .i64 0,.bool false,.int .i64 0,.string ⟨#[]⟩,.int .i64 0,.int .i64 0] 133)) 133 cs
 obtain⟨Z,hZ⟩:∃Z:Obj,Z= .cells #[.int .i64 0,.bool false,.bool false,.int .i64 0,.string ⟨#[]⟩,.int .i64 0,.int .i64 0,.bool false,.int .i64 0,.string ⟨#[]⟩,.int .i64 0,.int .i64 0] 133:=⟨_,rfl⟩;obtain⟨x0,x1,x2,x3,x4,x5,x6,x7,x8,x9,x10,x11⟩:=za9 ((B0.alloc (.cells #[.int .i64 m,.bool bh,.bool r1,.int .i64 r2,.string (zae r3),.int .i64 r4,.int .i64 r5,.bool s1,.int .i64 s2,.string (zae s3),.int .i64 s4,.int .i64 s5] 133)).alloc Z);obtain⟨y0,y1,y2,y3,y4,y5,y6,y7,y8,y9,y10,y11⟩:=za9 (B1.alloc Z);have HB0:=Hz ((B0.alloc (.cells #[.int .i64 m,.bool bh,.bool r1,.int .i64 r2,.string (zae r3),.int .i64 r4,.int .i64 r5,.bool s1,.int .i64 s2,.string (zae s3),.int .i64 s4,.int .i64 s5] 133)).alloc Z);have HB1:=Hz (B1.alloc Z);subst hZ;simp only[World.size_alloc] at y0 y1 y2 y3 y4 y5 y6 y7 y8 y9 y10 y11;clear B0 B1;have hNN4:Hid (∀(o1 o2 o3 o4:Obj) (W:World),New ((((w.alloc o1).alloc o2).alloc o3).alloc o4) W->New w W):=Hz fun o1 o2 o3 o4 W h=>New.trans (New.trans (zye w o1 o2) (zye _ o3 o4)) h
 cases ah with
 |true=>
  cases bh with
  |true=>
   have hM:=HM.out;clear HM;rw[if_pos rfl] at hM;simp only[qp7,decide_eq_true_eq] at hM;have HM:=Hz hM;clear hM;go_enter Tryz.func129,Tryz.ntmps129
   go_wp2_with fail
   refine(C1.out _).mono ?_;rintro e w1 ⟨rfl,b1⟩;have B0:=(HB0.out.alloc (.cells #[.int .i64 (n+m),.bool true,.bool p1,.int .i64 p2,.string (zae p3),.int .i64 p4,.int .i64 p5,.bool q1,.int .i64 q2,.string (zae q3),.int .i64 q4,.int .i64 q5] 133)).below b1 (by simp;omega);have B1:=(HB1.out.alloc (.cells #[.int .i64 (n+m),.bool true,.bool p1,.int .i64 p2,.string (zae p3),.int .i64 p4,.int .i64 p5,.bool q1,.int .i64 q2,.string (zae q3),.int .i64 q4,.int .i64 q5] 133)).below b1 (by simp);have B2:=(BO #[.int .i64 (n+m),.bool true,.bool p1,.int .i64 p2,.string (zae p3),.int .i64 p4,.int .i64 p5,.bool q1,.int .i64 q2,.string (zae q3),.int .i64 q4,.int .i64 q5]).below b1 (by simp);have BZ:=((Blk.new _ _ _).alloc _).below b1 (by simp);have hl:=hNN4.out _ _ _ _ _ b1;clear x0 x1 x2 x3 x4 x5 x6 x7 x8 x9 x10 x11 y0 y1 y2 y3 y4 y5 y6 y7 y8 y9 y10 y11 BO HB0 HB1 b1;simp only[World.size_alloc] at B0 B1 B2 BZ;obtain⟨x0,x1,x2,x3,x4,x5,x6,x7,x8,x9,x10,x11⟩:=za9 B0;obtain⟨y0,y1,y2,y3,y4,y5,y6,y7,y8,y9,y10,y11⟩:=za9 B1;by_cases h1:o1<0;all_goals
    have H1:=Hz h1
    go_wp2_with (refine zk7 rfl 75 (.tmp 42) (.tmp 41) rfl (w.heap.size+1+1+1) 2 rfl rfl B2 (by simp) (by kernel_rfl) (by simp[Value.oneCell']) ?_
                 intro W2 B2 hlow hfar;replace B0:=hfar _ _ _ (by omega) B0;replace B1:=hfar _ _ _ (by omega) B1;replace BZ:=hfar _ _ _ (by omega) BZ;replace hl:=hlow _ _ hl (by omega);clear x0 x1 x2 x3 x4 x5 x6 x7 x8 x9 x10 x11 y0 y1 y2 y3 y4 y5 y6 y7 y8 y9 y10 y11;obtain⟨x0,x1,x2,x3,x4,x5,x6,x7,x8,x9,x10,x11⟩:=za9 B0;obtain⟨y0,y1,y2,y3,y4,y5,y6,y7,y8,y9,y10,y11⟩:=za9 B1;simp only[qo6,qou,qo7] at B2)
   all_goals
    refine(C2.out _).mono ?_;rintro e w3 ⟨rfl,b3⟩;replace B0:=B0.below b3 B0.lt;replace B1:=B1.below b3 B1.lt;replace B2:=B2.below b3 B2.lt;replace BZ:=BZ.below b3 BZ.lt;replace hl:=New.trans hl b3;clear b3 x0 x1 x2 x3 x4 x5 x6 x7 x8 x9 x10 x11 y0 y1 y2 y3 y4 y5 y6 y7 y8 y9 y10 y11;obtain⟨x0,x1,x2,x3,x4,x5,x6,x7,x8,x9,x10,x11⟩:=za9 B0;obtain⟨y0,y1,y2,y3,y4,y5,y6,y7,y8,y9,y10,y11⟩:=za9 B1;obtain⟨z0,z1,z2,z3,z4,z5,z6,z7,z8,z9,z10,z11⟩:=za9 B2;by_cases h2:0<o2
   all_goals
    have H2:=Hz h2;go_wp2_with (first
     |(refine zk7 rfl 75 (.tmp 56) (.tmp 55) rfl (w.heap.size+1+1+1) 7 rfl rfl B2 (by simp) (by kernel_rfl) (by simp[Value.oneCell']) ?_
       intro W4 B2 hlow hfar;replace BZ:=hfar _ _ _ (by omega) BZ;replace hl:=hlow _ _ hl (by omega);clear x0 x1 x2 x3 x4 x5 x6 x7 x8 x9 x10 x11 y0 y1 y2 y3 y4 y5 y6 y7 y8 y9 y10 y11 z0 z1 z2 z3 z4 z5 z6 z7 z8 z9 z10 z11 hfar hlow;simp only[qo6,qou,qo7] at B2;obtain⟨z0,z1,z2,z3,z4,z5,z6,z7,z8,z9,z10,z11⟩:=za9 B2)
     |(refine zhw rfl 133 (.tmp 6) (.tmp 57) rfl (w.heap.size+1+1) _ rfl rfl BZ (by kernel_rfl) (by simp) (by simp[Value.oneCell']) ?_
       intro W5 BR hlow hfar;replace hl:=hlow _ _ hl (by omega);clear hfar hlow;obtain⟨s0,s1,s2,s3,s4,s5,s6,s7,s8,s9,s10,s11⟩:=za9 BR))
    have hM:=HM.out;first
     |rw[if_pos H1.out] at hM
     |rw[if_neg (show¬o1<0 by have:=H1.out;omega)] at hM
    first
     |rw[if_pos H2.out] at hM
     |rw[if_neg (show¬0<o2 by have:=H2.out;omega)] at hM
    subst hM;exact bodyPost_ret (v:=zcg _) (by simp[results,Tryz.results129,go_sem,s0,s1,s2,s3,s4,s5,s6,s7,s8,s9,s10,s11,zcg,zcb,za0]) rfl ⟨rfl,hl⟩
  |false=>
   have hM:=HM.out;simp only[if_pos,Bool.false_and,qrc,if_false] at hM;go_enter Tryz.func129,Tryz.ntmps129
   go_wp2_with fail
   subst hM;exact bodyPost_ret (v:=zcg (n+m,true,(p1,p2,p3,p4,p5),(q1,q2,q3,q4,q5))) (by simp[results,Tryz.results129,go_sem,zcg,zcb,za0]) rfl ⟨rfl,New.trans (zye w _ _) (zye _ _ _)⟩
 |false=>
  cases bh with
  |true=>
   have hM:=HM.out;clear HM;rw[if_neg (by simp),if_pos rfl] at hM;have HM:=Hz hM;clear hM;go_enter Tryz.func129,Tryz.ntmps129
   go_wp2_with fail
   refine(D1.out _).mono ?_;rintro e w1 ⟨rfl,b1⟩;have B1:Blk w1 (w.heap.size+1) 133 #[.int .i64 m,.bool true,.bool r1,.int .i64 r2,.string (zae r3),.int .i64 r4,.int .i64 r5,.bool s1,.int .i64 s2,.string (zae s3),.int .i64 s4,.int .i64 s5]:=by have:=(((Blk.new _ _ _).alloc _).alloc _).below b1 (by simp);simpa using this
   have B0:Blk w1 w.heap.size 133 #[.int .i64 m,.bool true,.bool r1,.int .i64 r2,.string (zae r3),.int .i64 r4,.int .i64 r5,.bool s1,.int .i64 s2,.string (zae s3),.int .i64 s4,.int .i64 s5]:=by have:=((((Blk.new _ _ _).alloc _).alloc _).alloc _).below b1 (by simp;omega);simpa using this
   have B2:Blk w1 (w.heap.size+1+1+1) 133 #[.int .i64 (n+m),.bool true,.bool r1,.int .i64 r2,.string (zae r3),.int .i64 r4,.int .i64 r5,.bool s1,.int .i64 s2,.string (zae s3),.int .i64 s4,.int .i64 s5]:=by have:=(Blk.new _ _ _).below b1 (by simp);simpa using this
   have BZ:=((Blk.new _ _ _).alloc _).below b1 (by simp);have hl:=hNN4.out _ _ _ _ _ b1;clear x0 x1 x2 x3 x4 x5 x6 x7 x8 x9 x10 x11 y0 y1 y2 y3 y4 y5 y6 y7 y8 y9 y10 y11 BO HB0 HB1 b1;simp only[World.size_alloc] at BZ;obtain⟨x0,x1,x2,x3,x4,x5,x6,x7,x8,x9,x10,x11⟩:=za9 B0;obtain⟨y0,y1,y2,y3,y4,y5,y6,y7,y8,y9,y10,y11⟩:=za9 B1;go_wp2_with fail
   refine(D2.out _).mono ?_;rintro e w3 ⟨rfl,b3⟩;replace B2:=B2.below b3 B2.lt;replace BZ:=BZ.below b3 BZ.lt;replace hl:=New.trans hl b3;clear b3 x0 x1 x2 x3 x4 x5 x6 x7 x8 x9 x10 x11 y0 y1 y2 y3 y4 y5 y6 y7 y8 y9 y10 y11 B0 B1;obtain⟨z0,z1,z2,z3,z4,z5,z6,z7,z8,z9,z10,z11⟩:=za9 B2
   go_wp2_with (refine zhw rfl 133 (.tmp 6) (.tmp 57) rfl (w.heap.size+1+1) _ rfl rfl BZ (by kernel_rfl) (by simp) (by simp[Value.oneCell']) ?_
                intro W5 BR hlow hfar;replace hl:=hlow _ _ hl (by omega);clear hfar hlow;obtain⟨s0,s1,s2,s3,s4,s5,s6,s7,s8,s9,s10,s11⟩:=za9 BR)
   have hM:=HM.out;subst hM;exact bodyPost_ret (v:=zcg _) (by simp[results,Tryz.results129,go_sem,s0,s1,s2,s3,s4,s5,s6,s7,s8,s9,s10,s11,zcg,zcb,za0]) rfl ⟨rfl,hl⟩
  |false=>
   have hM:=HM.out;rw[if_neg (by simp),if_neg (by simp)] at hM;go_enter Tryz.func129,Tryz.ntmps129
   go_wp2_with fail
   rw[hM];exact bodyPost_ret (v:=zcg (n+m,false,za8,za8)) (by simp[results,Tryz.results129,go_sem,zcg,zcb,za0,za8,show zae []=⟨#[]⟩ from rfl]) rfl ⟨rfl,New.alloc _ (zye _ _ _)⟩
end Go.Proofs.Y
