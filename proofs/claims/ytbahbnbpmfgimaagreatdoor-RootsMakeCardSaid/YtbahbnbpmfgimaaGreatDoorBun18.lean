import Derived.Test.YtbahbnbpmfgimaaGreatDoorBun8
set_option maxHeartbeats 4000000
set_option maxRecDepth 100000
namespace Go.Hm
open Go Go.RowKit
def near(c:zab):Prop:=(-1048576<=c.2.2.2.1/\c.2.2.2.1<=1048576)/\ -1048576<=c.2.2.2.2/\c.2.2.2.2<=1048576
theorem qi8:near zbf:=by unfold near zbf;decide
theorem qdb{a b:zab}(h:near a)(k:near b):qhe a.2.2.2.1 a.2.2.2.2 b.2.2.2.1 b.2.2.2.2:=by unfold near at h k;unfold qhe;omega
end Go.Hm
namespace Go.Proofs.Y
open Go.RowKit Go.Hm
theorem zfu{w:World}{t:Int}{a b:zab}(ha:near a)(hb:near b):Calls Tryz.prog 144 #[.int .i64 t,zdb a,zdb b] w (zak (.int .i64 (zjy t a b)) w):=zvr (qdb ha hb)
theorem z77{w:World}{t:Int}{a b:zdl}(ha1:near a.2.2.1)(ha2:near a.2.2.2)(hb1:near b.2.2.1)(hb2:near b.2.2.2)(hn:0<=a.1/\a.1<=1000000)(hm:0<=b.1/\b.1<=1000000):
 Calls Tryz.prog 129 #[.int .i64 t,zcp a,zcp b] w (zak (zcp (zne t a b)) w):=by
 have C1:=qrf (fun(W:World)=>zfu (w:=W) (t:=t) hb1 ha1);have C2:=qrf (fun(W:World)=>zfu (w:=W) (t:=t) hb2 ha2);have D1:=qrf (fun(W:World)=>zfu (w:=W) (t:=t) hb1 hb1);have D2:=qrf (fun(W:World)=>zfu (w:=W) (t:=t) hb2 hb2);rw[zvs] at D1 D2;obtain⟨n,ah,p,q⟩:=a;obtain⟨m,bh,r,s⟩:=b;dsimp only at*;obtain⟨M,hM⟩:∃M,M=zne t (n,ah,p,q) (m,bh,r,s):=⟨_,rfl⟩;rw[<-hM];unfold zne at hM;dsimp only at hM;generalize zjy t r p=o1 at*;generalize zjy t s q=o2 at*;obtain⟨p1,p2,p3,p4,p5⟩:=p;obtain⟨q1,q2,q3,q4,q5⟩:=q;obtain⟨r1,r2,r3,r4,r5⟩:=r;obtain⟨s1,s2,s3,s4,s5⟩:=s;unfold zdb za4 at C1 C2 D1 D2;dsimp only at C1 C2 D1 D2;show Calls Tryz.prog 129 #[.int .i64 t,.agg #[.int .i64 n,.bool ah,.bool p1,.int .i64 p2,.string (zai p3),.int .i64 p4,.int .i64 p5,.bool q1,.int .i64 q2,.string (zai q3),.int .i64 q4,.int .i64 q5],
  .agg #[.int .i64 m,.bool bh,.bool r1,.int .i64 r2,.string (zai r3),.int .i64 r4,.int .i64 r5,.bool s1,.int .i64 s2,.string (zai s3),.int .i64 s4,.int .i64 s5]] w (zak (zcp M) w)
 have B0:=qrv w 133 #[.int .i64 n,.bool ah,.bool p1,.int .i64 p2,.string (zai p3),.int .i64 p4,.int .i64 p5,.bool q1,.int .i64 q2,.string (zai q3),.int .i64 q4,.int .i64 q5];have B1:=qrv (w.alloc (.cells #[.int .i64 n,.bool ah,.bool p1,.int .i64 p2,.string (zai p3),.int .i64 p4,.int .i64 p5,.bool q1,.int .i64 q2,.string (zai q3),.int .i64 q4,.int .i64 q5] 133)) 133 #[.int .i64 m,.bool bh,.bool r1,.int .i64 r2,.string (zai r3),.int .i64 r4,.int .i64 r5,.bool s1,.int .i64 s2,.string (zai s3),.int .i64 s4,.int .i64 s5];have hnm:IntKind.i64.wrap (n+m)=n+m:=qre _ (by omega);have HM:=qrf hM;clear hM ha1 ha2 hb1 hb2;have BO:=fun(cs:Array Value)=>qrv (((w.alloc (.cells #[.int .i64 n,.bool ah,.bool p1,.int .i64 p2,.string (zai p3),.int .i64 p4,.int .i64 p5,.bool q1,.int .i64 q2,.string (zai q3),.int .i64 q4,.int .i64 q5] 133)).alloc (.cells #[.int .i64 m,.bool bh,.bool r1,.int .i64 r2,.string (zai r3),.int .i64 r4,.int .i64 r5,.bool s1,.int .i64 s2,.string (zai s3),.int .i64 s4,.int .i64 s5] 133)).alloc (.cells #[.int .i64 0,.bool false,.bool false,.int .i64 0,.string ⟨#[]⟩,.int .i64 0,.int .i64 0,.bool false,.int .i64 0,.string ⟨#[]⟩,.int .i64 0,.int .i64 0] 133)) 133 cs
 obtain⟨Z,hZ⟩:∃Z:Obj,Z= .cells #[.int .i64 0,.bool false,.bool false,.int .i64 0,.string ⟨#[]⟩,.int .i64 0,.int .i64 0,.bool false,.int .i64 0,.string ⟨#[]⟩,.int .i64 0,.int .i64 0] 133:=⟨_,rfl⟩;obtain⟨x0,x1,x2,x3,x4,x5,x6,x7,x8,x9,x10,x11⟩:=zbh ((B0.alloc (.cells #[.int .i64 m,.bool bh,.bool r1,.int .i64 r2,.string (zai r3),.int .i64 r4,.int .i64 r5,.bool s1,.int .i64 s2,.string (zai s3),.int .i64 s4,.int .i64 s5] 133)).alloc Z);obtain⟨y0,y1,y2,y3,y4,y5,y6,y7,y8,y9,y10,y11⟩:=zbh (B1.alloc Z);have HB0:=qrf ((B0.alloc (.cells #[.int .i64 m,.bool bh,.bool r1,.int .i64 r2,.string (zai r3),.int .i64 r4,.int .i64 r5,.bool s1,.int .i64 s2,.string (zai s3),.int .i64 s4,.int .i64 s5] 133)).alloc Z);have HB1:=qrf (B1.alloc Z);subst hZ;simp only[qrq] at y0 y1 y2 y3 y4 y5 y6 y7 y8 y9 y10 y11;clear B0 B1;have hNN4:Hid (∀(o1 o2 o3 o4:Obj) (W:World),New ((((w.alloc o1).alloc o2).alloc o3).alloc o4) W->New w W):=qrf fun o1 o2 o3 o4 W h=>qr0 (qr0 (zx4 w o1 o2) (zx4 _ o3 o4)) h
 cases ah with
 |true=>
  cases bh with
  |true=>
   have hM:=HM.out;clear HM;rw[if_pos rfl] at hM;simp only[qpk,decide_eq_true_eq] at hM;have HM:=qrf hM;clear hM;go_enter Tryz.func129,Tryz.ntmps129
   go_wp2_with fail
   refine(C1.out _).mono ?_;rintro e w1 ⟨rfl,b1⟩;have B0:=(HB0.out.alloc (.cells #[.int .i64 (n+m),.bool true,.bool p1,.int .i64 p2,.string (zai p3),.int .i64 p4,.int .i64 p5,.bool q1,.int .i64 q2,.string (zai q3),.int .i64 q4,.int .i64 q5] 133)).below b1 (by simp;omega);have B1:=(HB1.out.alloc (.cells #[.int .i64 (n+m),.bool true,.bool p1,.int .i64 p2,.string (zai p3),.int .i64 p4,.int .i64 p5,.bool q1,.int .i64 q2,.string (zai q3),.int .i64 q4,.int .i64 q5] 133)).below b1 (by simp);have B2:=(BO #[.int .i64 (n+m),.bool true,.bool p1,.int .i64 p2,.string (zai p3),.int .i64 p4,.int .i64 p5,.bool q1,.int .i64 q2,.string (zai q3),.int .i64 q4,.int .i64 q5]).below b1 (by simp);have BZ:=((qrv _ _ _).alloc _).below b1 (by simp);have hl:=hNN4.out _ _ _ _ _ b1;clear x0 x1 x2 x3 x4 x5 x6 x7 x8 x9 x10 x11 y0 y1 y2 y3 y4 y5 y6 y7 y8 y9 y10 y11 BO HB0 HB1 b1;simp only[qrq] at B0 B1 B2 BZ;obtain⟨x0,x1,x2,x3,x4,x5,x6,x7,x8,x9,x10,x11⟩:=zbh B0;obtain⟨y0,y1,y2,y3,y4,y5,y6,y7,y8,y9,y10,y11⟩:=zbh B1;by_cases h1:o1<0;all_goals
    have H1:=qrf h1
    go_wp2_with (refine zlc rfl 75 (.tmp 42) (.tmp 41) rfl (w.heap.size+1+1+1) 2 rfl rfl B2 (by simp) (by kernel_rfl) (by simp[Value.oneCell']) ?_
                 intro W2 B2 hlow hfar;replace B0:=hfar _ _ _ (by omega) B0;replace B1:=hfar _ _ _ (by omega) B1;replace BZ:=hfar _ _ _ (by omega) BZ;replace hl:=hlow _ _ hl (by omega);clear x0 x1 x2 x3 x4 x5 x6 x7 x8 x9 x10 x11 y0 y1 y2 y3 y4 y5 y6 y7 y8 y9 y10 y11;obtain⟨x0,x1,x2,x3,x4,x5,x6,x7,x8,x9,x10,x11⟩:=zbh B0;obtain⟨y0,y1,y2,y3,y4,y5,y6,y7,y8,y9,y10,y11⟩:=zbh B1;simp only[qoi,qn8,qoj] at B2)
   all_goals
    refine(C2.out _).mono ?_;rintro e w3 ⟨rfl,b3⟩;replace B0:=B0.below b3 B0.lt;replace B1:=B1.below b3 B1.lt;replace B2:=B2.below b3 B2.lt;replace BZ:=BZ.below b3 BZ.lt;replace hl:=qr0 hl b3;clear b3 x0 x1 x2 x3 x4 x5 x6 x7 x8 x9 x10 x11 y0 y1 y2 y3 y4 y5 y6 y7 y8 y9 y10 y11;obtain⟨x0,x1,x2,x3,x4,x5,x6,x7,x8,x9,x10,x11⟩:=zbh B0;obtain⟨y0,y1,y2,y3,y4,y5,y6,y7,y8,y9,y10,y11⟩:=zbh B1;obtain⟨z0,z1,z2,z3,z4,z5,z6,z7,z8,z9,z10,z11⟩:=zbh B2;by_cases h2:0<o2
   all_goals
    have H2:=qrf h2;go_wp2_with (first
     |(refine zlc rfl 75 (.tmp 56) (.tmp 55) rfl (w.heap.size+1+1+1) 7 rfl rfl B2 (by simp) (by kernel_rfl) (by simp[Value.oneCell']) ?_
       intro W4 B2 hlow hfar;replace BZ:=hfar _ _ _ (by omega) BZ;replace hl:=hlow _ _ hl (by omega);clear x0 x1 x2 x3 x4 x5 x6 x7 x8 x9 x10 x11 y0 y1 y2 y3 y4 y5 y6 y7 y8 y9 y10 y11 z0 z1 z2 z3 z4 z5 z6 z7 z8 z9 z10 z11 hfar hlow;simp only[qoi,qn8,qoj] at B2;obtain⟨z0,z1,z2,z3,z4,z5,z6,z7,z8,z9,z10,z11⟩:=zbh B2)
     |(refine zh5 rfl 133 (.tmp 6) (.tmp 57) rfl (w.heap.size+1+1) _ rfl rfl BZ (by kernel_rfl) (by simp) (by simp[Value.oneCell']) ?_
       intro W5 BR hlow hfar;replace hl:=hlow _ _ hl (by omega);clear hfar hlow;obtain⟨s0,s1,s2,s3,s4,s5,s6,s7,s8,s9,s10,s11⟩:=zbh BR))
    have hM:=HM.out;first
     |rw[if_pos H1.out] at hM
     |rw[if_neg (show¬o1<0 by have:=H1.out;omega)] at hM
    first
     |rw[if_pos H2.out] at hM
     |rw[if_neg (show¬0<o2 by have:=H2.out;omega)] at hM
    subst hM;exact bodyPost_ret (v:=zcp _) (by simp[results,Tryz.results129,go_sem,s0,s1,s2,s3,s4,s5,s6,s7,s8,s9,s10,s11,zcp,zcj,za4]) rfl ⟨rfl,hl⟩
  |false=>
   have hM:=HM.out;simp only[if_pos,Bool.false_and,qqs,if_false] at hM;go_enter Tryz.func129,Tryz.ntmps129
   go_wp2_with fail
   subst hM;exact bodyPost_ret (v:=zcp (n+m,true,(p1,p2,p3,p4,p5),(q1,q2,q3,q4,q5))) (by simp[results,Tryz.results129,go_sem,zcp,zcj,za4]) rfl ⟨rfl,qr0 (zx4 w _ _) (zx4 _ _ _)⟩
 |false=>
  cases bh with
  |true=>
   have hM:=HM.out;clear HM;rw[if_neg (by simp),if_pos rfl] at hM;have HM:=qrf hM;clear hM;go_enter Tryz.func129,Tryz.ntmps129
   go_wp2_with fail
   refine(D1.out _).mono ?_;rintro e w1 ⟨rfl,b1⟩;have B1:Blk w1 (w.heap.size+1) 133 #[.int .i64 m,.bool true,.bool r1,.int .i64 r2,.string (zai r3),.int .i64 r4,.int .i64 r5,.bool s1,.int .i64 s2,.string (zai s3),.int .i64 s4,.int .i64 s5]:=by have:=(((qrv _ _ _).alloc _).alloc _).below b1 (by simp);simpa using this
   have B0:Blk w1 w.heap.size 133 #[.int .i64 m,.bool true,.bool r1,.int .i64 r2,.string (zai r3),.int .i64 r4,.int .i64 r5,.bool s1,.int .i64 s2,.string (zai s3),.int .i64 s4,.int .i64 s5]:=by have:=((((qrv _ _ _).alloc _).alloc _).alloc _).below b1 (by simp;omega);simpa using this
   have B2:Blk w1 (w.heap.size+1+1+1) 133 #[.int .i64 (n+m),.bool true,.bool r1,.int .i64 r2,.string (zai r3),.int .i64 r4,.int .i64 r5,.bool s1,.int .i64 s2,.string (zai s3),.int .i64 s4,.int .i64 s5]:=by have:=(qrv _ _ _).below b1 (by simp);simpa using this
   have BZ:=((qrv _ _ _).alloc _).below b1 (by simp);have hl:=hNN4.out _ _ _ _ _ b1;clear x0 x1 x2 x3 x4 x5 x6 x7 x8 x9 x10 x11 y0 y1 y2 y3 y4 y5 y6 y7 y8 y9 y10 y11 BO HB0 HB1 b1;simp only[qrq] at BZ;obtain⟨x0,x1,x2,x3,x4,x5,x6,x7,x8,x9,x10,x11⟩:=zbh B0;obtain⟨y0,y1,y2,y3,y4,y5,y6,y7,y8,y9,y10,y11⟩:=zbh B1;go_wp2_with fail
   refine(D2.out _).mono ?_;rintro e w3 ⟨rfl,b3⟩;replace B2:=B2.below b3 B2.lt;replace BZ:=BZ.below b3 BZ.lt;replace hl:=qr0 hl b3;clear b3 x0 x1 x2 x3 x4 x5 x6 x7 x8 x9 x10 x11 y0 y1 y2 y3 y4 y5 y6 y7 y8 y9 y10 y11 B0 B1;obtain⟨z0,z1,z2,z3,z4,z5,z6,z7,z8,z9,z10,z11⟩:=zbh B2
   go_wp2_with (refine zh5 rfl 133 (.tmp 6) (.tmp 57) rfl (w.heap.size+1+1) _ rfl rfl BZ (by kernel_rfl) (by simp) (by simp[Value.oneCell']) ?_
                intro W5 BR hlow hfar;replace hl:=hlow _ _ hl (by omega);clear hfar hlow;obtain⟨s0,s1,s2,s3,s4,s5,s6,s7,s8,s9,s10,s11⟩:=zbh BR)
   have hM:=HM.out;subst hM;exact bodyPost_ret (v:=zcp _) (by simp[results,Tryz.results129,go_sem,s0,s1,s2,s3,s4,s5,s6,s7,s8,s9,s10,s11,zcp,zcj,za4]) rfl ⟨rfl,hl⟩
  |false=>
   have hM:=HM.out;rw[if_neg (by simp),if_neg (by simp)] at hM;go_enter Tryz.func129,Tryz.ntmps129
   go_wp2_with fail
   rw[hM];exact bodyPost_ret (v:=zcp (n+m,false,zbf,zbf)) (by simp[results,Tryz.results129,go_sem,zcp,zcj,za4,zbf,show zai []=⟨#[]⟩ from rfl]) rfl ⟨rfl,New.alloc _ (zx4 _ _ _)⟩
end Go.Proofs.Y
