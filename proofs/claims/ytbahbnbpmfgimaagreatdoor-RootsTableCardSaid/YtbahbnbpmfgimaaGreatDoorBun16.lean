import Derived.Test.YtbahbnbpmfgimaaGreatDoorBun14
set_option maxHeartbeats 4000000
set_option maxRecDepth 100000
namespace Go.Hm
open Go Go.RowKit
def near(c:zab):Prop:=(-1048576<=c.2.2.2.1/\c.2.2.2.1<=1048576)/\ -1048576<=c.2.2.2.2/\c.2.2.2.2<=1048576
theorem qng:near zbb:=by unfold near zbb;decide
theorem qgh{a b:zab}(h:near a)(k:near b):qlc a.2.2.2.1 a.2.2.2.2 b.2.2.2.1 b.2.2.2.2:=by unfold near at h k;unfold qlc;omega
end Go.Hm
namespace Go.Proofs.Y
open Go.RowKit Go.Hm
theorem zfw{w:World}{t:Int}{a b:zab}(c:near a)(d:near b):Calls Tryz.prog 144 #[.int .i64 t,zde a,zde b] w (zap (.int .i64 (zkv t a b)) w):=zw7 (qgh c d)
theorem qal{w:World}{t:Int}{a b:zdp}(a9:near a.2.2.1)(b0:near a.2.2.2)(a0:near b.2.2.1)(a1:near b.2.2.2)(hn:0<=a.1/\a.1<=1000000)(hm:0<=b.1/\b.1<=1000000):
 Calls Tryz.prog 129 #[.int .i64 t,zcm a,zcm b] w (zap (zcm (zok t a b)) w):=by
 have C1:=qwk (fun(W:World)=>zfw (w:=W) (t:=t) a0 a9);have C2:=qwk (fun(W:World)=>zfw (w:=W) (t:=t) a1 b0);have D1:=qwk (fun(W:World)=>zfw (w:=W) (t:=t) a0 a0);have D2:=qwk (fun(W:World)=>zfw (w:=W) (t:=t) a1 a1);rw[zw8] at D1 D2;obtain⟨n,ah,p,q⟩:=a;obtain⟨m,bh,r,s⟩:=b;dsimp only at*;obtain⟨M,f⟩:∃M,M=zok t (n,ah,p,q) (m,bh,r,s):=⟨_,rfl⟩;rw[<-f];unfold zok at f;dsimp only at f;generalize zkv t r p=o1 at*;generalize zkv t s q=o2 at*;obtain⟨p1,p2,p3,p4,p5⟩:=p;obtain⟨q1,q2,q3,q4,q5⟩:=q;obtain⟨r1,r2,r3,r4,r5⟩:=r;obtain⟨A,B,C,D,E⟩:=s;unfold zde zay at C1 C2 D1 D2;dsimp only at C1 C2 D1 D2;show Calls Tryz.prog 129 #[.int .i64 t,.agg #[.int .i64 n,.bool ah,.bool p1,.int .i64 p2,.string (zaf p3),.int .i64 p4,.int .i64 p5,.bool q1,.int .i64 q2,.string (zaf q3),.int .i64 q4,.int .i64 q5],
  .agg #[.int .i64 m,.bool bh,.bool r1,.int .i64 r2,.string (zaf r3),.int .i64 r4,.int .i64 r5,.bool A,.int .i64 B,.string (zaf C),.int .i64 D,.int .i64 E]] w (zap (zcm M) w)
 have o:=qw1 w 133 #[.int .i64 n,.bool ah,.bool p1,.int .i64 p2,.string (zaf p3),.int .i64 p4,.int .i64 p5,.bool q1,.int .i64 q2,.string (zaf q3),.int .i64 q4,.int .i64 q5];have u:=qw1 (w.alloc (.cells #[.int .i64 n,.bool ah,.bool p1,.int .i64 p2,.string (zaf p3),.int .i64 p4,.int .i64 p5,.bool q1,.int .i64 q2,.string (zaf q3),.int .i64 q4,.int .i64 q5] 133)) 133 #[.int .i64 m,.bool bh,.bool r1,.int .i64 r2,.string (zaf r3),.int .i64 r4,.int .i64 r5,.bool A,.int .i64 B,.string (zaf C),.int .i64 D,.int .i64 E];have b2:IntKind.i64.wrap (n+m)=n+m:=qwj _ (by omega);have R:=qwk f;clear f a9 b0 a0 a1;have BO:=fun(cs:Array Value)=>qw1 (((w.alloc (.cells #[.int .i64 n,.bool ah,.bool p1,.int .i64 p2,.string (zaf p3),.int .i64 p4,.int .i64 p5,.bool q1,.int .i64 q2,.string (zaf q3),.int .i64 q4,.int .i64 q5] 133)).alloc (.cells #[.int .i64 m,.bool bh,.bool r1,.int .i64 r2,.string (zaf r3),.int .i64 r4,.int .i64 r5,.bool A,.int .i64 B,.string (zaf C),.int .i64 D,.int .i64 E] 133)).alloc (.cells #[.int .i64 0,.bool false,.bool false,.int .i64 0,.string ⟨#[]⟩,.int .i64 0,.int .i64 0,.bool false,.int .i64 0,.string ⟨#[]⟩,.int .i64 0,.int .i64 0] 133)) 133 cs
 obtain⟨Z,hZ⟩:∃Z:Obj,Z= .cells #[.int .i64 0,.bool false,.bool false,.int .i64 0,.string ⟨#[]⟩,.int .i64 0,.int .i64 0,.bool false,.int .i64 0,.string ⟨#[]⟩,.int .i64 0,.int .i64 0] 133:=⟨_,rfl⟩;obtain⟨S,T,U,V,X,Y,x6,x7,x8,x9,j,k⟩:=zbd ((o.alloc (.cells #[.int .i64 m,.bool bh,.bool r1,.int .i64 r2,.string (zaf r3),.int .i64 r4,.int .i64 r5,.bool A,.int .i64 B,.string (zaf C),.int .i64 D,.int .i64 E] 133)).alloc Z);obtain⟨G,H,I,J,K,L,N,O,P,Q,g,i⟩:=zbd (u.alloc Z);have a3:=qwk ((o.alloc (.cells #[.int .i64 m,.bool bh,.bool r1,.int .i64 r2,.string (zaf r3),.int .i64 r4,.int .i64 r5,.bool A,.int .i64 B,.string (zaf C),.int .i64 D,.int .i64 E] 133)).alloc Z);have a4:=qwk (u.alloc Z);subst hZ;simp only[qww] at G H I J K L N O P Q g i;clear o u;have a2:Hid (∀(o1 o2 o3 o4:Obj) (W:World),New ((((w.alloc o1).alloc o2).alloc o3).alloc o4) W->New w W):=qwk fun o1 o2 o3 o4 W h=>qw5 (qw5 (zzx w o1 o2) (zzx _ o3 o4)) h
 cases ah with
 |true=>
  cases bh with
  |true=>
   have f:=R.out;clear R;rw[if_pos rfl] at f;simp only[qvu,decide_eq_true_eq] at f;have R:=qwk f;clear f;go_enter Tryz.func129,Tryz.ntmps129
   go_wp2_with fail
   refine(C1.out _).mono ?_;rintro e w1 ⟨rfl,z⟩;have o:=(a3.out.alloc (.cells #[.int .i64 (n+m),.bool true,.bool p1,.int .i64 p2,.string (zaf p3),.int .i64 p4,.int .i64 p5,.bool q1,.int .i64 q2,.string (zaf q3),.int .i64 q4,.int .i64 q5] 133)).below z (by simp;omega);have u:=(a4.out.alloc (.cells #[.int .i64 (n+m),.bool true,.bool p1,.int .i64 p2,.string (zaf p3),.int .i64 p4,.int .i64 p5,.bool q1,.int .i64 q2,.string (zaf q3),.int .i64 q4,.int .i64 q5] 133)).below z (by simp);have l:=(BO #[.int .i64 (n+m),.bool true,.bool p1,.int .i64 p2,.string (zaf p3),.int .i64 p4,.int .i64 p5,.bool q1,.int .i64 q2,.string (zaf q3),.int .i64 q4,.int .i64 q5]).below z (by simp);have x:=((qw1 _ _ _).alloc _).below z (by simp);have y:=a2.out _ _ _ _ _ z;clear S T U V X Y x6 x7 x8 x9 j k G H I J K L N O P Q g i BO a3 a4 z;simp only[qww] at o u l x;obtain⟨S,T,U,V,X,Y,x6,x7,x8,x9,j,k⟩:=zbd o;obtain⟨G,H,I,J,K,L,N,O,P,Q,g,i⟩:=zbd u;by_cases h1:o1<0;all_goals
    have H1:=qwk h1
    go_wp2_with (refine zmf rfl 75 (.tmp 42) (.tmp 41) rfl (w.heap.size+1+1+1) 2 rfl rfl l (by simp) (by kernel_rfl) (by simp[Value.oneCell']) ?_
                 intro W2 l d c;replace o:=c _ _ _ (by omega) o;replace u:=c _ _ _ (by omega) u;replace x:=c _ _ _ (by omega) x;replace y:=d _ _ y (by omega);clear S T U V X Y x6 x7 x8 x9 j k G H I J K L N O P Q g i;obtain⟨S,T,U,V,X,Y,x6,x7,x8,x9,j,k⟩:=zbd o;obtain⟨G,H,I,J,K,L,N,O,P,Q,g,i⟩:=zbd u;simp only[qta,qs1,qtb] at l)
   all_goals
    refine(C2.out _).mono ?_;rintro e w3 ⟨rfl,F⟩;replace o:=o.below F o.lt;replace u:=u.below F u.lt;replace l:=l.below F l.lt;replace x:=x.below F x.lt;replace y:=qw5 y F;clear F S T U V X Y x6 x7 x8 x9 j k G H I J K L N O P Q g i;obtain⟨S,T,U,V,X,Y,x6,x7,x8,x9,j,k⟩:=zbd o;obtain⟨G,H,I,J,K,L,N,O,P,Q,g,i⟩:=zbd u;obtain⟨z0,z1,z2,z3,z4,z5,z6,z7,z8,z9,a7,a8⟩:=zbd l;by_cases h2:0<o2
   all_goals
    have H2:=qwk h2;go_wp2_with (first
     |(refine zmf rfl 75 (.tmp 56) (.tmp 55) rfl (w.heap.size+1+1+1) 7 rfl rfl l (by simp) (by kernel_rfl) (by simp[Value.oneCell']) ?_
       intro W4 l d c;replace x:=c _ _ _ (by omega) x;replace y:=d _ _ y (by omega);clear S T U V X Y x6 x7 x8 x9 j k G H I J K L N O P Q g i z0 z1 z2 z3 z4 z5 z6 z7 z8 z9 a7 a8 c d;simp only[qta,qs1,qtb] at l;obtain⟨z0,z1,z2,z3,z4,z5,z6,z7,z8,z9,a7,a8⟩:=zbd l)
     |(refine ziv rfl 133 (.tmp 6) (.tmp 57) rfl (w.heap.size+1+1) _ rfl rfl x (by kernel_rfl) (by simp) (by simp[Value.oneCell']) ?_
       intro W5 BR d c;replace y:=d _ _ y (by omega);clear c d;obtain⟨s0,A,B,C,D,E,s6,s7,s8,s9,a5,a6⟩:=zbd BR))
    have f:=R.out;first
     |rw[if_pos H1.out] at f
     |rw[if_neg (show¬o1<0 by have:=H1.out;omega)] at f
    first
     |rw[if_pos H2.out] at f
     |rw[if_neg (show¬0<o2 by have:=H2.out;omega)] at f
    subst f;exact bodyPost_ret (v:=zcm _) (by simp[results,Tryz.results129,go_sem,s0,A,B,C,D,E,s6,s7,s8,s9,a5,a6,zcm,zci,zay]) rfl ⟨rfl,y⟩
  |false=>
   have f:=R.out;simp only[if_pos,Bool.false_and,qvr,if_false] at f;go_enter Tryz.func129,Tryz.ntmps129
   go_wp2_with fail
   subst f;exact bodyPost_ret (v:=zcm (n+m,true,(p1,p2,p3,p4,p5),(q1,q2,q3,q4,q5))) (by simp[results,Tryz.results129,go_sem,zcm,zci,zay]) rfl ⟨rfl,qw5 (zzx w _ _) (zzx _ _ _)⟩
 |false=>
  cases bh with
  |true=>
   have f:=R.out;clear R;rw[if_neg (by simp),if_pos rfl] at f;have R:=qwk f;clear f;go_enter Tryz.func129,Tryz.ntmps129
   go_wp2_with fail
   refine(D1.out _).mono ?_;rintro e w1 ⟨rfl,z⟩;have u:Blk w1 (w.heap.size+1) 133 #[.int .i64 m,.bool true,.bool r1,.int .i64 r2,.string (zaf r3),.int .i64 r4,.int .i64 r5,.bool A,.int .i64 B,.string (zaf C),.int .i64 D,.int .i64 E]:=by have:=(((qw1 _ _ _).alloc _).alloc _).below z (by simp);simpa using this
   have o:Blk w1 w.heap.size 133 #[.int .i64 m,.bool true,.bool r1,.int .i64 r2,.string (zaf r3),.int .i64 r4,.int .i64 r5,.bool A,.int .i64 B,.string (zaf C),.int .i64 D,.int .i64 E]:=by have:=((((qw1 _ _ _).alloc _).alloc _).alloc _).below z (by simp;omega);simpa using this
   have l:Blk w1 (w.heap.size+1+1+1) 133 #[.int .i64 (n+m),.bool true,.bool r1,.int .i64 r2,.string (zaf r3),.int .i64 r4,.int .i64 r5,.bool A,.int .i64 B,.string (zaf C),.int .i64 D,.int .i64 E]:=by have:=(qw1 _ _ _).below z (by simp);simpa using this
   have x:=((qw1 _ _ _).alloc _).below z (by simp);have y:=a2.out _ _ _ _ _ z;clear S T U V X Y x6 x7 x8 x9 j k G H I J K L N O P Q g i BO a3 a4 z;simp only[qww] at x;obtain⟨S,T,U,V,X,Y,x6,x7,x8,x9,j,k⟩:=zbd o;obtain⟨G,H,I,J,K,L,N,O,P,Q,g,i⟩:=zbd u;go_wp2_with fail
   refine(D2.out _).mono ?_;rintro e w3 ⟨rfl,F⟩;replace l:=l.below F l.lt;replace x:=x.below F x.lt;replace y:=qw5 y F;clear F S T U V X Y x6 x7 x8 x9 j k G H I J K L N O P Q g i o u;obtain⟨z0,z1,z2,z3,z4,z5,z6,z7,z8,z9,a7,a8⟩:=zbd l
   go_wp2_with (refine ziv rfl 133 (.tmp 6) (.tmp 57) rfl (w.heap.size+1+1) _ rfl rfl x (by kernel_rfl) (by simp) (by simp[Value.oneCell']) ?_
                intro W5 BR d c;replace y:=d _ _ y (by omega);clear c d;obtain⟨s0,A,B,C,D,E,s6,s7,s8,s9,a5,a6⟩:=zbd BR)
   have f:=R.out;subst f;exact bodyPost_ret (v:=zcm _) (by simp[results,Tryz.results129,go_sem,s0,A,B,C,D,E,s6,s7,s8,s9,a5,a6,zcm,zci,zay]) rfl ⟨rfl,y⟩
  |false=>
   have f:=R.out;rw[if_neg (by simp),if_neg (by simp)] at f;go_enter Tryz.func129,Tryz.ntmps129
   go_wp2_with fail
   rw[f];exact bodyPost_ret (v:=zcm (n+m,false,zbb,zbb)) (by simp[results,Tryz.results129,go_sem,zcm,zci,zay,zbb,show zaf []=⟨#[]⟩ from rfl]) rfl ⟨rfl,New.alloc _ (zzx _ _ _)⟩
end Go.Proofs.Y
