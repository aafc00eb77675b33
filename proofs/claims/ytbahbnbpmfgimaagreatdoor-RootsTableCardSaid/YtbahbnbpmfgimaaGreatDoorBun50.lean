import Derived.Test.YtbahbnbpmfgimaaGreatDoorBun49
set_option maxHeartbeats 8000000
set_option maxRecDepth 100000
namespace Go.Proofs.Y
open Go Go.RowKit Go.Hm
theorem KeepC.blk{W a:World}{b:Nat}{t:TypeId}{cs:Array Value}(k:KeepC W a)(h:Blk W b t cs)(c:t≠tL)(d:t≠24):Blk a b t cs:=k.2 _ _ _ c d h
theorem qdb{L:List za2}{r:Int}{b:List Nat}{F:FootS}{p a:List Nat}(h:Filed L r b F [[[p]]] a):∀x∈p,x<256:=fun x c=>h.bytes x (by rw[h.whole];unfold zfz;simp[c])
theorem zn6{s d:List Nat}{k n:Int}(c:∀x∈s,x<256)(a:∀x∈d,x<256)(e:d.length<=9000000):GoodF (za9 s (leafP k n d)).toList:=fun f b=>
 zt3 c (z1t a) (by unfold zik;rw[zdd];simp[za0];omega) f b
theorem qdc{a b:List Nat}(e:∀x∈a,x<256)(h:a.length<=9000000)(c:zna b):GoodF (zqc a b):=fun f g=>by
 obtain rfl:=qr6.1 g;refine⟨zgn (s:=zfp) (L:=[a,b]) (by decide) (fun p d=>?_) zh9,zfn (s:=zfp) (L:=[a,b]) zh9 (by simp[zik,c.1];omega)⟩;simp only[qsm,qur,or_false] at d;rcases d with rfl|rfl
 ·exact e
 ·exact c.2
theorem zvt{s d:List Nat}{k n:Int}(a:1<=s.length/\s.length<=255):(za9 s (leafP k n d)).toList.length=1:=by rw[show za9 s (leafP k n d)=some (zb2 s (leafP k n d)) from if_pos ⟨a.1,a.2,by rw[zdd];simp⟩];rfl
theorem z7f{W:World}{b:Nat}{cn:Array Value}(h:Blk W b tD cn)(e:dV (zca zbz [])= .agg cn)(o:ConstIn W):
 Calls Tryz.prog 31 #[.string ⟨#[102,105,108,101]⟩,.slice (some ⟨W.heap.size+1,0,none⟩) 2 2] ((W.alloc (.cells #[.int .u8 0,.int .u8 0,.int .u8 0] 5)).alloc (.cells #[.slice (some ⟨W.heap.size,0,none⟩) 3 3,.slice (some ⟨b,0,none⟩) 32 32] 24))
  (zap (dV (zca zfp [[0,0,0],zca zbz []])) ((W.alloc (.cells #[.int .u8 0,.int .u8 0,.int .u8 0] 5)).alloc (.cells #[.slice (some ⟨W.heap.size,0,none⟩) 3 3,.slice (some ⟨b,0,none⟩) 32 32] 24))):=by
 obtain⟨c,a⟩:∃X,X=W.alloc (.cells #[.int .u8 0,.int .u8 0,.int .u8 0] 5):=⟨_,rfl⟩;have j:New W c:=by rw[a];exact zai _ _
 have r:c.heap.size=W.heap.size+1:=by rw[a,qww]
 have k:Blk c W.heap.size 5 #[.int .u8 0,.int .u8 0,.int .u8 0]:=by rw[a];exact qw1 _ _ _
 have n:=h.below j h.lt;rw[<-a];have f:=zai c (.cells #[.slice (some ⟨W.heap.size,0,none⟩) 3 3,.slice (some ⟨b,0,none⟩) 32 32] 24);have m:cn.toList=zar .u8 (zca zbz []):=by injection e with e;rw[<-e]
 have d:=zcg zbz [];have q:RowsAt (c.alloc (.cells #[.slice (some ⟨W.heap.size,0,none⟩) 3 3,.slice (some ⟨b,0,none⟩) 32 32] 24)) (some ⟨W.heap.size+1,0,none⟩) 2 2 [((some ⟨W.heap.size,0,none⟩:Option Addr),3,[0,0,0]),(some ⟨b,0,none⟩,32,zca zbz [])]:=by
  refine⟨?_,fun x i=>?_,qq0 _⟩
  ·rw[<-r]
   exact qxm c _ (0,0) _ 2 _ (by simp[recs,zf6,d.1]) (by simp[recs,zf6])
  ·simp only[qsm,qur,or_false] at i
   rcases i with rfl|rfl
   ·exact⟨by show Reads _ _ 1 _ 3 _;exact qxj (zgr (l:=[0,0,0]) k rfl) f,qq0 3,by show(3:Nat)<=_;omega⟩
   ·exact⟨by show Reads _ _ 1 _ (zca zbz []).length _;exact qxj (zgr n m) f,by show(zca zbz []).length<=32;rw[d.1];omega,by show(32:Nat)<=_;omega⟩
 have:=z1n (s:=zfp) q (by omega) (by decide) (by decide) (by simp[bytesOf,zik,d.1]) (by
  intro p g;simp only[bytesOf,qrj,qrk,qsm,qur,or_false] at g;rcases g with rfl|rfl
  ·decide
  ·exact d.2) (o.new (qw5 j f))
 rw[show bytesOf [((some ⟨W.heap.size,0,none⟩:Option Addr),3,[0,0,0]),(some ⟨b,0,none⟩,32,zca zbz [])]=[[0,0,0],zca zbz []] from rfl,zlb] at this;exact this
theorem z1b(w:World)(hG:GlobIn w):Calls Tryz.prog 7 #[] w (zap (.bool true) w):=by
 have HG:=qwk hG;clear hG;go_enter Tryz.func7,Tryz.ntmps7
 go_wp2_with fail
 refine new_any.mono ?_;rintro e w1 ⟨rfl,rfl⟩;go_wp2_with fail
 refine new_any.mono ?_;rintro e w2 ⟨rfl,rfl⟩;have T2:=Tw.made (qw4 w);have hz:(w.alloc (.cells #[.slice none 0 0] 86)).heap.size=w.heap.size+1:=by simp
 rw[hz];obtain⟨W2,n4⟩:∃W,W=(w.alloc (.cells #[.slice none 0 0] 86)).alloc (.cells #[.slice none 0 0] 86):=⟨_,rfl⟩;rw[<-n4] at T2⊢;obtain⟨g,hg⟩:∃g,g=w.heap.size:=⟨_,rfl⟩;rw[<-hg] at T2⊢;have o4:w.heap.size<=g:=by omega
 have T2:=qwk T2;have i6:=qwk o4;clear hz n4 hg o4;have P1:=qwk (show Calls Tryz.prog 27 #[.agg #[.slice none 0 0,.int .i64 0,.slice none 0 0],.agg #[.int .i64 1,.int .i64 1,.slice none 0 0]] W2 (zkn (0,emB) W2) from by have:=zks (w:=W2) ⟨none,0,[],0,none,0,[],1,1,none,0,[]⟩ (qh7 W2) qwy (by intro d hd;cases hd) (by simp);dsimp only at this;rw[qhx] at this;exact this)
 go_wp2_with fail
 refine P1.out.mono ?_;rintro e w3 ⟨A3,m3,c3,rfl,o3,b3⟩;obtain rfl:m3=15:=by have:=o3.len;rw[zaa] at this;exact this
 have T3:=qwk (T2.out.new b3);obtain⟨b8,c0,f7,c4⟩:=qod;obtain⟨ca,ea,ia,za,oa,-⟩:=zg7 (zhf emB);have f:=o3.cap;have j:=f.2;simp only[maxLen] at j;have P3:=qwk (show Calls Tryz.prog 23 #[.pointer (some ⟨g,0,none⟩),.slice A3 15 c3] w3 (TwPost (.tuple #[.agg ca,.int .i64 0]) w g (g+1) (zpp emB) [] w3) from by have:=zyq i6.out (by omega) HG.out T3.out (BIn.own o3 rfl) (by decide) b8 f.1 (by omega) (by simp);unfold qob at this;rw[ea,c0,qrr] at this;exact this)
 rw[f7] at ea;have EA:=qwk ea;have Ia:=qwk ia;have Za:=qwk za;have Oa:=qwk oa;have r8:=qwk c4;clear P1 T2 b3 o3 b8 c0 f7 c4 ea ia za oa f j;go_wp2_with fail
 refine P3.out.mono ?_;rintro e w4 ⟨rfl,T4,k4⟩;generalize zpp emB=f1 at*;obtain⟨w5,g0⟩:∃W,W=w4.alloc (.cells ca 35):=⟨_,rfl⟩;have n5:New w4 w5:=by rw[g0];exact zai _ _
 have T5:=qwk (T4.new n5);have B5:=qwk (show Blk w5 w4.heap.size tD ca by rw[g0];exact qw1 _ _ _);have k6:=qwk g0;clear P3 T3 T4 k4 n5 g0;go_upto_region 7 with(refine wpList_store_row rfl 35 (.tmp 5) (.tmp 41) rfl w4.heap.size ca rfl rfl _ _ (heap_alloc_new _ _) Ia.out Za.out Oa.out ?_;rw[zbj])
 rw[<-k6.out];generalize w4.heap.size=b5 at*;obtain⟨cn,en,o9,q5,p5,-⟩:=zg7 (zcg zbz []);have P5:=zyr w5 (HG.out.new T5.out.news).1;rw[en] at P5;have P5:=qwk P5;have EN:=qwk en;have In:=qwk o9;have Zn:=qwk q5;have On:=qwk p5;clear en o9 q5 p5 k6;go_wp2_with fail
 refine P5.out.mono ?_;rintro e w6 ⟨rfl,n6⟩;obtain⟨w7,g1⟩:∃W,W=w6.alloc (.cells cn 35):=⟨_,rfl⟩;have n7:New w6 w7:=by rw[g1];exact zai _ _
 have j9:=qw5 n6 n7;have T7:=qwk (T5.out.new j9);have k1:=qwk (B5.out.below j9 B5.out.lt);have B7:=qwk (show Blk w7 w6.heap.size tD cn by rw[g1];exact qw1 _ _ _);have k7:=qwk g1;clear P5 T5 B5 n6 n7 j9 g1;go_upto_region 8 with(refine wpList_store_row rfl 35 (.tmp 7) (.tmp 43) rfl w6.heap.size cn rfl rfl _ _ (heap_alloc_new _ _) In.out Zn.out On.out ?_;rw[zbj])
 rw[<-k7.out];generalize w6.heap.size=b7 at*;obtain⟨b8,c0,f7,c4⟩:=qoe;obtain⟨cz,ez,iz,zz,oz,-⟩:=zg7 (zhf []);have P7:=qwk (show Calls Tryz.prog 23 #[.pointer (some ⟨g,0,none⟩),.slice none 0 0] w7 (TwPost (.tuple #[.agg cz,.int .i64 2]) w g (g+1) f1 [] w7) from by have:=zyq (A:=none) (c:=0) i6.out (by omega) HG.out T7.out (BIn.arg (b:=[]) qwy) (by simp) b8 (by simp) (by omega) (by have:=r8.out;omega);unfold qob at this;rw[ez,c0,c4,qra] at this;exact this)
 have Iz:=qwk iz;have Zz:=qwk zz;have Oz:=qwk oz;clear b8 c0 f7 c4 ez iz zz oz k7;go_wp2_with fail
 refine P7.out.mono ?_;rintro e w8 ⟨rfl,T8,k8⟩;have n9:=zai w8 (.cells cz 35);have T9:=T8.new n9;have k9:=k8.trans (qxv n9);have e4:=qwk (k9.blk k1.out (by decide) (by decide));have e5:=qwk (k9.blk B7.out (by decide) (by decide));obtain⟨R,j3⟩:∃W,W=w8.alloc (.cells cz 35):=⟨_,rfl⟩;rw[<-j3] at T9 e4 e5;have T9:=qwk T9;have l0:=qwk j3;clear P7 T7 T8 k8 k9 n9 j3 k1 B7;go_upto_region 9 with(refine wpList_store_row rfl 35 (.tmp 8) (.tmp 47) rfl w8.heap.size cz rfl rfl _ _ (heap_alloc_new _ _) Iz.out Zz.out Oz.out ?_;rw[zbj])
 rw[<-l0.out];clear l0 Iz Zz Oz;generalize w8.heap.size=b9;obtain⟨TI,e7,BT⟩:=qpo R;have TI:=qwk TI;have e7:=qwk e7;have BT:=qwk BT;go_upto_region 10 with fail
 generalize n0:((((R.alloc (.cells #[.string ⟨#[97]⟩,.int .i64 0,.bool false] 71)).alloc (.cells #[.bool false,.int .i64 5,.string ⟨#[]⟩,.int .i64 0,.int .i64 0] 75)).alloc (.cells #[.slice (some ⟨R.heap.size+1,0,none⟩) 1 1] 76)).alloc (.cells #[.slice (some ⟨R.heap.size,0,none⟩) 1 1,.int .i64 1,.slice (some ⟨R.heap.size+1+1,0,none⟩) 1 1] 56))=y at*;have m6:(qd1 R.heap.size).length=1:=rfl;have m5:=ql8 R.heap.size;have m7:=ql9 R.heap.size;generalize qd1 R.heap.size=D0 at*;generalize s6:R.heap.size+1+1+1=gt at*;generalize s2:(some ⟨R.heap.size,0,none⟩:Option Addr)=Ac at*;generalize s3:(some ⟨R.heap.size+1+1,0,none⟩:Option Addr)=Ad at*;clear n0 s6 s2 s3;obtain⟨c,Fo,z,p,hb,c6,hp,c7⟩:=qhy m5;have j4:=zai y (.cells #[.int .i64 0] 3);have RE:Reads (y.alloc (.cells #[.int .i64 0] 3)) (y.alloc (.cells #[.int .i64 0] 3)).heap.size 1 (some ⟨y.heap.size,0,none⟩) 1 (za5 .i64 [0]):=qxk y 3 #[.int .i64 0] 1 1 (za5 .i64 [0]) rfl rfl;have l2:=qwk (show Calls Tryz.prog 27 #[.agg #[.slice Ac 1 1,.int .i64 1,.slice Ad 1 1],.agg #[.int .i64 1,.int .i64 1,.slice (some ⟨y.heap.size,0,none⟩) 1 1]] (y.alloc (.cells #[.int .i64 0] 3)) (zkn (0,c) (y.alloc (.cells #[.int .i64 0] 3))) from by have:=zks ⟨Ac,1,s1L,1,Ad,1,D0,1,1,some ⟨y.heap.size,0,none⟩,1,[0]⟩ (TI.out.later j4) RE m7 (by simp);dsimp only at this;rw[hb,m6] at this;exact this)
 obtain⟨p7,p8,p9,q0⟩:=qof c6 hp c7;have HR:=qwk (qtc p7 (qtc p8 (qtc p9 q0)));have h:=qwk c6;have HP:=qwk (qtc hp c7);have N:=qw5 e7.out j4;have l5:=qwk (T9.out.new N);have V:=qwk (e4.out.below N e4.out.lt);have Z:=qwk (e5.out.below N e5.out.lt);obtain⟨x0,x1,x2⟩:=zan BT.out;clear TI e7 BT m6 m5 m7 hb c6 hp c7 j4 RE p7 p8 p9 q0 N T9 e4 e5;go_wp2_with fail
 refine l2.out.mono ?_;rintro e q1 ⟨q6,s7,j0,rfl,d5,e8⟩;obtain rfl:s7=c.length:=by have:=d5.len;rwa[zaa] at this
 have f:=d5.cap;have j:=f.2;simp only[maxLen] at j;have l6:=qwk (l5.out.new e8);have g5:=qwk (V.out.below e8 V.out.lt);have g8:=qwk (Z.out.below e8 Z.out.lt);have hh:w.heap.size<=g+1:=by have:=i6.out;omega
 have HH:=qwk hh;obtain⟨cs,es,is,zs,p6,-⟩:=zg7 (zhf c);have l3:=qwk (show Calls Tryz.prog 23 #[.pointer (some ⟨g+1,0,none⟩),.slice q6 c.length j0] q1 (TwPost (.tuple #[.agg cs,.int .i64 0]) w (g+1) g (zpp c) f1 q1) from by have:=zyq hh (by omega) HG.out l6.out.swap (BIn.own d5 rfl) h.out.bytes HR.out.1 f.1 (by omega) (by simp);unfold qob at this;rw[es,HR.out.2.1,qrr] at this;exact this)
 have i5:=qwk HR.out.2.2.2;have r0:=qwk (zry h.out.bytes HR.out.1);rw[HR.out.2.2.1] at es;have ES:=qwk es;have Is:=qwk is;have Zs:=qwk zs;have Os:=qwk p6;have l1:=qwk d5;clear l2 l5 V Z x0 x1 x2 e8 d5 f j hh es is zs p6 HR;go_wp2_with fail
 refine l3.out.mono ?_;rintro e d6 ⟨rfl,l7,p0⟩;generalize zpp c=f2 at*;have j5:=zai d6 (.cells cs 35);have a9:=l7.new j5;have g2:=p0.trans (qxv j5);have H:=qwk (g2.blk g5.out (by decide) (by decide));have I:=qwk (g2.blk g8.out (by decide) (by decide));have a3:=qwk (qxx l1.out g2);have e0:=qwk (qw1 d6 tD cs);obtain⟨t1,c8⟩:∃W,W=d6.alloc (.cells cs 35):=⟨_,rfl⟩;rw[<-c8] at a9 H I a3 e0;have a9:=qwk a9;have h1:=qwk c8;clear l3 l6 l7 p0 g2 j5 c8 g5 g8 l1;go_upto_region 12 with(refine wpList_store_row rfl 35 (.tmp 13) (.tmp 66) rfl d6.heap.size cs rfl rfl _ _ (heap_alloc_new _ _) Is.out Zs.out Os.out ?_;rw[zbj])
 rw[<-h1.out];clear h1;generalize d6.heap.size=s9 at*;have f9:=h.out.short;have f:=a3.out.cap;have j:=f.2;simp only[maxLen] at j;have l4:=qwk (z3i (c:=j0) a3.out.reads h.out.bytes (by omega) f.1 (by omega));clear f j;go_wp2_with fail
 refine l4.out.mono ?_;rintro e k0 ⟨m4,hq⟩;rw[h.out.opened] at hq;obtain⟨h8,e9,L2,r2,h9,f0,G2,A2,m2,c2,rfl,j1,k3,o1,o2⟩:=hq;obtain rfl:m2=z.length:=by have:=o2.len;rwa[zaa] at this
 clear l4 o1 f9;unfold zmp;have g3:=zai k0 (.cells #[.slice h8 L2.length e9,.int .i64 r2,.slice h9 G2.length f0] 79);have BF:=qwk (qw1 k0 79 #[.slice h8 L2.length e9,.int .i64 r2,.slice h9 G2.length f0]);have m:=qw5 m4 g3;have b0:=a9.out.new m;have t:=H.out.below m H.out.lt;have u:=I.out.below m I.out.lt;have i:=e0.out.below m e0.out.lt;have e6:=a3.out.later m;have B:=o2.later g3;have a2:=k3.later g3;go_upto_region 13 with fail
 obtain⟨t2,h7⟩:∃w3,w3=k0.alloc (.cells #[.slice h8 L2.length e9,.int .i64 r2,.slice h9 G2.length f0] 79):=⟨_,rfl⟩;rw[<-h7] at BF b0 t u i e6 B a2⊢;obtain⟨x0,x1,x2⟩:=zan BF.out;have f:=e6.cap;have O:=qhw (cb:=j0) (cc:=e9) (r:=r2) (cg:=f0) (g:=0) (c:=0) (p:=0) e6.reads f.1 a2 (zyg (L:=L2) (r:=r2) (by rw[j1];exact h.out.data));rw[j1,qh6 h.out] at O;unfold zmp at O;have O:=qwk O;have b0:=qwk b0;have t:=qwk t;have u:=qwk u;have i:=qwk i;have B:=qwk B;clear m4 j1 k3 o2 g3 BF m a9 H I e0 a3 e6 a2 h7 f;go_wp2_with fail
 refine O.out.mono ?_;rintro e q2 ⟨Q,q7,s8,s1,rfl,g4⟩;obtain rfl:s8=p.length:=by have:=g4.len;rwa[zaa] at this
 have f:=g4.cap;have j:=f.2;simp only[maxLen] at j;have o7:=HP.out.1;have l8:=b0.out.new Q;have g6:=qwk (t.out.below Q t.out.lt);have g9:=qwk (u.out.below Q u.out.lt);have S:=qwk (i.out.below Q i.out.lt);have h5:=qwk (B.out.later Q);obtain⟨c1,e1,i1,z1,u1,n8⟩:=zg7 (zlr p);have a6:=z07 HH.out (by omega) HG.out l8 (s:=zcp) (k:=0) (n:=1) (by decide) (by decide) g4.reads (qdb h.out) (by omega) f.1 (by omega) (by rw[i5.out];decide);have C:(f2++(za9 zcp (leafP 0 1 p)).toList).length=5:=by rw[qrp,zvt ⟨by decide,by decide⟩,i5.out]
 have r1:=qwk (qxn r0.out (zn6 (s:=zcp) (d:=p) (k:=0) (n:=1) (by decide) (qdb h.out) (by omega)));rw[show zca zcp (leafP 0 1 p)=dg1 p from rfl,e1] at a6;generalize f2++(za9 zcp (leafP 0 1 p)).toList=f3 at*;have a6:Hid (Calls Tryz.prog 34 #[.pointer (some ⟨g+1,0,none⟩),.string ⟨#[112,97,103,101]⟩,.int .i64 0,.int .i64 1,.slice q7 p.length s1] q2 (TwPost (.agg c1) w (g+1) g f3 f1 q2)):=qwk a6;have i8:=qwk C;have I1:=qwk i1;have Z1:=qwk z1;have U1:=qwk u1;have E1:=qwk e1;have r5:=qwk n8;clear O x0 x1 x2 b0 t u i B g4 Q f j o7 l8 e1 i1 z1 u1 C n8 i5;go_wp2_with fail
 refine a6.out.mono ?_;rintro e d7 ⟨rfl,l9,p1⟩;have j6:=zai d7 (.cells c1 35);have b1:=l9.new j6;have d2:=p1.trans (qxv j6);have X:=qwk (d2.blk g6.out (by decide) (by decide));have a0:=qwk (d2.blk g9.out (by decide) (by decide));have D:=qwk (d2.blk S.out (by decide) (by decide));have a4:=qwk (qxx h5.out d2);have i0:=qwk (qw1 d7 tD c1);obtain⟨q3,c9⟩:∃W,W=d7.alloc (.cells c1 35):=⟨_,rfl⟩;rw[<-c9] at b1 X a0 D a4 i0;have b1:=qwk b1;have h2:=qwk c9;clear a6 l9 p1 d2 j6 c9 g6 g9 S h5;go_upto_region 15 with(refine wpList_store_row rfl 35 (.tmp 20) (.tmp 82) rfl d7.heap.size c1 rfl rfl _ _ (heap_alloc_new _ _) I1.out Z1.out U1.out ?_;rw[zbj])
 rw[<-h2.out];clear h2;generalize d7.heap.size=r9 at*;have a7:=z07 HH.out (by omega) HG.out b1.out (s:=zfk) (k:=0) (n:=1) (c:=32) (by decide) (by decide) (zgr (l:=dg1 p) i0.out (by rw[r5.out])) (zlr p).2 (by rw[(zlr p).1];omega) (by rw[(zlr p).1];omega) (by omega) (by rw[i8.out];decide);have C:(f3++(za9 zfk (leafP 0 1 (dg1 p))).toList).length=6:=by rw[qrp,zvt ⟨by decide,by decide⟩,i8.out]
 have r3:=qwk (qxn r1.out (zn6 (s:=zfk) (d:=dg1 p) (k:=0) (n:=1) (by decide) (zlr p).2 (by rw[(zlr p).1];omega)));obtain⟨b6,e2,i2,z2,u2,o0⟩:=zg7 (zls p);rw[show zca zfk (leafP 0 1 (dg1 p))=dg2 p from rfl,e2,(zlr p).1] at a7;generalize f3++(za9 zfk (leafP 0 1 (dg1 p))).toList=f4 at*;have a7:Hid (Calls Tryz.prog 34 #[.pointer (some ⟨g+1,0,none⟩),.string ⟨#[99,104,117,110,107]⟩,.int .i64 0,.int .i64 1,.slice (some ⟨r9,0,none⟩) 32 32] q3 (TwPost (.agg b6) w (g+1) g f4 f1 q3)):=qwk a7;have i9:=qwk C;have I2:=qwk i2;have Z2:=qwk z2;have U2:=qwk u2;have r6:=qwk o0;clear e2 i2 z2 u2 C o0 I1 Z1 U1 E1 i8;go_wp2_with fail
 refine a7.out.mono ?_;rintro e d8 ⟨rfl,m0,p2⟩;have j7:=zai d8 (.cells b6 35);have b2:=m0.new j7;have d3:=p2.trans (qxv j7);have Y:=qwk (d3.blk X.out (by decide) (by decide));have a1:=qwk (d3.blk a0.out (by decide) (by decide));have E:=qwk (d3.blk D.out (by decide) (by decide));have a5:=qwk (qxx a4.out d3);have i4:=qwk (qw1 d8 tD b6);obtain⟨q4,d0⟩:∃W,W=d8.alloc (.cells b6 35):=⟨_,rfl⟩;rw[<-d0] at b2 Y a1 E a5 i4;have b2:=qwk b2;have h3:=qwk d0;clear a7 b1 m0 p2 d3 j7 d0 X a0 D a4 i0;go_upto_region 16 with(refine wpList_store_row rfl 35 (.tmp 21) (.tmp 85) rfl d8.heap.size b6 rfl rfl _ _ (heap_alloc_new _ _) I2.out Z2.out U2.out ?_;rw[zbj])
 rw[<-h3.out];clear h3;generalize d8.heap.size=s0 at*;have a8:=z07 HH.out (by omega) HG.out b2.out (s:=ze4) (k:=0) (n:=1) (c:=32) (by decide) (by decide) (zgr (l:=dg2 p) i4.out (by rw[r6.out])) (zls p).2 (by rw[(zls p).1];omega) (by rw[(zls p).1];omega) (by omega) (by rw[i9.out];decide);have C:(f4++(za9 ze4 (leafP 0 1 (dg2 p))).toList).length=7:=by rw[qrp,zvt ⟨by decide,by decide⟩,i9.out]
 have r4:=qwk (qxn r3.out (zn6 (s:=ze4) (d:=dg2 p) (k:=0) (n:=1) (by decide) (zls p).2 (by rw[(zls p).1];omega)));obtain⟨F,e3,i3,z3,u3,s4⟩:=zg7 (z1a p);rw[show zca ze4 (leafP 0 1 (dg2 p))=dg3 p from rfl,e3,(zls p).1] at a8;generalize f4++(za9 ze4 (leafP 0 1 (dg2 p))).toList=f5 at*;have a8:Hid (Calls Tryz.prog 34 #[.pointer (some ⟨g+1,0,none⟩),.string ⟨#[103,114,111,117,112]⟩,.int .i64 0,.int .i64 1,.slice (some ⟨s0,0,none⟩) 32 32] q4 (TwPost (.agg F) w (g+1) g f5 f1 q4)):=qwk a8;have k5:=qwk C;have I3:=qwk i3;have Z3:=qwk z3;have U3:=qwk u3;have E3:=qwk e3;clear e3 i3 z3 u3 C s4 I2 Z2 U2 i9;go_wp2_with fail
 refine a8.out.mono ?_;rintro e d9 ⟨rfl,m1,p3⟩;have j8:=zai d9 (.cells F 35);have b4:=m1.new j8;have d4:=p3.trans (qxv j8);have g7:=qwk (d4.blk Y.out (by decide) (by decide));have h0:=qwk (d4.blk a1.out (by decide) (by decide));have U:=qwk (d4.blk E.out (by decide) (by decide));have h6:=qwk (qxx a5.out d4);have k2:=qwk (qw1 d9 tD F);obtain⟨G,d1⟩:∃W,W=d9.alloc (.cells F 35):=⟨_,rfl⟩;rw[<-d1] at b4 g7 h0 U h6 k2;have b4:=qwk b4;have h4:=qwk d1;clear a8 b2 m1 p3 d4 j8 d1 Y a1 E a5 i4;go_upto_region 17 with(refine wpList_store_row rfl 35 (.tmp 22) (.tmp 88) rfl d9.heap.size F rfl rfl _ _ (heap_alloc_new _ _) I3.out Z3.out U3.out ?_;rw[zbj])
 rw[<-h4.out];clear h4 Z3 U3;generalize d9.heap.size=t0 at*;have q8:=qwk (fun(W:World)=>show(binOp .eql 35 (.agg ca) (.agg ca)).run Tryz.prog W= .ok (.bool true) W from by rw[<-EA.out];have:=qoz (zcg zfp [[0,0,0],zca zbz []]) (zcg zfp [[0,0,0],zca zbz []]) W;rwa[decide_eq_true rfl] at this);have q9:=qwk (fun(W:World)=>show(binOp .eql 35 (.agg cs) (.agg cs)).run Tryz.prog W= .ok (.bool true) W from by rw[<-ES.out];have:=qoz (zcg zfp [z,dg3 p]) (zcg zfp [z,dg3 p]) W;rwa[decide_eq_true rfl] at this);have DK:(Tryz.prog).eqGuardType (Tryz.prog).depth 35=false:=by kernel_rfl
 have DK:=qwk DK;have r7:=qwk (fun(W:World) (T:Tw w (g+1) g W f5 f1) (k:KeepB w G W)=>show Calls Tryz.prog 18 #[.pointer (some ⟨g+1,0,none⟩),.slice A2 z.length c2,.agg F] W (TwPost (.agg cs) w (g+1) g (f5++zqc z (dg3 p)) f1 W) from by have o:=qxx h6.out k.1;have f:=o.cap;have j:=f.2;simp only[maxLen] at j;have:=ql3 HH.out (by omega) HG.out T (c:=c2) (a:=z) (b:=dg3 p) o.reads (fun x hx=>h.out.bytes x (by rw[h.out.whole];unfold zfz;simp[hx])) (by have:=HP.out.2;omega) f.1 (by omega) (z1a p) (by rw[k5.out];decide);rw[E3.out,ES.out] at this;exact this)
 go_wp2_with fail
 refine zav (KeepB w) [(true,0),(true,1),(true,2),(true,3),(true,5),(false,4),(false,6),(false,7),(true,8),(true,9),(true,10),(true,11),(true,12),(true,13),(true,14),(true,15),(true,16),(true,17),(true,18),(true,19),(true,20),(true,21),(true,22),(false,23),(true,24),(true,25),(true,26),(true,27),(false,28),(true,29),(true,30),(true,31),(true,32)]
  (KeepB.refl w) KeepB.trans (by kernel_rfl) (by kernel_rfl) (by kernel_rfl) (by kernel_rfl) ?_
 have FA:=qwk (fun(W:World) (k:KeepB w G W)=>k.1.blk g7.out (by decide) (by decide));have FS:=qwk (fun(W:World) (k:KeepB w G W)=>k.1.blk U.out (by decide) (by decide));have FG:=qwk (fun(W:World) (k:KeepB w G W)=>k.1.blk k2.out (by decide) (by decide));have hT:=qxw b4.out.news (qw6 G);have M:=b4.out.new (qw6 G);obtain⟨u0,o8⟩:∃W,W=G.drew:=⟨_,rfl⟩;rw[<-o8] at hT M⊢;clear o8;iterate 3 (
  refine zas rfl rfl (v:=?_) (fun W P=>?_) ?_;rotate_left
  ·go_simp<;> with_reducible rfl
  simp only[Act.put,qta,qs1,qtb])
 refine zas rfl rfl (v:= .agg ca) (fun W P=>zeg rfl (FA.out W (hT.trans P)) zct rfl Ia.out) ?_;simp only[Act.put,qta,qs1,qtb];iterate 1 (
  refine zas rfl rfl (v:=?_) (fun W P=>?_) ?_;rotate_left
  ·go_simp<;> with_reducible rfl
  simp only[Act.put,qta,qs1,qtb])
 refine za7 rfl rfl (fun K J=>?_);go_simp
 refine J _ _ (qxw M.news (zai _ _)) ?_;clear J;have n1:=zai u0 (.cells #[.int .u8 0,.int .u8 0,.int .u8 0] 5);have m8:=hT.trans (qxw M.news n1);have f8:=M.new n1;refine za7 rfl rfl (fun K J=>?_);go_simp
 refine J _ _ (qxw f8.news (zai _ _)) ?_;clear J;have n2:=zai (u0.alloc (.cells #[.int .u8 0,.int .u8 0,.int .u8 0] 5)) (.cells #[.slice (some ⟨u0.heap.size,0,none⟩) 3 3,.slice (some ⟨b7,0,none⟩) 32 32] 24);have m9:=m8.trans (qxw f8.news n2);have j2:=f8.new n2;have i7:=z7f (hT.1.blk h0.out (by decide) (by decide)) EN.out (HG.out.new M.news).1;rw[EA.out] at i7;refine za7 rfl rfl (fun K J=>?_);go_simp
 (with_reducible refine i7.mono ?_)
 rintro e u3 ⟨rfl,n3⟩;have kb:=qxw j2.news n3;refine J _ _ kb ?_;clear J;replace hT:=m9.trans kb;replace M:=j2.new n3;clear kb n3 m8 m9 f8 j2 n1 n2 i7;refine zas rfl rfl (v:= .bool true) (fun W P=>z1r rfl rfl DK.out (q8.out W)) ?_;simp only[Act.put,qta,qs1,qtb];iterate 10 (
  refine zas rfl rfl (v:=?_) (fun W P=>?_) ?_;rotate_left
  ·go_simp<;> with_reducible rfl
  simp only[Act.put,qta,qs1,qtb])
 refine zas rfl rfl (v:= .agg cs) (fun W P=>zeg rfl (FS.out W (hT.trans P)) zct rfl Is.out) ?_;simp only[Act.put,qta,qs1,qtb];iterate 2 (
  refine zas rfl rfl (v:=?_) (fun W P=>?_) ?_;rotate_left
  ·go_simp<;> with_reducible rfl
  simp only[Act.put,qta,qs1,qtb])
 refine zas rfl rfl (v:= .agg F) (fun W P=>zeg rfl (FG.out W (hT.trans P)) zct rfl I3.out) ?_;simp only[Act.put,qta,qs1,qtb];refine za7 rfl rfl (fun K J=>?_);go_simp
 (with_reducible refine(r7.out _ M hT).mono ?_)
 rintro e u4 ⟨rfl,T4,k4⟩;have kb:=KeepB.log M.news T4.news k4;refine J _ _ kb ?_;clear J;replace hT:=hT.trans kb;replace M:=T4;clear kb k4;refine zas rfl rfl (v:= .bool true) (fun W P=>z1r rfl rfl DK.out (q9.out W)) ?_;simp only[Act.put,qta,qs1,qtb];iterate 3 (
  refine zas rfl rfl (v:=?_) (fun W P=>?_) ?_;rotate_left
  ·go_simp<;> with_reducible rfl
  simp only[Act.put,qta,qs1,qtb])
 obtain⟨V4,p4⟩:=M.log;have s5:GoodF (f5++zqc z (dg3 p)):=qxn r4.out (qdc (fun x hx=>h.out.bytes x (by rw[h.out.whole];unfold zfz;simp[hx])) (by have:=HP.out.2;omega) (z1a p));have o6:(f5++zqc z (dg3 p)).length=8:=by rw[qrp,k5.out];rfl
 have FR:=zza p4 (by rw[o6];decide) (fun q hq=>by have:=(s5 q hq).2;omega);refine za7 rfl rfl (fun K J=>?_);go_simp
 (with_reducible refine FR.mono ?_)
 rintro e u5 ⟨A5,c5,D5,rfl,o5,-,-,n5⟩;have kb:=qxw M.news n5;refine J _ _ kb ?_;clear J;replace M:=M.new n5;clear kb n5 FR p4 hT o5;generalize f5++zqc z (dg3 p)=f6 at*;rw[o6];iterate 4 (
  refine zas rfl rfl (v:=?_) (fun W P=>?_) ?_;rotate_left
  ·go_simp<;> with_reducible rfl
  simp only[Act.put,qta,qs1,qtb])
 refine zdr ?_;have BE:=qwk M.news;go_wp2
 go_ret
 exact⟨rfl,BE.out⟩
open Go.RowKit Go.Hm
theorem zr2{w:World}{Ac:Option Addr}{cc:Nat}{L:List za2}{r:Int}{Ad:Option Addr}{cd:Nat}{D:List zdw}{g p:Int}{Ae:Option Addr}{ce:Nat}{E:List Int}
 {o:Option Addr}{j:Nat}{Q:List za2}{r2:Int}{q:Option Addr}{k:Nat}{B:List zdw}{g2 p2:Int}{s:Option Addr}{H:Nat}{t:List Int}
 (h:TabIn w Ac cc L Ad D)(hf:∀d∈D,∀y∈d.2.2,CellFine y)(he:Reads w w.heap.size 1 Ae E.length (za5 .i64 E))(f0:E.length<=4611686018427387903)
 (h2:TabIn w o j Q q B)(f:∀d∈B,∀y∈d.2.2,CellFine y)(d9:Reads w w.heap.size 1 s t.length (za5 .i64 t))(e0:t.length<=4611686018427387903)(hG:GlobIn w):
 Calls Tryz.prog 5 #[.agg #[.slice Ac L.length cc,.int .i64 r,.slice Ad D.length cd],.agg #[.int .i64 g,.int .i64 p,.slice Ae E.length ce],.agg #[.slice o Q.length j,.int .i64 r2,.slice q B.length k],.agg #[.int .i64 g2,.int .i64 p2,.slice s t.length H]] w (zap (.bool true) w):=by
 obtain⟨V1,I⟩:∃W,W=w.alloc (.cells #[.slice Ac L.length cc,.int .i64 r,.slice Ad D.length cd] 56):=⟨_,rfl⟩;obtain⟨V2,J⟩:∃W,W=V1.alloc (.cells #[.int .i64 g,.int .i64 p,.slice Ae E.length ce] 59):=⟨_,rfl⟩;obtain⟨V3,K⟩:∃W,W=V2.alloc (.cells #[.slice o Q.length j,.int .i64 r2,.slice q B.length k] 56):=⟨_,rfl⟩;obtain⟨x,U⟩:∃W,W=V3.alloc (.cells #[.int .i64 g2,.int .i64 p2,.slice s t.length H] 59):=⟨_,rfl⟩;have z1:V1.heap.size=w.heap.size+1:=by rw[I,qww]
 have z2:V2.heap.size=w.heap.size+1+1:=by rw[J,qww,z1]
 have z3:V3.heap.size=w.heap.size+1+1+1:=by rw[K,qww,z2]
 have m1:New w V1:=by rw[I];exact zai _ _
 have m2:New V1 V2:=by rw[J];exact zai _ _
 have m3:New V2 V3:=by rw[K];exact zai _ _
 have m4:New V3 x:=by rw[U];exact zai _ _
 have X1:Blk V1 w.heap.size 56 #[.slice Ac L.length cc,.int .i64 r,.slice Ad D.length cd]:=by rw[I];exact qw1 _ _ _
 have X2:Blk V2 (w.heap.size+1) 59 #[.int .i64 g,.int .i64 p,.slice Ae E.length ce]:=by rw[<-z1,J];exact qw1 _ _ _
 have X3:Blk V3 (w.heap.size+1+1) 56 #[.slice o Q.length j,.int .i64 r2,.slice q B.length k]:=by rw[<-z2,K];exact qw1 _ _ _
 have X4:Blk x (w.heap.size+1+1+1) 59 #[.int .i64 g2,.int .i64 p2,.slice s t.length H]:=by rw[<-z3,U];exact qw1 _ _ _
 have X3:=X3.below m4 X3.lt;have X2:=X2.below (qw5 m3 m4) X2.lt;have X1:=X1.below (qw5 m2 (qw5 m3 m4)) X1.lt;have C:=qw5 m1 (qw5 m2 (qw5 m3 m4));have T:=qwk (fun(W:World) (M:New x W)=>qtc (h.later (qw5 C M)) (h2.later (qw5 C M)));have RE:=qwk (fun(W:World) (M:New x W)=>qtc (qxj he (qw5 C M)) (qxj d9 (qw5 C M)));have F:=qwk (fun(W:World) (M:New x W)=>qtc (zan (X1.below M X1.lt)) (zan (X3.below M X3.lt)));have G:=qwk (fun(W:World) (M:New x W)=>qtc (zan (X2.below M X2.lt)) (zan (X4.below M X4.lt)));have HG:=qwk (hG.new C);have SM:=qwk (z1b x HG.out);have FF:=qwk (fun(hh:IntKind.i64.wrap (zt4 L+zyt D)<=3000) b (hb:zee L r D g p E=(0,b))=>z35 h hf hh hb);have u:=qwk (fun(hh:IntKind.i64.wrap (zt4 Q+zyt B)<=3000) b (hb:zee Q r2 B g2 p2 t=(0,b))=>z35 h2 f hh hb);have R:=qwk (qtc hf f);have HW:=qwk (show(((w.alloc (.cells #[.slice Ac L.length cc,.int .i64 r,.slice Ad D.length cd] 56)).alloc (.cells #[.int .i64 g,.int .i64 p,.slice Ae E.length ce] 59)).alloc (.cells #[.slice o Q.length j,.int .i64 r2,.slice q B.length k] 56)).alloc (.cells #[.int .i64 g2,.int .i64 p2,.slice s t.length H] 59)=x by rw[U,K,J,I]);replace C:=qwk C;clear h hf he h2 f d9 X1 X2 X3 X4 z1 z2 z3 m1 m2 m3 m4 I J K U hG;go_enter Tryz.func5,Tryz.ntmps5
 go_wp2_with fail
 rw[HW.out];refine SM.out.mono ?_;rintro e w1 ⟨rfl,n1⟩;have P:=qwk (zyv (r:=r) (cd:=cd) (T.out w1 n1).1);obtain⟨⟨x0,x1,x2⟩,Z,y1,y2⟩:=F.out w1 n1;have n1:=qwk n1;clear SM HW;go_wp2_with fail
 refine P.out.mono ?_;rintro e w2 ⟨f1,rfl,Y,b2⟩;have n2:=qwk (qw5 n1.out b2);clear P x0 x1 x2 Z y1 y2 n1 b2;have P:=qwk (zyv (r:=r2) (cd:=k) (T.out w2 n2.out).2);obtain⟨⟨x0,x1,x2⟩,Z,y1,y2⟩:=F.out w2 n2.out;go_wp2_with fail
 refine P.out.mono ?_;rintro e w3 ⟨f2,rfl,f,b3⟩;have n3:=qwk (qw5 n2.out b3);clear P x0 x1 x2 Z y1 y2 n2 b3;go_wp2_with fail
 refine new_any.mono ?_;rintro e w4 ⟨rfl,rfl⟩;go_wp2_with fail
 refine new_any.mono ?_;rintro e w5 ⟨rfl,rfl⟩;have T5:=Tw.made n3.out;have hz:(w3.alloc (.cells #[.slice none 0 0] 86)).heap.size=w3.heap.size+1:=by simp
 rw[hz];obtain⟨w5,e5⟩:∃W,W=(w3.alloc (.cells #[.slice none 0 0] 86)).alloc (.cells #[.slice none 0 0] 86):=⟨_,rfl⟩;rw[<-e5] at T5⊢;have e1:x.heap.size<=w3.heap.size:=n3.out.size;generalize w3.heap.size=lg at*;have B5:=qwk T5.news;have T5:=qwk T5;have c9:=qwk e1;clear n3 hz e5 e1;obtain⟨⟨v0,v1,v2⟩,u0,u1,u2⟩:=G.out w5 B5.out;have m:=qwk (qw5 C.out B5.out);cases f1 with
 |false=>
  clear FF u Y f F T RE R;go_wp2
  go_ret
  exact⟨rfl,m.out⟩
 |true=>
 cases f2 with
 |false=>
  clear FF u Y f F T RE R;go_wp2
  go_ret
  exact⟨rfl,m.out⟩
 |true=>
 have c7:=qwk (Y rfl);have c8:=qwk (f rfl);clear Y f;by_cases h3:80<E.length
 ·have d3:decide ((80:Int)<(E.length:Int))=true:=decide_eq_true (by omega)
  clear FF u F T RE R;go_wp2
  go_ret
  exact⟨rfl,m.out⟩
 have d3:decide ((80:Int)<(E.length:Int))=false:=decide_eq_false (by omega);by_cases h4:80<t.length
 ·have d4:decide ((80:Int)<(t.length:Int))=true:=decide_eq_true (by omega)
  clear FF u F T RE R;go_wp2
  go_ret
  exact⟨rfl,m.out⟩
 have d4:decide ((80:Int)<(t.length:Int))=false:=decide_eq_false (by omega);clear m;have P:=qwk (zks ⟨Ac,cc,L,r,Ad,cd,D,g,p,Ae,ce,E⟩ (T.out w5 B5.out).1 (RE.out w5 B5.out).1 R.out.1 f0);obtain⟨⟨x0,x1,x2⟩,Z,y1,y2⟩:=F.out w5 B5.out;obtain⟨⟨oe,ob⟩,hO⟩:∃X,X=zee L r D g p E:=⟨_,rfl⟩;obtain⟨⟨e8,a⟩,a7⟩:∃X,X=zee Q r2 B g2 p2 t:=⟨_,rfl⟩;simp only at P;rw[<-hO] at P;have FA:=qwk (FF.out c7.out);have FB:=qwk (u.out c8.out);rw[<-hO] at FA;rw[<-a7] at FB;have d0:=qwk a7;clear hO a7 FF u c7 c8 Z y1 y2;go_wp2_with fail
 refine P.out.mono ?_;rintro e w6 ⟨A,n,c,rfl,o6,b6⟩;obtain rfl:n=ob.length:=by have:=o6.len;rw[zaa] at this;exact this
 have O6:=qwk o6;have B6:=qwk (qw5 B5.out b6);have T6:=qwk (T5.out.new b6);clear P v0 v1 v2 x0 x1 x2 u0 u1 u2 d3 d4 T5 o6 b6 B5 h3;have P:=qwk (zks ⟨o,j,Q,r2,q,k,B,g2,p2,s,H,t⟩ (T.out w6 B6.out).2 (RE.out w6 B6.out).2 R.out.2 e0);obtain⟨-,Z,y1,y2⟩:=F.out w6 B6.out;obtain⟨-,u0,u1,u2⟩:=G.out w6 B6.out;simp only at P;rw[<-d0.out] at P;clear h4 d0;go_wp2_with fail
 refine P.out.mono ?_;rintro e w7 ⟨A2,n2,c2,rfl,o7,b7⟩;obtain rfl:n2=a.length:=by have:=o7.len;rw[zaa] at this;exact this
 have O6:=qwk (O6.out.later b7);have O7:=qwk o7;have B7:=qwk (qw5 B6.out b7);have T7:=qwk (T6.out.new b7);clear P Z y1 y2 u0 u1 u2 T6 o7 b7 B6 RE G;have m:=qwk (qw5 C.out B7.out);by_cases h5:oe=0;case neg=>
  have d5:(oe != 0)=true:=by simp[h5]
  clear FA FB T F R h5;go_wp2
  go_ret
  exact⟨rfl,m.out⟩
 subst h5;by_cases h6:e8=0;case neg=>
  have d6:(e8 != 0)=true:=by simp[h6]
  clear FA FB T F R h6;go_wp2
  go_ret
  exact⟨rfl,m.out⟩
 subst h6;obtain⟨a8,al,ar,OA,a5⟩:=FA.out ob rfl;obtain⟨q8,ql,qr,OB,a6⟩:=FB.out a rfl;have TL:=qwk (qc8 a8 q8 (by omega) (by omega) a5 a6);have OT:=qwk (fun(V:ob=a)=>show L=Q/\r=r2/\D.map (·.2.2)=B.map (·.2.2) from by subst V;exact qdt ar qr);have GA:=qwk (zry a8 OA);have GB:=qwk (zry q8 OB);have LA:=qwk (z3x a8 OA);have LB:=qwk (z3x q8 OB);have a9:=O6.out.cap;have b0:=O7.out.cap;have e2:=a9.2;have e3:=b0.2;simp only[maxLen] at e2 e3;have P1:=zyq c9.out (by omega) HG.out T7.out (BIn.own O6.out rfl) a8 OA a9.1 (by omega) (by simp);have d8:=qwk (BIn.own (w:=x) O7.out rfl);have P2:=qwk (fun(W:World) (F:List (List Nat)) (T:Tw x (lg+1) lg W [] F) (hb:BIn x W A2 a)=>zyq (by have:=c9.out;omega) (by omega) HG.out T hb q8 OB b0.1 (by omega) (by simp));obtain⟨ca,ea,ia,za,oa,-⟩:=zg7 (zhf ob);obtain⟨cb,eb,ib,zb,e7,-⟩:=zg7 (zhf a);have EQ:=fun W=>qoz (zhf ob) (zhf a) W
 unfold qob at P1 P2;rw[ea,eb] at EQ;rw[ea,a5,qrr] at P1;simp only[eb,a6,qrr] at P2;generalize zvw ob=da at*;generalize zvw a=db at*;generalize zpp ob=fa at*;generalize zpp a=fb at*;have P1:=qwk P1;have EQ:=qwk EQ;have Ia:=qwk ia;have Za:=qwk za;have Oa:=qwk oa;have Ib:=qwk ib;have Zb:=qwk zb;have Ob:=qwk e7;clear a8 al ar OA a5 q8 ql qr OB a6 FA FB a9 b0 e2 e3 ea eb ia za oa ib zb e7 O6 O7 m R;go_wp2_with fail
 (with_reducible refine P1.out.mono ?_)
 rintro e w8 ⟨rfl,T8,k8⟩;have n9:=zai w8 (.cells ca 35);have T9:=T8.new n9;have BA:=qwk (qw1 w8 tD ca);obtain⟨w9,b5⟩:∃W,W=w8.alloc (.cells ca 35):=⟨_,rfl⟩;rw[<-b5] at T9 BA n9;have d1:=qwk b5;have P2:=qwk (P2.out w9 fa T9.swap (d8.out.keep (k8.trans (qxv n9))));clear P1 T7 T8 k8 n9 T9 b5 d8;go_upto_region 13 with(refine wpList_store_row rfl 35 (.tmp 18) (.tmp 90) rfl w8.heap.size ca rfl rfl _ _ (heap_alloc_new _ _) Ia.out Za.out Oa.out ?_;rw[zbj])
 rw[<-d1.out];clear d1;generalize w8.heap.size=ba at*;go_wp2_with fail
 (with_reducible refine P2.out.mono ?_)
 rintro e O ⟨rfl,d2,e6⟩;have b9:=zai O (.cells cb 35);have v:=d2.swap.new b9;have BB:=qwk (qw1 O tD cb);have l:=qwk ((e6.trans (qxv b9)).blk BA.out (by decide) (by decide));obtain⟨f6,N⟩:∃W,W=O.alloc (.cells cb 35):=⟨_,rfl⟩;rw[<-N] at v BB l;have a2:=qwk N;have v:=qwk v;have a3:=qwk v.out.news;clear P2 d2 e6 b9 N BA;go_upto_region 14 with(refine wpList_store_row rfl 35 (.tmp 20) (.tmp 96) rfl O.heap.size cb rfl rfl _ _ (heap_alloc_new _ _) Ib.out Zb.out Ob.out ?_;rw[zbj])
 rw[<-a2.out];clear a2 Za Zb Oa Ob;generalize O.heap.size=bb at*;obtain⟨V1,V2,l1,l2,ap,n7⟩:=v.out;have EX:=zwe l1 l2 (by have:=LA.out;omega) (by have:=LB.out;omega) GA.out GB.out (HG.out.new n7).1;obtain⟨xo,b8⟩:∃xo,xo=zdf fa fb:=⟨_,rfl⟩;rw[<-b8] at EX;have EX:=qwk EX;have HX:=qwk b8;clear l1 l2 ap n7 v b8;go_wp2_with fail
 refine EX.out.mono ?_;rintro e c0 hx;obtain⟨A3,n3,c3,A4,n4,c4,rfl,-,-,-,-,S⟩:=hx;have i:=qwk (qw5 a3.out S);have a0:=qwk (l.out.below S l.out.lt);have a1:=qwk (BB.out.below S BB.out.lt);obtain⟨fo,b4⟩:∃fo,fo=xo.isSome:=⟨_,rfl⟩;rw[<-b4];have a4:=qwk b4;clear EX l BB S b4;have c5:=EQ.out;have c6:=fun W=>zzf (EQ.out W)
 by_cases hd:da=db;case neg=>
  rw[decide_eq_false hd] at c5 c6;have m:=qwk (qw5 C.out i.out);clear TL OT GA GB LA LB HX a4 T F hd a3 i;go_wp2_with (first
   |(refine zg8 rfl (.tmp 18) rfl ba ca rfl a0.out Ia.out ?_)
   |(refine zg8 rfl (.tmp 20) rfl bb cb rfl a1.out Ib.out ?_))
  go_ret
  exact⟨rfl,m.out⟩
 rw[decide_eq_true hd] at c5 c6;have HD:=qwk hd;have P:=qwk (qig (k1:=cd) (k2:=k) (c1:=cc) (c2:=j) (r1:=r) (r2:=r2) (T.out c0 i.out).1 (T.out c0 i.out).2);obtain⟨⟨x0,x1,x2⟩,Z,y1,y2⟩:=F.out c0 i.out;clear hd T F;go_wp2_with (first
  |(refine zg8 rfl (.tmp 18) rfl ba ca rfl a0.out Ia.out ?_)
  |(refine zg8 rfl (.tmp 20) rfl bb cb rfl a1.out Ib.out ?_))
 refine P.out.mono ?_;rintro e f7 ⟨sb,rfl,e4,d7⟩;have m:=qwk (qw5 C.out (qw5 i.out d7));have e9:sb=true\/fo=true:=by
  by_cases V:ob=a
  ·exact Or.inl (e4 (OT.out V))
  ·obtain⟨p,hp,p2,f4,f3,f5⟩:=TL.out HD.out V
   obtain⟨z,hz⟩:=zuc hp f4 f3 f5;right;rw[a4.out,HX.out,hz];rfl
 clear P x0 x1 x2 Z y1 y2 d7 e4 OT TL HD HX a4 GA GB LA LB i a3;rcases e9 with rfl|rfl
 ·cases fo
  all_goals(go_wp2;go_ret;exact⟨rfl,m.out⟩)
 ·cases sb
  all_goals(go_wp2;go_ret;exact⟨rfl,m.out⟩)
open Go.WideShapes Go.ChangeShapes in
theorem zlt{H:Type}{enc:TypeId × Value->H}(W:World)(base:Nat)(args:Array Value)(m:List (DataW H))(o:List MemPlace)
 (a:∀(j:Nat) t v,Tryz.f5.params[j]? =some t->args[j]? =some v->Value.okWide Tryz.prog W .any base t v)
 (n:DataW.TrodAll enc Tryz.prog W 0 (fun _=>true) true Tryz.f5.params.toList args.toList m o)(d:∀p∈o,p.block<W.heap.size)
 (b:(DataW.weightsEach Tryz.prog Tryz.f5.params.toList m).all (· <=reachBytes)=true)(C:laidMetH Tryz.prog zze W):
 Calls Tryz.prog 5 args W fun e W'=>e= .returned (.bool true)/\Below W.heap.size W W':=by
 rw[Tryz.params5] at n a b;obtain⟨v0,v1,v2,v3,T,U,V,X,p0,p1,J,p3,rfl,rfl,rfl,x,y,z,B⟩:=trodAll_four n;obtain⟨M,R,L,r,N,S,D,rfl,E,_,hF⟩:=qcg (a 0 _ _ rfl rfl) x (fun p f=>d p (by simp[f])) (zo5 b (j:=0) rfl rfl);obtain⟨g,p,A,c,l,rfl,Z,hm,I⟩:=qdd (a 1 _ _ rfl rfl) y (fun p f=>d p (by simp[f])) (zo5 b (j:=1) rfl rfl);obtain⟨q,u,P,r2,s,w,O,rfl,i,_,h⟩:=qcg (a 2 _ _ rfl rfl) z (fun p f=>d p (by simp[f])) (zo5 b (j:=2) rfl rfl);obtain⟨Y,J,K,Q,l2,rfl,F,G,k⟩:=qdd (a 3 _ _ rfl rfl) B (fun p f=>d p (by simp[f])) (zo5 b (j:=3) rfl rfl);exact zr2 E hF I (by omega) i h k (by omega) (zys C)
end Go.Proofs.Y
