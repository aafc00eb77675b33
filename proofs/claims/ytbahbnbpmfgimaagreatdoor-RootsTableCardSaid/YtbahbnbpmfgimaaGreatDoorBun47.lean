import Derived.Test.YtbahbnbpmfgimaaGreatDoorBun44
import Derived.Test.YtbahbnbpmfgimaaGreatDoorBun46
set_option maxHeartbeats 2000000
set_option maxRecDepth 100000
namespace Go.Proofs.Y
open Go.RowKit Go.Hm
theorem z65{t:Int}{l:List zab}(h:∀y∈l,CellFine y)(g:l.length<=65536):(CellFine (zm5 t l).2.2.1/\CellFine (zm5 t l).2.2.2)/\ -9223372036854775808<=(zm5 t l).1/\(zm5 t l).1<=9223372036854775807:=by
 have a:=zko t l;have b:CellFine zbb:=by unfold CellFine zbb;simp
 refine⟨?_,?_⟩
 ·cases hb:(zm5 t l).2.1 with
  |true=>exact⟨h _ (a.least hb).1.1,h _ (a.most hb).1.1⟩
  |false=>
   obtain⟨c,d⟩:=a.none hb;rw[c,d];exact⟨b,b⟩
 ·have e:=a.nulls
  have f:=zjo l;omega
theorem qlx{w:World}{T:WrT}(h:TabIn w T.Ac T.cc T.L T.Ad T.D)(u:Reads w w.heap.size 1 T.Ae T.E.length (za5 .i64 T.E))(v:∀d∈T.D,∀y∈d.2.2,CellFine y)(a:ze1 T.L T.r T.D=0)(g:zdg T.gr T.pr T.E T.L=0):WrIn w T:=by
 obtain⟨f,i,j,l,m⟩:=zm6 a;have b:(1<=T.gr/\T.gr<=65536/\1<=T.pr/\T.pr<=65536)/\T.E.length=T.L.length:=by
  unfold zdg at g;split at g
  ·omega
  ·rename_i e
   have e:=qvx.1 e;obtain⟨n,o,p,r,s⟩:=e;exact⟨⟨n,o,p,r⟩,s⟩
 have x:zi1 T.D T.L=true:=by
  unfold ze1 at a;split at a
  ·rename_i q;exact absurd a q
  ·split at a
   ·rename_i q;exact absurd a q
   ·split at a
    ·assumption
    ·omega
 refine⟨h,u,f,b.2,l,⟨i,j⟩,m,fun c t y z=>?_,v,⟨⟨b.1.1,b.1.2.1⟩,b.1.2.2⟩⟩;have:=zlp f x (k:=c) (by omega);exact qs9.1 this y z
theorem zvo(w:World)(e:TypeId)(a:Nat × Nat)(cs:Array Value)(n:Nat)(xs:List Value)(h:cs.toList=xs)(b:n=xs.length):Reads (w.alloc (.cells cs e a)) (w.alloc (.cells cs e a)).heap.size 1 (some ⟨w.heap.size,0,none⟩) n xs:=by subst b;refine⟨by simp,fun _=>⟨_,rfl,by simp,?_⟩⟩;have:=qwe (heap_alloc_new w (.cells cs e a));rwa[h] at this
theorem zyk{w:World}{e:TypeId}{cs:List Value}(a:cs.length<=1000):Go.Hm.Own (w.alloc (.cells cs.toArray e)) w.heap.size e (.slice (some ⟨w.heap.size,0,none⟩) cs.length cs.length) cs:=
 ⟨by simp,.inr ⟨w.heap.size,cs.length,cs.toArray,rfl,qq0 _,heap_alloc_new w _,qq0 _,by simp only[maxLen];omega,by simp,by rw[qru (by simp)]⟩⟩
theorem qpk:ElT Tryz.prog 77 114 (.agg #[.int .i64 0,.slice none 0 0]) 2 32:=⟨by kernel_rfl,by kernel_rfl,rfl,by omega⟩
theorem qcu{T:WrT}{c:Nat}{s:Int × Int}{y:zab}(h:y∈zak T.dat c s):∃d∈T.D,y∈d.2.2:=by
 unfold zak at h;have h:=qte (qro h);by_cases a:c<T.D.length
 ·unfold WrT.dat at h
  rw[zbm (fun d:zdw=>d.2.2) T.D dZ [] a] at h;exact⟨_,zah dZ a,h⟩
 ·unfold WrT.dat at h
  rw[qsh,qsq (by rw[qtl];omega)] at h;cases h
theorem qcv{w:World}{T:WrT}(h:WrIn w T)(c:Nat)(s:Int × Int):PageFine (zcw T.L T.E T.dat c s):=by
 have g:∀y∈zak T.dat c s,CellFine y:=fun y a=>by obtain⟨d,i,b⟩:=qcu a;exact h.data d i y b
 have j:(zak T.dat c s).length<=65536:=by
  unfold zak;rw[qqx,qqw];have:(T.dat.getD c []).length<=65536:=by
   by_cases f:c<T.D.length
   ·unfold WrT.dat
    rw[zbm (fun d:zdw=>d.2.2) T.D dZ [] f];have l:=h.all _ (zah dZ f);have m:=h.rows;omega
   ·unfold WrT.dat
    rw[qsh,qsq (by rw[qtl];omega)];simp
  omega
 have n:=zvh (t:=(T.L.getD c zeo).2.1) (nu:=(T.L.getD c zeo).2.2) (e:=T.E.getD c 0) (fun y a=>zkb (g y a)) (show pgE _ _ _ (zak T.dat c s)=((zg1 T.L T.E T.dat c s).1,(zg1 T.L T.E T.dat c s).2) from rfl);have k:=z65 (t:=(T.L.getD c zeo).2.1) g j;refine⟨k,?_,?_⟩
 ·unfold zcw
  dsimp only;omega
 ·unfold zcw
  dsimp only;omega
theorem zks{w:World}(T:WrT)(h:TabIn w T.Ac T.cc T.L T.Ad T.D)(he:Reads w w.heap.size 1 T.Ae T.E.length (za5 .i64 T.E))(hf:∀d∈T.D,∀y∈d.2.2,CellFine y)(l9:T.E.length<=4611686018427387903):
 Calls Tryz.prog 27 #[.agg #[.slice T.Ac T.L.length T.cc,.int .i64 T.r,.slice T.Ad T.D.length T.cd],.agg #[.int .i64 T.gr,.int .i64 T.pr,.slice T.Ae T.E.length T.ce]] w (zkn (zee T.L T.r T.D T.gr T.pr T.E) w):=by
 obtain⟨X,hX⟩:∃X,X=zee T.L T.r T.D T.gr T.pr T.E:=⟨_,rfl⟩;rw[<-hX];unfold zee at hX;obtain⟨w1,a6⟩:∃w1,w1=(w.alloc (.cells #[.slice T.Ac T.L.length T.cc,.int .i64 T.r,.slice T.Ad T.D.length T.cd] 56)).alloc (.cells #[.int .i64 T.gr,.int .i64 T.pr,.slice T.Ae T.E.length T.ce] 59):=⟨_,rfl⟩;have n1:New w w1:=by rw[a6];exact((qwd _ _).alloc (qq0 _) _).alloc (by simp) _
 have BT:Blk w1 w.heap.size 56 #[.slice T.Ac T.L.length T.cc,.int .i64 T.r,.slice T.Ad T.D.length T.cd]:=by rw[a6];exact(qw1 _ _ _).alloc _
 have BC:Blk w1 (w.heap.size+1) 59 #[.int .i64 T.gr,.int .i64 T.pr,.slice T.Ae T.E.length T.ce]:=by rw[a6];have:=qw1 (w.alloc (.cells #[.slice T.Ac T.L.length T.cc,.int .i64 T.r,.slice T.Ad T.D.length T.cd] 56)) 59 #[.int .i64 T.gr,.int .i64 T.pr,.slice T.Ae T.E.length T.ce];rwa[qww] at this
 have v:=h.later n1;have i1:=qwk (qb8 (cc:=T.cc) (r:=T.r) (cd:=T.cd) v.cols v.fine v.cap v.few v.data v.few2 v.within);have f6:=qwk (fun(W:World) (hW:New w W)=>z5p (g:=T.gr) (p:=T.pr) (c:=T.ce) (c2:=T.cc) (qxj he hW) ((h.later hW).cols) l9);have g4:=qwk (fun h1 h2=>qlx h he hf h1 h2);generalize g5:ze1 T.L T.r T.D=K1 at*;generalize g6:zdg T.gr T.pr T.E T.L=K2 at*;have K:=qwk hX;have HT:=qwk (qtc h hf);obtain⟨M,N,O⟩:=zan BT;obtain⟨y0,y1,y2⟩:=zan BC;have j8:=qwk a6;rw[a6] at M N O y0 y1 y2;clear hX h he hf l9 v a6;go_enter Tryz.func27,Tryz.ntmps27
 go_wp2_with fail
 rw[<-j8.out];refine i1.out.mono ?_;rintro e w2 ⟨rfl,b2⟩;clear i1 M N O y0 y1 y2;have n2:=qw5 n1 b2;have c8:=BT.below b2 BT.lt;have c4:=BC.below b2 BC.lt;obtain⟨M,N,O⟩:=zan c8;obtain⟨y0,y1,y2⟩:=zan c4;clear BT BC b2 n1 j8;by_cases d7:K1=0
 ·subst d7
  have C2:=qwk (f6.out w2 n2);go_wp2_with fail
  refine C2.out.mono ?_;rintro e w3 ⟨rfl,b3⟩;clear C2 f6 M N O y0 y1 y2;have n3:=qw5 n2 b3;have d0:=c8.below b3 c8.lt;have a7:=c4.below b3 c4.lt;obtain⟨M,N,O⟩:=zan d0;obtain⟨y0,y1,y2⟩:=zan a7;clear c8 c4 b3 n2;by_cases d8:K2=0
  ·subst d8
   have n:=K.out;rw[if_neg (by simp),if_neg (by simp)] at n;have WI:=g4.out trivial rfl;have K:=qwk n;have p6:=WI.few;have hr:=WI.rows;have q5:=WI.conf.1;have a2:=qwk WI;have LC:=qwk (fun(W:World)=>z2z 0 T.r T.gr (by omega) (by omega) (by omega) W);have p0:=zml 0 T.r T.gr;have e7:Hid (∀q,q<(zbl 0 T.r T.gr).length-> ∃x y:Nat,(zbl 0 T.r T.gr).getD q (0,0)=((x:Int),(y:Int))/\x<=y/\(y:Int)<=T.r):=qwk (fun q U=>by
    unfold zbl at U⊢;split at U
    ·simp at U
    ·rename_i hc
     rw[if_neg hc];rw[zgh] at U;rw[zqz U];have q6:=(zhc (show 0<T.gr.toNat by omega) q).1 U;refine⟨_,_,rfl,?_,?_⟩
     ·rw[qsv]
      omega
     ·omega)
   unfold zb7 at n;obtain⟨z,h3⟩:∃z,z=zbl 0 T.r T.gr:=⟨_,rfl⟩;rw[<-h3] at LC p0 e7 n;have K:=qwk n;have q0:=qwk h3;clear n WI h3 g5 g6;go_upto_region 8 with fail
   have b8:New w3 (w3.alloc (.cells (wrC T (.slice none 0 0) 0) 107)):=(qwd _ _).alloc (qq0 _) _;have a0:=qw1 w3 107 (wrC T (.slice none 0 0) 0);obtain⟨w4,e3⟩:∃w4,w4=w3.alloc (.cells (wrC T (.slice none 0 0) 0) 107):=⟨_,rfl⟩;rw[<-e3] at b8 a0;unfold wrC at e3;rw[<-e3];have n4:=qw5 n3 b8;have d1:=d0.below b8 d0.lt;have c5:=a7.below b8 a7.lt;obtain⟨gw,m2⟩:∃gw,gw=w3.heap.size:=⟨_,rfl⟩;rw[<-m2] at a0⊢;have J:w.heap.size+1<gw:=by have:=a7.lt;omega
   clear e3 M N O y0 y1 y2 d0 a7 n3 b8 m2;obtain⟨M,N,O⟩:=zan d1;obtain⟨y0,y1,y2⟩:=zan c5;go_upto_region 9 with fail
   have a3:New w4 (w4.alloc (.cells #[.slice T.Ac T.L.length T.cc,.int .i64 T.r,.slice none 0 0] 79)):=(qwd _ _).alloc (qq0 _) _;have a9:=qw1 w4 79 #[.slice T.Ac T.L.length T.cc,.int .i64 T.r,.slice none 0 0];obtain⟨w5,m5⟩:∃w5,w5=w4.alloc (.cells #[.slice T.Ac T.L.length T.cc,.int .i64 T.r,.slice none 0 0] 79):=⟨_,rfl⟩;rw[<-m5] at a3 a9⊢;have n5:=qw5 n4 a3;have h7:=d1.below a3 d1.lt;have h5:=c5.below a3 c5.lt;have h8:=a0.below a3 a0.lt;obtain⟨gf,m1⟩:∃gf,gf=w4.heap.size:=⟨_,rfl⟩;rw[<-m1] at a9⊢;have a5:gw<gf:=by have:=a0.lt;omega
   clear m5 M N O y0 y1 y2 d1 c5 a0 n4 a3 m1;obtain⟨M,N,O⟩:=zan h7;obtain⟨y0,y1,y2⟩:=zan h5;have Q:=qwk a9;have b4:=qwk h8;have j0:=qwk n5;have i8:=qwk (qtc J (qtc a5 a9.lt));clear a9 h8 n5 J a5;go_wp2_with fail
   refine(LC.out w5).mono ?_;rintro e w6 ⟨As,ns,cs,rfl,oS,b6⟩;obtain rfl:ns=z.length:=by have:=oS.1;rw[zg6] at this;omega
   clear M N O y0 y1 y2 h7 h5 LC;have B5:=Q.out.lt;have h6:=Q.out.below b6 Q.out.lt;have h9:=b4.out.below b6 b4.out.lt;have j1:=qwk (qw5 j0.out b6);have d6:=qwk (show gf<w5.heap.size/\w5.heap.size<=w6.heap.size from qtc B5 b6.size);obtain⟨B,k9⟩:∃B,B=w5.heap.size:=⟨_,rfl⟩;rw[<-k9] at oS d6;have d4:WrOf w6 B gw T (.slice none 0 0) [] 0:=⟨h9,none,0,[],rfl,zd8,rfl,fun d hd=>(by cases hd)⟩;have d4:=qwk d4;have i7:=qwk h6;have j6:=qwk oS;clear k9 B5 h6 h9 Q b4 j0 b6 oS;go_wp2_with fail
   go_loopw [44] (fun i wr=>∃(k:Nat) (V:Value) (x:List (List Nat) × Int) (Ag:Option Addr) (dg:Nat) (G:List GrD),k<=z.length/\i= .int .i64 (k:Int)/\Hid (WrOf wr B gw T V x.1 x.2)/\Hid (z3c T.L T.E T.dat T.pr (z.take k)=some x)/\Hid (Blk wr gf 79 #[.slice T.Ac T.L.length T.cc,.int .i64 T.r,.slice Ag G.length dg])/\Hid (GrOwn wr B Ag dg G)/\Hid (G.map grP=(z.take k).map (zdb T.L T.E T.dat T.pr))/\Hid (wr.ownsRow B 111 2 (.slice As z.length cs) z.length (zdy z))/\Hid (New w wr)/\B<=wr.heap.size) (fun i _=>z.length-(intOf i).toNat)
   case atStart=>exact⟨0,.slice none 0 0,([],0),none,0,[],qq1 _,rfl,d4,qwk rfl,i7,qwk ⟨zd8,fun g hg=>(by cases hg)⟩,qwk rfl,j6,j1,d6.out.2⟩
   case round=>
    clear d4 i7 j6 j1;obtain⟨k,V,x,Ag,dg,G,hk,rfl,HW,HS,HF,HG,a1,d3,HN,l0⟩:=hrel;by_cases e0:k<z.length
    ·obtain⟨xF,xz⟩:=x
     obtain⟨Z,xb,Y,m4,f2⟩:=e7.out k e0;obtain⟨q2,rfl,o4,s0,s1⟩:=(qwz d3.out).pair2 e0;rw[Y] at s0 s1;dsimp only at s0 s1;have g8:=z02 (L:=T.L) (E:=T.E) (D:=T.dat) (pr:=T.pr) (z.take k);rw[HS.out] at g8;have h0:= @qcb T.L T.E T.dat T.pr z k e0;rw[HS.out,Y] at h0;have v:New wr (wr.alloc (.cells #[.int .i64 (Z:Int),.int .i64 (xb:Int)] 111)):=(qwd _ _).alloc (qq0 _) _;have BX:=qw1 wr 111 #[.int .i64 (Z:Int),.int .i64 (xb:Int)];obtain⟨o5,o6,o7⟩:=i8.out;have p1:=v.size;have GC:=z64 (a:=Z) (b:=xb) a2.out (qw5 HN.out v) (HW.out.new v) (by have:=d6.out;omega) (by omega) (by omega) m4 f2 g8;unfold qct at GC;rw[<-h0] at GC;have g1:=qwk (show(z.take (k+1)).map (zdb T.L T.E T.dat T.pr)=(z.take k).map (zdb T.L T.E T.dat T.pr)++[zdb T.L T.E T.dat T.pr ((Z:Int),(xb:Int))] by rw[zac _ k (0,0) e0,que,Y];rfl)
     have J:=congrArg List.length a1.out;rw[qtl,qtl,qqx] at J;have q3:G.length<=65536:=by omega
     generalize l7:z3c T.L T.E T.dat T.pr (z.take (k+1))=S2 at*;have g2:=qwk l7;have GC:=qwk GC;have f8:=qwk (HF.out.below v HF.out.lt);have b5:=qwk (HG.out.later v);have g3:=qwk (zba d3.out v);have i5:=qwk (show w.heap.size<=B/\gf<B by have:=d6.out;omega);obtain⟨y0,y1⟩:=zb3 BX;clear Y m4 f2 o4 g8 h0 l7 o5 o6 o7 HF HG d3 BX J v HW HN;go_wp2_with fail
     refine GC.out.mono ?_;intro e m U;clear GC s0 s1 y0 y1;cases S2 with
     |none=>
      obtain⟨rfl,n7⟩:=U;have n:=K.out;rw[z6x (k+1) g2.out] at n;have N7:=qwk n7;clear K g2 g1 a1 f8 b5 g3 HS a2 n7;subst n;go_wp2_with fail
      try rw[qwx]
      go_ret2
      exact⟨none,0,0,rfl,qw0,qw5 N7.out ((qwd _ _).alloc (qq0 _) _)⟩
     |some y=>
      obtain⟨A,D,rfl,l4,l1,⟨V',e4⟩,k7,n7⟩:=U;have f4:=k7.2 _ _ _ (by decide) (by decide) f8.out;have i4:GrOwn m B Ag dg G:=⟨k7.own b5.out.row (by decide) (by decide),fun x n=>⟨k7.own (b5.out.chunks x n).row (by decide) (by decide),fun y hy=>k7.own ((b5.out.chunks x n).pages y hy) (by decide) (by decide)⟩⟩;have j7:=k7.own g3.out (by decide) (by decide);have i2:=l1.base (show B<=(wr.alloc (.cells #[.int .i64 (Z:Int),.int .i64 (xb:Int)] 111)).heap.size by omega);have C:New m (m.alloc (.cells #[.int .i64 ((xb:Int)-(Z:Int)),.slice A D.length D.length] 114)):=(qwd _ _).alloc (qq0 _) _;have f5:=qw1 m 114 #[.int .i64 ((xb:Int)-(Z:Int)),.slice A D.length D.length];obtain⟨w8,h4⟩:∃w8,w8=m.alloc (.cells #[.int .i64 ((xb:Int)-(Z:Int)),.slice A D.length D.length] 114):=⟨_,rfl⟩;rw[<-h4] at C f5;have n6:=qwk h4;have c6:=f4.below C f4.lt;have F:=i4.later C;have d2:=qwk (zba j7 C);have i3:=qwk (i2.later C);have e8:=qwk (e4.new C);have n8:=qw5 n7 C;have o2:B<=w8.heap.size:=by have:=k7.1;have:=C.size;omega
      have i6:=qwk l4;clear f8 b5 g3 l1 k7 l4 e4 n7 f4 i4 j7 i2 C h4 p1 l0;go_upto_region 15 with fail
      rw[<-n6.out];obtain⟨M,N,O⟩:=zan c6;obtain⟨y0,y1⟩:=zb3 f5;have j2:=qwk n8;go_upto_region 16 with(first
       |(at_builtin;refine zd9 qpk rfl (.tmp 57) (.tmp 59) rfl (W:=w) (B:=w.heap.size) (us:=[.int .i64 ((xb:Int)-(Z:Int)),.slice A D.length D.length]) F.row rfl rfl j2.out i5.out.1 o2 rfl (by intro u hu;simp at hu;rcases hu with rfl|rfl<;> rfl) (by omega) (by simp only[maxLen];omega) ?_
         intro A9 c9 w9 _ _ o9 g9 b9 _ _;have c7:=c6.grown g9 (fun e=>zat F.row c6 (by decide) e.symm))
       |(refine zfh rfl 77 (.tmp 61) (.tmp 60) rfl gf 2 (.slice A9 (G.length+1) c9) rfl rfl c7 (by simp) (by kernel_rfl) rfl ?_
         intro f a8 I _;simp only[qta,qs1,qtb] at a8))
      have f1:=i5.out;have c3:(G++[(((xb:Int)-(Z:Int),A,D.length,D):GrD)]).length=G.length+1:=by rw[qrp];rfl
      have e6:GrOwn f B A9 c9 (G++[(((xb:Int)-(Z:Int),A,D.length,D):GrD)]):=by
       refine⟨?_,fun x n=>?_⟩
       ·rw[c3,zbe]
        exact qqi o9 I (.inr (zat o9 c7 (by decide)))
       ·rcases qr5.1 n with n|n
        ·exact((F.chunks x n).row_ F.row g9 (by decide) (by decide)).far I f1.2
        ·obtain rfl:=qr6.1 n
         exact(i3.out.row_ F.row g9 (by decide) (by decide)).far I f1.2
      have j9:=qwk (WrOf.far (WrOf.row e8.out F.row g9 (by decide) (by decide) (by decide)) I c7 (by decide) (by decide) (by decide));have j5:=qwk (qqi (qqi d2.out g9 (zem d2.out F.row (by decide))) I (.inr (fun e=>by have:=(qqj d2.out _ e).1;omega)));have i9:=qwk (zbg b9 I (by have:=i8.out;omega) (qq0 _));have g0:=qwk (show(G++[(((xb:Int)-(Z:Int),A,D.length,D):GrD)]).map grP=(z.take (k+1)).map (zdb T.L T.E T.dat T.pr) by
       rw[que,a1.out,g1.out];congr 1
       show [(((xb:Int)-(Z:Int),D.map (·.2.2)):za6)]=_;rw[i6.out];rfl)
      have k8:B<=f.heap.size:=by have:=g9.size;have:=I.size;omega
      have b1:=qwk a8;have f9:=qwk e6;rw[<-c3] at b1;generalize G++[(((xb:Int)-(Z:Int),A,D.length,D):GrD)]=m9 at*;clear e6 a8 I o9 g9 b9 c7 c6 F i3 d2 e8 j2 n8 i6 g1 a1 c3 M N O y0 y1 f5;go_wp2_with fail
      go_roundw
      case rel=>exact⟨k+1,V',y,A9,c9,m9,by omega,by go_num,j9,g2,b1,f9,g0,j5,i9,k8⟩
      case measure=>simp[intOf];omega
    ·obtain rfl:k=z.length:=by omega
     have e1:=HS.out;have c1:=a1.out;rw[quw] at e1 c1;have n:=K.out;rw[show z3c T.L T.E (T.D.map (·.2.2)) T.pr z=some x from e1] at n;dsimp only at n;have e2:∀g∈G,g.2.2.2.length=T.L.length/\ ∀y∈g.2.2.2,y.2.2.length<=65536/\ ∀p∈y.2.2,PageFine p:=fun g hg=>by
      have hm:grP g∈z.map (zdb T.L T.E T.dat T.pr):=by rw[<-c1];exact qqu.2 ⟨g,hg,rfl⟩
      obtain⟨s,_,hs⟩:=qqu.1 hm;have h2:(zdb T.L T.E T.dat T.pr s).2=g.2.2.2.map (·.2.2):=by rw[hs];rfl
      unfold zdb at h2;dsimp only at h2;refine⟨by have:=congrArg List.length h2;rw[qtl,qtl,qtm] at this;exact this.symm,fun y hy=>?_⟩;have m6:y.2.2∈g.2.2.2.map (·.2.2):=qqu.2 ⟨y,hy,rfl⟩;rw[<-h2] at m6;obtain⟨c,_,hc⟩:=qqu.1 m6;rw[<-hc];refine⟨by rw[qtl];exact zml _ _ _,fun p hp=>?_⟩;obtain⟨q,_,U⟩:=qqu.1 hp;rw[<-U];exact qcv a2.out c q
     have J:=congrArg List.length c1;rw[qtl,qtl] at J;have hT:=HT.out.1.later HN.out;have FI:FootIn wr T.Ac T.cc T.L Ag G:=⟨hT.cols,hT.fine,hT.cap,hT.few,qwz HG.out.row,by omega,fun g hg=>⟨qwz (HG.out.chunks g hg).row,by have:=(e2 g hg).1;omega⟩,fun g hg y hy=>⟨qwz ((HG.out.chunks g hg).pages y hy),by have:=((e2 g hg).2 y hy).1;omega⟩⟩;have FE:=z01 (cc:=T.cc) (r:=T.r) (cg:=dg) FI (fun g hg y hy p hp=>((e2 g hg).2 y hy).2 p hp);have m0:zb0 T.L T.r G=⟨T.L,T.r,z.map (zdb T.L T.E (T.D.map (·.2.2)) T.pr)⟩:=by unfold zb0;rw[c1]
     rw[<-m0] at n;generalize zsj (zb0 T.L T.r G)=oo at*;have K:=qwk n;unfold zmp at FE;have FE:=qwk FE;obtain⟨M,N,O⟩:=zan HF.out;have f3:=z02 (L:=T.L) (E:=T.E) (D:=T.dat) (pr:=T.pr) z x e1;have R:=qwk f3;clear e1 c1 n e2 J hT FI m0 a1 d3 HG HS f3;go_wp2_with fail
     refine FE.out.mono ?_;intro e m U;clear FE M N O;cases oo with
     |none=>
      obtain⟨rfl,b7⟩:=U;have n:=K.out;dsimp only at n;have N7:=qwk (qw5 HN.out b7);clear K R HW HF a2;subst n;go_wp2_with fail
      go_ret2
      exact⟨none,0,0,rfl,qw0,N7.out⟩
     |some j=>
      obtain⟨Ao,no,co,rfl,oo,b7⟩:=U;obtain rfl:no=j.length:=by have:=oo.len;rwa[zaa] at this
      have n:=K.out;dsimp only at n;have N7:=qwk (qw5 HN.out b7);by_cases S:1073741824<j.length
      ·rw[if_pos S] at n
       have o3:(1073741824:Int)<(j.length:Int):=by omega
       clear K R HW HF a2 S;subst n;go_wp2_with fail
       go_ret2
       exact⟨none,0,0,rfl,qw0,N7.out⟩
      ·rw[if_neg S] at n
       have o3:(j.length:Int)<=1073741824:=by omega
       have e4:=HW.out.new b7;obtain⟨b0,Ap,cp,P,rfl,oP,g7,l5⟩:=e4;unfold wrC at b0;have p8:=b0.lt;have l6:=congrArg List.length g7;rw[qtl] at l6;have q4:=R.out;have p7:P.length<=1073741824:=by omega
       have kc:=Lib.run_convert_bytes_const (P:=Tryz.prog) m 24 5 #[.int .u8 72,.int .u8 89,.int .u8 80,.int .u8 79] 4 4 (by kernel_rfl) (by kernel_rfl);have bA:New m ((m.alloc (.cells #[.int .u8 72,.int .u8 89,.int .u8 80,.int .u8 79] 5 (4,5))).alloc (.cells #[.slice (some ⟨m.heap.size,0,none⟩) 4 4] 24)):=((qwd _ _).alloc (qq0 _) _).alloc (by simp) _;have i0:=b0.below bA b0.lt;have OL:Go.Hm.Own ((m.alloc (.cells #[.int .u8 72,.int .u8 89,.int .u8 80,.int .u8 79] 5 (4,5))).alloc (.cells #[.slice (some ⟨m.heap.size,0,none⟩) 4 4] 24)) (m.heap.size+1) 24 (.slice (some ⟨m.heap.size+1,0,none⟩) 1 1) [.slice (some ⟨m.heap.size,0,none⟩) 4 4]:=by have:=zyk (w:=m.alloc (.cells #[.int .u8 72,.int .u8 89,.int .u8 80,.int .u8 79] 5 (4,5))) (e:=24) (cs:=[.slice (some ⟨m.heap.size,0,none⟩) 4 4]) (by simp);simpa[World.size_alloc] using this
       have RH:Reads (m.alloc (.cells #[.int .u8 72,.int .u8 89,.int .u8 80,.int .u8 79] 5 (4,5))) (m.alloc (.cells #[.int .u8 72,.int .u8 89,.int .u8 80,.int .u8 79] 5 (4,5))).heap.size 1 (some ⟨m.heap.size,0,none⟩) 4 (zar .u8 headL_film):=zvo m 5 _ _ 4 _ rfl rfl;have bH:New (m.alloc (.cells #[.int .u8 72,.int .u8 89,.int .u8 80,.int .u8 79] 5 (4,5))) ((m.alloc (.cells #[.int .u8 72,.int .u8 89,.int .u8 80,.int .u8 79] 5 (4,5))).alloc (.cells #[.slice (some ⟨m.heap.size,0,none⟩) 4 4] 24)):=(qwd _ _).alloc (qq0 _) _;have RH:=qxj RH bH;have RP:Reads ((m.alloc (.cells #[.int .u8 72,.int .u8 89,.int .u8 80,.int .u8 79] 5 (4,5))).alloc (.cells #[.slice (some ⟨m.heap.size,0,none⟩) 4 4] 24)) ((m.alloc (.cells #[.int .u8 72,.int .u8 89,.int .u8 80,.int .u8 79] 5 (4,5))).alloc (.cells #[.slice (some ⟨m.heap.size,0,none⟩) 4 4] 24)).heap.size 1 Ap P.length (recs zjb P):=qxj (qwz oP) bA;have j4:=qwk l5;have n0:=qwk g7;have j3:=qwk oo;have RH:=qwk RH;obtain⟨M,N,O,x3,x4,x5,x6,x7⟩:=ze2 i0;have f0:m.heap.size+1<=((m.alloc (.cells #[.int .u8 72,.int .u8 89,.int .u8 80,.int .u8 79] 5 (4,5))).alloc (.cells #[.slice (some ⟨m.heap.size,0,none⟩) 4 4] 24)).heap.size:=by simp
       clear K R HW HF a2 S oo oP g7 l5 b0 l6 i0 b7 l0 bH
       go_upto_region 21 with(at_builtin;refine zic qlw rfl (.tmp 77) (.tmp 81) rfl (W:=m) (B:=m.heap.size) (news:=recs zjb P) OL RP rfl rfl bA (Nat.le_succ _) f0 (qbq P) (by simp only[qu0];omega) (by simp only[qu0,maxLen];omega) ?_
                              intro A9 c9 w9 _ _ o9 g9 b9 _)
       simp only[qu0] at o9⊢;have k0:=qwk (RH.out.grown_far g9 (fun ad k v hk e=>by have m3:some (m.heap.size+1)=some k:=hk;injection m3 with m3;have c0:=qqf v;rw[<-c0] at e;dsimp only at e;omega))
       have d5:=qwk b9;have o9:=qwk o9;have q7:=b9.size;have o8:j.length<4294967296:=by omega
       clear M N O x3 x4 x5 x6 x7 OL RP bA kc f0 g9 b9 RH;go_wp2_with fail
       refine(qkd (l:=[]) j.length (show Reads w9 w9.heap.size 1 none 0 (zar .u8 []) from qwy) (by omega)).mono ?_;rintro e f ⟨o,p2,t,rfl,e5,H⟩;rw[qrr] at e5;obtain rfl:p2=4:=by have:=e5.len;rwa[zaa,za0] at this
       have kc:=Lib.run_convert_bytes_const (P:=Tryz.prog) f 24 5 #[.int .u8 79,.int .u8 80,.int .u8 89,.int .u8 72] 4 4 (by kernel_rfl) (by kernel_rfl);have bT:New f (f.alloc (.cells #[.int .u8 79,.int .u8 80,.int .u8 89,.int .u8 72] 5 (4,5))):=(qwd _ _).alloc (qq0 _) _;have bR:New (f.alloc (.cells #[.int .u8 79,.int .u8 80,.int .u8 89,.int .u8 72] 5 (4,5))) ((f.alloc (.cells #[.int .u8 79,.int .u8 80,.int .u8 89,.int .u8 72] 5 (4,5))).alloc (.cells #[.slice Ao j.length co,.slice o 4 t,.slice (some ⟨f.heap.size,0,none⟩) 4 4] 24)):=(qwd _ _).alloc (qq0 _) _;have bB:New f ((f.alloc (.cells #[.int .u8 79,.int .u8 80,.int .u8 89,.int .u8 72] 5 (4,5))).alloc (.cells #[.slice Ao j.length co,.slice o 4 t,.slice (some ⟨f.heap.size,0,none⟩) 4 4] 24)):=qw5 bT bR;have RT:Reads (f.alloc (.cells #[.int .u8 79,.int .u8 80,.int .u8 89,.int .u8 72] 5 (4,5))) (f.alloc (.cells #[.int .u8 79,.int .u8 80,.int .u8 89,.int .u8 72] 5 (4,5))).heap.size 1 (some ⟨f.heap.size,0,none⟩) 4 (zar .u8 tailL):=zvo f 5 _ _ 4 _ rfl rfl;have RT:=qxj RT bR;have RN:Reads ((f.alloc (.cells #[.int .u8 79,.int .u8 80,.int .u8 89,.int .u8 72] 5 (4,5))).alloc (.cells #[.slice Ao j.length co,.slice o 4 t,.slice (some ⟨f.heap.size,0,none⟩) 4 4] 24)) ((f.alloc (.cells #[.int .u8 79,.int .u8 80,.int .u8 89,.int .u8 72] 5 (4,5))).alloc (.cells #[.slice Ao j.length co,.slice o 4 t,.slice (some ⟨f.heap.size,0,none⟩) 4 4] 24)).heap.size 1 (some ⟨(f.alloc (.cells #[.int .u8 79,.int .u8 80,.int .u8 89,.int .u8 72] 5 (4,5))).heap.size,0,none⟩) 3 [.slice Ao j.length co,.slice o 4 t,.slice (some ⟨f.heap.size,0,none⟩) 4 4]:=zvo (f.alloc (.cells #[.int .u8 79,.int .u8 80,.int .u8 89,.int .u8 72] 5 (4,5))) 24 (0,0) _ 3 _ rfl rfl;rw[show(f.alloc (.cells #[.int .u8 79,.int .u8 80,.int .u8 89,.int .u8 72] 5 (4,5))).heap.size=f.heap.size+1 from qww _ _] at RN;have OB:=(o9.out.later H).later bB;have k6:=qw5 (qw5 d5.out H) bB;have k1:=qwk (qxj (qxj k0.out H) bB);have k4:=qwk RT;have k3:=qwk (fun d hd=>(((j4.out d hd).below d5.out).below H).below bB);have k2:=qwk (((qw3 j3.out).below d5.out).below H |>.below bB);have e9:=qwk ((qw3 e5).below bB);have f7:=qwk (show∀g,Value.ownBlock (.slice A9 (1+P.length) c9)=some g->m.heap.size+1<=g/\g<f.heap.size from fun g e=>by have h1:=qqj (show w9.ownsRow _ _ 1 _ _ _ from o9.out) g e;have h2:=H.size;omega)
       have l8:m.heap.size+1<=((f.alloc (.cells #[.int .u8 79,.int .u8 80,.int .u8 89,.int .u8 72] 5 (4,5))).alloc (.cells #[.slice Ao j.length co,.slice o 4 t,.slice (some ⟨f.heap.size,0,none⟩) 4 4] 24)).heap.size:=by have h1:=H.size;simp;omega
       have d9:([Value.slice (some ⟨m.heap.size,0,none⟩) 4 4]++recs zjb P).length=1+P.length:=by rw[qrp,zxx];rfl
       clear H e5 bT bR RT k0 j3 j4 d5 o9
       go_upto_region 22 with(at_builtin;go_must (refine zic qlw rfl (.tmp 83) (.tmp 91) rfl (W:=m) (B:=m.heap.size) (news:=[.slice Ao j.length co,.slice o 4 t,.slice (some ⟨f.heap.size,0,none⟩) 4 4]) OB RN rfl rfl k6 (Nat.le_succ _) l8 (by intro u hu;simp at hu;rcases hu with rfl|rfl|rfl<;> rfl) (by rw[d9];omega) (by rw[d9];simp only[maxLen];omega) ?_)
                              intro p9 o0 p5 _ _ m7 a4 k5 _)
       have l2:recs zjb ((some ⟨m.heap.size,0,none⟩,4,headL_film)::(P++[(Ao,co,j),(o,t,low j.length 4),(some ⟨f.heap.size,0,none⟩,4,tailL)]))=[Value.slice (some ⟨m.heap.size,0,none⟩) 4 4]++recs zjb P++[.slice Ao j.length co,.slice o 4 t,.slice (some ⟨f.heap.size,0,none⟩) 4 4]:=by simp[recs,zjb,za0,headL_film,tailL]
       have a5:zdh ((some ⟨m.heap.size,0,none⟩,4,headL_film)::(P++[(Ao,co,j),(o,t,low j.length 4),(some ⟨f.heap.size,0,none⟩,4,tailL)]))=zfz x.1.flatten j:=by rw[<-n0.out];show _=zfz (P.map (fun d=>d.2.2)).flatten j;simp[zdh,zfz,List.flatMap_def]
       have l3:∀d∈((some ⟨m.heap.size,0,none⟩,4,headL_film)::(P++[(Ao,co,j),(o,t,low j.length 4),(some ⟨f.heap.size,0,none⟩,4,tailL)]):List zju),BytIn p5 d:=by
        intro d hd;simp only[qsm,qr5,qur,or_false] at hd;rcases hd with rfl|hd|rfl|rfl|rfl
        ·exact k1.out.grown_far a4 (fun ad k v hk e=>by have h1:=f7.out k hk;have c0:=qqf v;rw[<-c0] at e;dsimp only at e;omega)
        ·exact(qxu (k3.out d hd) (show World.ownsRow _ _ _ 1 _ _ _ from OB) a4 (by decide)).1
        ·have:=(qxu k2.out (show World.ownsRow _ _ _ 1 _ _ _ from OB) a4 (by decide)).1
         exact this
        ·have:=(qxu e9.out (show World.ownsRow _ _ _ 1 _ _ _ from OB) a4 (by decide)).1
         unfold BytIn;dsimp only;rwa[za0]
        ·exact k4.out.grown_far a4 (fun ad k v hk e=>by have h1:=f7.out k hk;have c0:=qqf v;rw[<-c0] at e;dsimp only at e;omega)
       have RD:=(qw3 m7).1;rw[show([Value.slice (some ⟨m.heap.size,0,none⟩) 4 4]++recs zjb P).length=(recs zjb P).length+1 from by simp] at RD d9;rw[d9] at RD;rw[<-l2] at RD;have CC:=zgy (c:=o0) RD l3 (by omega) (by rw[a5,zgx];omega);rw[a5] at CC;have CC:=qwk CC;clear k1 k4 k3 k2 e9 f7 OB RN k6 l2 a5 l3 RD a4 m7 kc bB;go_wp2_with fail
       refine CC.out.mono ?_;rintro e q8 ⟨m8,p3,o1,rfl,p4,n9⟩;clear CC;try subst n
       go_wp2_with fail
       go_ret2
       exact⟨m8,p3,o1,rfl,Go.Hm.Own.base_le p4 (by have:=k5.size;have:=N7.out.size;omega),qw5 N7.out (qw5 k5 n9)⟩
  ·have n:=K.out
   rw[if_neg (by simp),if_pos d8] at n;have q1:(K2 != 0)=true:=by simpa using d8
   have N3:=qwk n3;clear K g4 g5 g6 d8 n3 HT;subst n;go_wp2_with fail
   go_ret2
   exact⟨none,0,0,rfl,qw0,N3.out⟩
 ·have n:=K.out
  rw[if_pos d7] at n;have q1:(K1 != 0)=true:=by simpa using d7
  have N2:=qwk n2;clear K g4 g5 g6 d7 n2 HT f6;subst n;go_wp2_with fail
  go_ret2
  exact⟨none,0,0,rfl,qw0,N2.out⟩
structure WrOk(L:List za2)(r:Int)(D:List (List zab))(gr pr:Int):Prop where
 cols:zq6 L
 names:∀c∈L,∀z∈c.1,z<256
 len:D.length=L.length
 rows:0<=r/\r<=65536
 all:∀l∈D,((l.length:Nat):Int)=r
 data:∀l∈D,∀c∈l,zaj c
 conf:(1<=gr/\gr<=65536)/\1<=pr/\pr<=65536
theorem zvp{D:List (List zab)}(h:∀l∈D,∀c∈l,zaj c)(c:Nat)(s:Int × Int):∀y∈zak D c s,zaj y:=by
 intro y a;unfold zak at a;have a:=qte (qro a);by_cases b:c<D.length
 ·exact h _ (zah [] b) y a
 ·rw[qsh,qsq (by omega)] at a
  cases a
theorem z66{t:Int}{l:List zab}(h:∀y∈l,zaj y):statData (zm5 t l):=by
 have a:=zko t l;cases hb:(zm5 t l).2.1 with
 |true=>exact⟨h _ (a.least hb).1.1,h _ (a.most hb).1.1⟩
 |false=>
  obtain⟨c,d⟩:=a.none hb;have b:zaj zbb:=by unfold zaj zbb;simp
  exact⟨by rw[c];exact b,by rw[d];exact b⟩
theorem z67{L:List za2}{r:Int}{E:List Int}{D:List (List zab)}{gr pr:Int}(h:WrOk L r D gr pr):zfg (zb7 L r E D gr pr):=by refine⟨h.names,fun g a l b p d=>?_⟩;obtain⟨s,_,rfl⟩:=qqu.1 a;obtain⟨c,_,rfl⟩:=qqu.1 b;obtain⟨q,_,rfl⟩:=qqu.1 d;exact z66 (zvp h.data c q)
theorem zvq{D b:List (List zab)}(c:b.length=D.length)(d:∀i,i<D.length->b.getD i []=D.getD i []):b=D:=by apply qre c;intro i e a;have:=d i a;rwa[qsh,qsh,qqt e,qqt a] at this
theorem zkt{L:List za2}{r:Int}{D:List (List zab)}{gr pr:Int}(h:WrOk L r D gr pr){i:Nat}(hi:i<L.length):((zbl 0 r gr).map fun s=>((zbl s.1 s.2 pr).map (zak D i)).flatten).flatten=D.getD i []:=by
 obtain⟨n,rfl⟩:=qsu h.rows.1;have l:=h.rows.2;have k:=h.all _ (zah [] (show i<D.length by rw[h.len];exact hi));have c:((zbl 0 (n:Int) gr).map fun s=>((zbl s.1 s.2 pr).map (zak D i)).flatten)=(zbl 0 (n:Int) gr).map (zak D i):=by apply qsk;intro s e;obtain⟨a,b,rfl,g,d,j⟩:=zvn (f:=0) e;have:=zrv (D.getD i []) d (by omega) h.conf.2.1;unfold zak;rw[this];dsimp only;rw[qrn,show((b:Int)-(a:Int)).toNat=b-a by omega]
 rw[c];have:=zrv (D.getD i []) (f:=0) (t:=n) (by omega) (by omega) h.conf.1.1;unfold zak;rw[show(0:Int)=((0:Nat):Int) from rfl,this,qu9];exact qru (by omega)
theorem qn5{L:List za2}{r:Int}{E:List Int}{D:List (List zab)}{gr pr:Int}(h:WrOk L r D gr pr)(hF:zbs (zb7 L r E D gr pr))(k:∀s∈zbl 0 r gr,∀c,c<L.length-> ∀q∈zbl s.1 s.2 pr,(zg1 L E D c q).1=0):
 qpf (zb7 L r E D gr pr) (zhm L E D pr (zbl 0 r gr)).flatten.flatten=some D:=by
 have m:ze6 (zb7 L r E D gr pr)=true:=by unfold ze6;simpa using hF
 unfold qpf;rw[if_pos m];obtain⟨d,b,f,g⟩:=qn1 (L:=L) (E:=E) (D:=D) (pr:=pr) (zbl 0 r gr) (List.replicate L.length []) [] (by simp) (fun s n c j q l=>⟨zvp h.data c q,k s n c j q l⟩);rw[qra] at b;have e:qot (zb7 L r E D gr pr) (zhm L E D pr (zbl 0 r gr)).flatten.flatten (zb7 L r E D gr pr).groups.length=some (d,[]):=by unfold qot;rw[quw];exact b
 rw[qhm e,if_pos rfl];congr 1
 refine zvq (by rw[f,h.len]) fun i a=>?_
 rw[h.len] at a;rw[g i a,zkt h a,qsh,qv4,if_pos a];rfl
theorem zn5{L:List za2}{r:Int}{d:List zdw}{gr pr:Int}{E:List Int}{b:List Nat}(h:WrOk L r (d.map (·.2.2)) gr pr)(f:zee L r d gr pr E=(0,b))(C:ze1 L r d=0)(F:zdg gr pr E L=0):
 zbs (zb7 L r E (d.map (·.2.2)) gr pr)/\zfg (zb7 L r E (d.map (·.2.2)) gr pr)/\b=zfz (zhm L E (d.map (·.2.2)) pr (zbl 0 r gr)).flatten.flatten.flatten (zek (zb7 L r E (d.map (·.2.2)) gr pr))/\
 (zek (zb7 L r E (d.map (·.2.2)) gr pr)).length<=1073741824/\openO b=some (zb7 L r E (d.map (·.2.2)) gr pr,zek (zb7 L r E (d.map (·.2.2)) gr pr))/\
 ze9 (zb7 L r E (d.map (·.2.2)) gr pr).groups (b.drop 4)=zhm L E (d.map (·.2.2)) pr (zbl 0 r gr)/\(∀s∈zbl 0 r gr,∀c,c<L.length-> ∀q∈zbl s.1 s.2 pr,(zg1 L E (d.map (·.2.2)) c q).1=0)/\(∀x∈b,x<256)/\b.length<=2147483660:=by
 unfold zee at f;rw[if_neg (by rw[C];simp),if_neg (by rw[F];simp)] at f;generalize N:d.map (·.2.2)=D at*;split at f
 ·cases f
 ·rename_i x y
  split at f
  ·cases f
  ·rename_i K l
   split at f
   ·cases f
   ·rename_i w
    unfold zsj at l;split at l
    ·rename_i hF
     injection l with l;subst l;injection f with _ k;have o:=z02 _ x y;obtain⟨A,B⟩:=zyi (zbl 0 r gr) y;rw[qrr] at A;rw[A] at k o;have i:=z67 (E:=E) h;have v:=z62 hF i;have hcut:=fun R=>qcp (L:=L) (E:=E) (D:=D) (pr:=pr) (zbl 0 r gr) R
     have t:openO b=some (zb7 L r E D gr pr,zek (zb7 L r E D gr pr)):=by rw[<-k];exact ztp hF i (hcut []).2 v (by omega)
     have n:ze9 (zb7 L r E D gr pr).groups (b.drop 4)=zhm L E D pr (zbl 0 r gr):=by
      have e:b.drop 4=(zhm L E D pr (zbl 0 r gr)).flatten.flatten.flatten++(zek (zb7 L r E D gr pr)++(low (zek (zb7 L r E D gr pr)).length 4++tailL)):=by rw[<-k];unfold zfz;exact qtr (show headL_film.length=4 from rfl)
      rw[e];exact(hcut _).1
     have m:∀z∈b,z<256:=by
      rw[<-k];intro z a;unfold zfz at a;rcases qr5.1 a with a|a
      ·simp[headL_film] at a;omega
      rcases qr5.1 a with a|a
      ·obtain⟨p,u,a⟩:=qvh.1 a
       obtain⟨M,j,u⟩:=qvh.1 u;obtain⟨g,H,j⟩:=qvh.1 j;obtain⟨s,J,rfl⟩:=qqu.1 H;obtain⟨c,G,rfl⟩:=qqu.1 j;obtain⟨q,I,rfl⟩:=qqu.1 u;exact qi8 (zvp h.data c q) (show pgE _ _ _ _=(0,pgF L E D c q) from qug (B s J c (qtn.1 G) q I) rfl) z a
      rcases qr5.1 a with a|a
      ·exact v z a
      rcases qr5.1 a with a|a
      ·exact zhp _ _ z a
      ·simp[tailL] at a;omega
     refine⟨hF,i,k.symm,by omega,t,n,B,m,?_⟩;rw[<-k,zgx];omega
    ·cases l
theorem qhs{L:List za2}{r:Int}{a:List zdw}{gr pr:Int}{E:List Int}{b:List Nat}(h:WrOk L r (a.map (·.2.2)) gr pr)(j:zee L r a gr pr E=(0,b))(f:ze1 L r a=0)(g:zdg gr pr E L=0):
 zbs (zb7 L r E (a.map (·.2.2)) gr pr)/\zfg (zb7 L r E (a.map (·.2.2)) gr pr)/\b=zfz (zhm L E (a.map (·.2.2)) pr (zbl 0 r gr)).flatten.flatten.flatten (zek (zb7 L r E (a.map (·.2.2)) gr pr))/\
 (zek (zb7 L r E (a.map (·.2.2)) gr pr)).length<=1073741824/\openO b=some (zb7 L r E (a.map (·.2.2)) gr pr,zek (zb7 L r E (a.map (·.2.2)) gr pr))/\
 ze9 (zb7 L r E (a.map (·.2.2)) gr pr).groups (b.drop 4)=zhm L E (a.map (·.2.2)) pr (zbl 0 r gr)/\qcn b=some (zb7 L r E (a.map (·.2.2)) gr pr,a.map (·.2.2))/\(∀x∈b,x<256)/\b.length<=2147483660:=by
 obtain⟨c,k,l,m,d,e,i,n,o⟩:=zn5 h j f g;refine⟨c,k,l,m,d,e,?_,n,o⟩;unfold qcn;rw[d];dsimp only;unfold zyh;rw[e,qn5 h c i]
section
variable{L:List za2}{E:List Int}{D:List (List zab)}{pr:Int}
theorem qjc{c:Nat}:∀(l:List (Int × Int)) (y:List (List Nat) × Int),(∀q∈l,(zg1 L E D c q).1=0/\(zg1 L E D c q).2.length<=268435456)->y.2+((l.map (pgF L E D c)).flatten.length:Int)<=1073741824-> ∃x,chW L E D c (some y) l=some x/\x.2=y.2+((l.map (pgF L E D c)).flatten.length:Int)
 | [],y,_,_=>⟨y,rfl,by simp⟩
 |q::l,y,h,hz=>by
  have h0:=h q (by simp);rw[qrj,qvg,qrp] at hz;have i:(pgF L E D c q).length=(zg1 L E D c q).2.length:=rfl;have e:chW L E D c (some y) (q::l)=chW L E D c (pgW L E D c (some y) q) l:=rfl;have b:pgW L E D c (some y) q=some (y.1++[(zg1 L E D c q).2],y.2+(zg1 L E D c q).2.length):=by unfold pgW;dsimp only;rw[if_pos ⟨h0.1,h0.2,by omega⟩]
  obtain⟨x,d,f⟩:=qjc l (y.1++[(zg1 L E D c q).2],y.2+(zg1 L E D c q).2.length) (fun g a=>h g (by simp[a])) (by dsimp only;omega);refine⟨x,by rw[e,b,d],?_⟩;rw[f,qrj,qvg,qrp];dsimp only;omega
theorem qjd{s:Int × Int}:∀(k:Nat) (y:List (List Nat) × Int),(∀c,c<k-> ∀q∈zbl s.1 s.2 pr,(zg1 L E D c q).1=0/\(zg1 L E D c q).2.length<=268435456)->y.2+((zkr L E D (zbl s.1 s.2 pr) (List.range k)).flatten.flatten.length:Int)<=1073741824->
 ∃x,gpW L E D pr s (some y) k=some x/\x.2=y.2+((zkr L E D (zbl s.1 s.2 pr) (List.range k)).flatten.flatten.length:Int)
 |0,y,_,_=>⟨y,rfl,by simp[zkr]⟩
 |k+1,y,h,hz=>by
  have e:(zkr L E D (zbl s.1 s.2 pr) (List.range (k+1))).flatten.flatten.length=(zkr L E D (zbl s.1 s.2 pr) (List.range k)).flatten.flatten.length+((zbl s.1 s.2 pr).map (pgF L E D k)).flatten.length:=by rw[quo];simp[zkr]
  obtain⟨x,a,d⟩:=qjd k y (fun c g=>h c (by omega)) (by omega);obtain⟨z,b,f⟩:=qjc (zbl s.1 s.2 pr) x (h k (by omega)) (by omega);exact⟨z,by rw[gpW,a,b],by omega⟩
theorem qcw:∀(l:List (Int × Int)) (y:List (List Nat) × Int),(∀s∈l,∀c,c<L.length-> ∀q∈zbl s.1 s.2 pr,(zg1 L E D c q).1=0/\(zg1 L E D c q).2.length<=268435456)->y.2+((zhm L E D pr l).flatten.flatten.flatten.length:Int)<=1073741824->
 ∃x,l.foldl (grW L E D pr) (some y)=some x
 | [],y,_,_=>⟨y,rfl⟩
 |s::l,y,h,hz=>by
  have e:(zhm L E D pr (s::l)).flatten.flatten.flatten.length=(zkr L E D (zbl s.1 s.2 pr) (List.range L.length)).flatten.flatten.length+(zhm L E D pr l).flatten.flatten.flatten.length:=by simp[zhm]
  obtain⟨x,b,g⟩:=qjd L.length y (h s (by simp)) (by omega);obtain⟨z,d⟩:=qcw l x (fun f a=>h f (by simp[a])) (by omega);exact⟨z,by rw[quv,grW,b,d]⟩
end
theorem zfi{f t:Nat}{s:Int}{q:Int × Int}(h:q∈zbl (f:Int) (t:Int) s):∃a b:Nat,q=((a:Int),(b:Int))/\f<=a/\a<b/\b<=t:=by
 unfold zbl at h;split at h
 ·cases h
 ·rename_i d
  unfold zhb at h;obtain⟨i,c,rfl⟩:=qqu.1 h;rw[qtn] at c;have:=(zhc (f:=(f:Int).toNat) (t:=(t:Int).toNat) (s:=s.toNat) (by omega) i).1 c;refine⟨_,_,rfl,?_,?_,?_⟩
  ·omega
  ·rw[qsv];omega
  ·omega
theorem zyl(l:List zab):∀(S:List (Int × Int)),(∀q∈S,∃a b:Nat,q=((a:Int),(b:Int))/\a<=b/\b<=l.length)->(S.map fun q=>q.2-q.1).sum=(((S.map fun q=>(l.drop q.1.toNat).take (q.2-q.1).toNat).flatten.length:Nat):Int)
 | [],_=>rfl
 |q::S,h=>by
  obtain⟨a,b,rfl,h1,h2⟩:=h _ (List.mem_cons_self);have d:=zyl l S fun q c=>h q (by simp[c])
  rw[qrj,qt7,d,qrj,qvg,qrp,qqx,qqw];dsimp only;omega
theorem z3n{f t:Nat}{s:Int}(h:f<=t)(j:t<=65536)(i:1<=s):((zbl (f:Int) (t:Int) s).map fun q=>q.2-q.1).sum=(t:Int)-(f:Int):=by
 rw[zyl (List.replicate t zku) _ (fun q g=>by obtain⟨a,b,e,_,c,d⟩:=zvn g;exact⟨a,b,e,c,by simpa using d⟩),zrv _ h j i,qqx,qqw,qtd]
 omega
theorem zjy{D:List (List zab)}{c a b:Nat}(d:a<=b)(e:b<=(D.getD c []).length):(zak D c ((a:Int),(b:Int))).length=b-a:=by unfold zak;rw[qqx,qqw];dsimp only;omega
theorem qht{L:List za2}{r:Int}{E:List Int}{D:List (List zab)}{gr pr:Int}(h:WrOk L r D gr pr)(hr:∀c,c<L.length-> ∀y∈D.getD c [],zad y (L.getD c zeo).2.1 (L.getD c zeo).2.2=true)
 (hp:∀s∈zbl 0 r gr,∀c,c<L.length-> ∀q∈zbl s.1 s.2 pr,(zg1 L E D c q).1=0/\(zg1 L E D c q).2.length<=268435456)(j:(zhm L E D pr (zbl 0 r gr)).flatten.flatten.flatten.length<=1073741824):zbs (zb7 L r E D gr pr):=by
 obtain⟨n,rfl⟩:=qsu h.rows.1;have Y:=h.rows.2;have v:∀c,c<L.length->(D.getD c []).length=n:=fun c i=>by have:=h.all _ (zah [] (show c<D.length by rw[h.len];exact i));omega
 have R:∀g∈(zb7 L n E D gr pr).groups,GroupOk L g:=by
  intro g F;obtain⟨s,K,rfl⟩:=qqu.1 F;obtain⟨a,b,rfl,h1,h2,h3⟩:=zfi (f:=0) K;refine⟨by unfold zdb;dsimp only;omega,by unfold zdb;simp,fun c i=>?_⟩;have e:(zdb L E D pr ((a:Int),(b:Int))).2.getD c []=(zbl (a:Int) (b:Int) pr).map (zcw L E D c):=by
   unfold zdb;dsimp only;rw[zbm _ _ 0 [] (by rw[qtm];exact i)];have:(List.range L.length).getD c 0=c:=by rw[qsh,qvv i];rfl
   rw[this]
  rw[e];constructor
  ·intro p H
   obtain⟨q,u,rfl⟩:=qqu.1 H;have J:=hp _ K c i q u;obtain⟨x,y,rfl,M,B,k3⟩:=zfi u;have C:=zjy (D:=D) (c:=c) (show x<=y by omega) (by rw[v c i];omega);obtain⟨_,_,_,_,d,_,U⟩:=zol (show pgE _ _ _ _=(0,(zg1 L E D c ((x:Int),(y:Int))).2) from qug J.1 rfl);have V:1<=(zg1 L E D c ((x:Int),(y:Int))).2.length:=by rw[U,qr1];omega
   have m:=zko (L.getD c zeo).2.1 (zak D c ((x:Int),(y:Int)));have w:∀z∈zak D c ((x:Int),(y:Int)),zad z (L.getD c zeo).2.1 (L.getD c zeo).2.2=true:=fun z j=>hr c i z (by unfold zak at j;exact qte (qro j))
   have A:=h.cols.2.1 _ (zah zeo i);have Z:=m.nulls;have a0:=zjo (zak D c ((x:Int),(y:Int)));refine pageB_most.2 ⟨⟨?_,?_,?_,?_⟩,?_⟩
   ·unfold zcw;dsimp only;omega
   ·unfold zcw;dsimp only;omega
   ·unfold zcw;dsimp only;omega
   ·unfold zcw;dsimp only;omega
   ·have T:=m.right (fun z j=>zn1 (w z j)) ⟨A.2.2.1,A.2.2.2⟩ (by omega)
    unfold zcw;dsimp only;rw[show zcj (L.getD c ([],0,false)).2.1 (zm5 (L.getD c zeo).2.1 (zak D c ((x:Int),(y:Int))))=true from T];simp only[qvu,qsl,decide_eq_true_eq,beq_iff_eq,qs8];refine⟨by omega,?_,?_⟩
    ·cases hb2:(zm5 (L.getD c zeo).2.1 (zak D c ((x:Int),(y:Int)))).2.1 with
     |true=>
      obtain⟨z,j,k⟩:=m.has.1 hb2;have:nullsL (zak D c ((x:Int),(y:Int)))<(zak D c ((x:Int),(y:Int))).length:=by unfold nullsL;exact qwa.2 ⟨z,j,by simpa using k⟩
      rw[eq_comm,decide_eq_true_eq];omega
     |false=>
      rw[eq_comm,decide_eq_false_iff_not];intro X;have:nullsL (zak D c ((x:Int),(y:Int)))<(zak D c ((x:Int),(y:Int))).length:=by omega
      unfold nullsL at this;obtain⟨z,j,k⟩:=qwa.1 this;have:=m.has.2 ⟨z,j,by simpa using k⟩;rw[hb2] at this;cases this
    ·show(L.getD c zeo).2.2=true\/_
     cases hnu:(L.getD c zeo).2.2 with
     |true=>exact .inl rfl
     |false=>
      right;have:nullsL (zak D c ((x:Int),(y:Int)))=0:=by unfold nullsL;rw[qu6,List.filter_eq_nil_iff];intro z j k;have o:=w z j;rw[hnu] at o;unfold zad at o;rw[if_pos k] at o;simp at o
      omega
  ·have O:∀S:List (Int × Int),(∀q∈S,∃x y:Nat,q=((x:Int),(y:Int))/\x<=y/\y<=n)->znt (S.map (zcw L E D c))=(S.map fun q=>q.2-q.1).sum:=by
    intro S;induction S with
    |nil=>intro _;rfl
    |cons q S ih=>
     intro N;obtain⟨x,y,rfl,M,B⟩:=N _ (List.mem_cons_self);have C:=zjy (D:=D) (c:=c) M (by rw[v c i];exact B);rw[qrj,zh2,ih fun q u=>N q (by simp[u]),qrj,qt7];unfold zcw;dsimp only;omega
   rw[O _ (fun q u=>by obtain⟨x,y,e,M,B,k3⟩:=zvn u;exact⟨x,y,e,B,by omega⟩),z3n (by omega) (by omega) h.conf.2.1]
   rfl
 refine⟨h.cols,R,?_,Y,?_⟩
 ·have:=z3n (f:=0) (t:=n) (s:=gr) (by omega) (by omega) h.conf.1.1
  show(((zbl 0 (n:Int) gr).map (zdb L E D pr)).map (·.1)).sum=(n:Int);rw[qsj];have P:((fun x:za6=>x.1) ∘ zdb L E D pr)=fun q:Int × Int=>q.2-q.1:=rfl
  rw[P];simpa using this
 ·have i:=(qcp (L:=L) (E:=E) (D:=D) (pr:=pr) (zbl 0 (n:Int) gr) []).2
  have:=z0k (G:=(zb7 L n E D gr pr).groups) (fun g F l W p I=>by obtain⟨s,K,rfl⟩:=qqu.1 F;obtain⟨c,_,rfl⟩:=qqu.1 W;obtain⟨q,_,rfl⟩:=qqu.1 I;unfold zcw;dsimp only;omega)
  rw[<-this];have Q:(zb7 L n E D gr pr).groups=(zbl 0 (n:Int) gr).map (zdb L E D pr):=rfl;rw[Q,<-i];omega
theorem qhu{L:List za2}{r:Int}{a:List zdw}{gr pr:Int}{E:List Int}(h:WrOk L r (a.map (·.2.2)) gr pr)(f:ze1 L r a=0)(g:zdg gr pr E L=0)(j:∀c,c<L.length-> ∀y∈(a.map (·.2.2)).getD c [],zad y (L.getD c zeo).2.1 (L.getD c zeo).2.2=true)
 (e:∀s∈zbl 0 r gr,∀c,c<L.length-> ∀q∈zbl s.1 s.2 pr,(zg1 L E (a.map (·.2.2)) c q).1=0/\(zg1 L E (a.map (·.2.2)) c q).2.length<=268435456)(k:(zhm L E (a.map (·.2.2)) pr (zbl 0 r gr)).flatten.flatten.flatten.length<=1073741824)
 (l:(zek (zb7 L r E (a.map (·.2.2)) gr pr)).length<=1073741824):∃b,zee L r a gr pr E=(0,b):=by
 have hF:=qht h j e k;obtain⟨x,d⟩:=qcw (zbl 0 r gr) ([],0) e (by dsimp only;omega);unfold zee;rw[if_neg (by rw[f];simp),if_neg (by rw[g];simp)];have d:z3c L E (a.map (·.2.2)) pr (zbl 0 r gr)=some x:=d;rw[d];dsimp only;have i:zsj (zb7 L r E (a.map (·.2.2)) gr pr)=some (zek (zb7 L r E (a.map (·.2.2)) gr pr)):=by unfold zsj;rw[if_pos hF]
 rw[i];dsimp only;rw[if_neg (by omega)];exact⟨_,rfl⟩
theorem z68{t:Int}{K m:Nat}{l:List za3}(h:∀p∈l,(zfj t p).length<=K)(hm:l.length<=m)(g:m<=65536):(zf4 t l).length<=10+m*K:=by
 have a:∀l:List za3,(∀p∈l,(zfj t p).length<=K)->(l.flatMap (zfj t)).length<=l.length*K:=by
  intro l;induction l with
  |nil=>intro _;simp
  |cons p l e=>
   intro h;have b:=h p (by simp);have c:=e fun q d=>h q (by simp[d])
   rw[qt6,qrp,qr1,qsv];omega
 have b:=a l h;have c:=zae (n:=l.length) (by omega);have f:l.length*K<=m*K:=qqz _ hm;unfold zf4;rw[qrp];omega
theorem zrw{K m:Nat}(d:m<=65536):∀(cs:List za2) (C:List (List za3)),(∀t,∀l∈C,∀p∈l,(zfj t p).length<=K)->(∀l∈C,l.length<=m)->(zbu cs C).length<=C.length*(10+m*K)
 | [],C,_,_=>by simp[zbu]
 |c::cs,[],_,_=>by simp[zbu]
 |c::cs,l::C,h,hm=>by
  have h1:=z68 (t:=c.2.1) (K:=K) (m:=m) (fun p e=>h _ l (by simp) p e) (hm l (by simp)) d;have f:=zrw d cs C (fun t b a=>h t b (by simp[a])) (fun b a=>hm b (by simp[a]));rw[zbu,qrp,qr1,qsv];omega
theorem qcx{F:FootS}{K m n:Nat}(h:∀t,∀g∈F.groups,∀l∈g.2,∀p∈l,(zfj t p).length<=K)(r:∀g∈F.groups,g.2.length<=n)(hm:∀g∈F.groups,∀l∈g.2,l.length<=m)(k:m<=65536)
 (u:F.rows.toNat<18446744073709551616)(b:F.groups.length<18446744073709551616:=by decide)(c:∀g∈F.groups,g.1.toNat<18446744073709551616:=by decide):(zek F).length<=(putC [] F.cols).length+20+F.groups.length*(10+n*(10+m*K)):=by
 have d:∀G:List za6,(∀g∈G,g∈F.groups)->(G.flatMap (zc4 F.cols)).length<=G.length*(10+n*(10+m*K)):=by
  intro G;induction G with
  |nil=>intro _;simp
  |cons g G v=>
   intro e;have a:=e g (by simp);have f:=zrw k F.cols g.2 (fun t l o=>h t g a l o) (hm g a);have i:=v fun q s=>e q (by simp[s])
   have j:g.2.length*(10+m*K)<=n*(10+m*K):=qqz _ (r g a);have w:=zae (n:=g.1.toNat) (c g a);have x:(zc4 F.cols g).length=(vp g.1.toNat).length+(zbu F.cols g.2).length:=by unfold zc4;rw[qrp]
   rw[qt6,qrp,qr1,qsv];omega
 have f:=d F.groups (fun g b=>b);have i:=zae u;have j:=zae b;unfold zek;simp only[qrp];omega
end Go.Proofs.Y
