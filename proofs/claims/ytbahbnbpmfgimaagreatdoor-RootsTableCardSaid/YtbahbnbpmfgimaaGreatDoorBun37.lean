import Derived.Test.YtbahbnbpmfgimaaGreatDoorBun22
import Derived.Test.YtbahbnbpmfgimaaGreatDoorBun36
set_option maxHeartbeats 4000000
set_option maxRecDepth 100000
namespace Go.Proofs.Y
open Go.RowKit Go.Hm Go.Shelf
attribute [local go_sem] Oper.semAt_some
structure BStep(n0 B:Nat)(W W':World):Prop where
 ko:KeepsOthers W W'
 kb:KB n0 B W W'
 be:Below B W W'
theorem BStep.trans{n0 B:Nat}{a b c:World}(h:BStep n0 B a b)(k:BStep n0 B b c):BStep n0 B a c:=⟨h.ko.trans k.ko,h.kb.trans k.kb,h.be.trans k.be⟩
theorem zwv{W b:World}(h:New W b):KeepsOthers W b:=⟨h.size,fun k _ a _=>(h.block k (qq2.1 a).1).trans a⟩
theorem BStep.new{n0 B:Nat}{W a:World}(h:New W a)(b:n0<=W.heap.size)(c:B<n0):BStep n0 B W a:=⟨zwv h,qxq h b,qwo h (by omega)⟩
abbrev qxr:=@BStep.new
def BRow(n0 B:Nat)(xs:List Nat)(W:World):Prop:=∃v,Boxed W B 24 v/\Go.Hm.Own W n0 5 v (zar .u8 xs)
theorem zpa{W t c:World}{n0 B:Nat}{v h:Value}{xs D:List Nat}(A:Boxed W B 24 v)(G:Go.Hm.Own W n0 5 v (zar .u8 xs))(K:n0<=W.heap.size)(J:B<n0)(f:New W t)
 (C:Go.Hm.Own c n0 5 h (zar .u8 D))(g:t.grownBy c v.ownBlock):Boxed c B 24 v/\BRow n0 B D (c.setCell ⟨B,0,none⟩ h)/\BStep n0 B W (c.setCell ⟨B,0,none⟩ h):=by
 have r:24≠5:=by decide
 have s:Boxed t B 24 v:=(f.block B A.lt).trans A;have l:Go.Hm.Own t n0 5 v (zar .u8 xs):=G.later f;have m:Boxed c B 24 v:=s.kept g (s.not_row r l);have n:=l.lt;refine⟨m,⟨h,m.set h,C.kept (grownBy_setCell' c B h) (.inr (m.not_row r C).symm)⟩,?_,?_,?_⟩
 ·refine((zwv f).trans (KeepsOthers.of_grownBy g fun j o y z=>?_)).trans (KeepsOthers.setCell _ _ _)
  rcases l.2 with⟨rfl,_⟩|⟨q,E,F,rfl,_,x,_⟩
  ·simp[Value.ownBlock] at y
  ·obtain rfl:q=j:=by simpa[Value.ownBlock] using y
   rw[x] at z;cases z;rfl
 ·refine⟨?_,fun i L I=>?_⟩
  ·have a:=f.size
   have b:=g.size;have d:=(KeepsWalks.setCell c ⟨B,0,none⟩ h).size;omega
  ·refine(qwc _ _ _ i I).trans ((g.block i (by have:=f.size;omega) ?_).trans (f.block i (by omega)))
   intro e;have:=(n i e.symm).1;omega
 ·have u:Below B W t:=qwo f (by omega)
  have H:=f.size;have w:Below B W c:=u.grown g (by omega) (fun k e=>by have:=(n k e).1;omega);exact w.setCell (p:=⟨B,0,none⟩) (qq0 _) h
theorem BRow.later{n0 B:Nat}{xs:List Nat}{W b:World}(h:BRow n0 B xs W)(n:New W b):BRow n0 B xs b:=by obtain⟨v,a,c⟩:=h;exact⟨v,(n.block B a.lt).trans a,c.later n⟩
theorem BRow.opened{n0 B:Nat}{xs:List Nat}{W:World}(h:BRow n0 B xs W):∃A c,Boxed W B 24 (.slice A xs.length c)/\Go.Hm.Own W n0 5 (.slice A xs.length c) (zar .u8 xs):=by obtain⟨v,b,a⟩:=h;obtain⟨A,c,rfl,-,-⟩:=a.slice;rw[zaa] at*;exact⟨A,c,b,a⟩
theorem KB.grown{n0 bo base:Nat}{W a:World}{v:Value}{e:TypeId}{xs:List Value}(b:Go.Hm.Own W base e v xs)(h:n0<=base)(c:n0<=W.heap.size)(g:W.grownBy a v.ownBlock):KB n0 bo W a:=
 ⟨g.size,fun i d _=>g.block i (by omega) (fun e=>by have:=(b.lt i e.symm).1;omega)⟩
theorem qf0{W:World}{base:Nat}{e:TypeId}{v:Value}{xs a:List Nat}{k:IntKind}(h:W.ownsRow base e 1 v ((zar k xs).length+a.length) (zar k xs++zar k a)):Go.Hm.Own W base e v (zar k (xs++a)):=by unfold Go.Hm.Own;rw[zd0,qrp,zaa k a];exact h
theorem z94{c d:World}{base:Nat}{e f:TypeId}{u v:Value}{xs i:List Value}(h:Go.Hm.Own d c.heap.size e u xs)(g:Go.Hm.Own c base f v i):u.ownBlock=none\/u.ownBlock≠v.ownBlock:=by
 rcases hu:u.ownBlock with _|k
 ·exact .inl rfl
 ·refine .inr fun e=>?_
  have a:=(h.lt k hu).1;have b:=(g.lt k e.symm).2;omega
theorem zz3{W:World}{base B:Nat}{e:TypeId}{u:Value}{xs:List Value}(h:Go.Hm.Own W base e u xs)(a:B<base):u.ownBlock=none\/u.ownBlock≠some B:=
 .inr fun e=>by have:=(h.lt B e).1;omega
theorem z49{β:Type}{n0 bo:Nat}{W0:World}(d:n0<=W0.heap.size):OwnFrom n0 (fun(_:β) W=>KB n0 bo W0 W):=
 fun _ A B h a c g=>⟨qqs a.1 c.size,fun k b f=>(c.block k (qqv b (qqs d a.1)) (fun e=>by have:=(g k e.symm).1;omega)).trans (a.2 k b f)⟩
theorem z2h{p:List Nat}(b:∀x∈p,x<=18446744073709551615)(c:p.length<=65536):(encP p).length<=600000:=by
 have a:=zk2 p b;have d:=zae (n:=2*p.length) (by omega);have e:=zae (n:=2*p.length+1) (by omega);have f:(vp (p.getD 0 0)).length<=10:=by
  refine zae ?_;rw[qsh];cases h:p[0]? with
  |none=>simp
  |some x=>
   have:=b x (List.mem_of_getElem? h);simp;omega
 have m:=quy a c;unfold encP;split
 ·rw[qrp];omega
 ·rw[qrp,qr1,za0];omega
def zz4{n:Nat}(L:List Nat)(pre:List (Sp n)):List Nat:=pre.flatMap fun x=>encP (seg L x.1.1 x.1.2)
theorem z95{n:Nat}(L:List Nat)(a:List (Sp n))(x:Sp n):zz4 L (a++[x])=zz4 L a++encP (seg L x.1.1 x.1.2):=by simp[zz4]
theorem qf1{L:List Nat}{a:List (Sp L.length)}(h:a.map Subtype.val=zcu L 0 0):zz4 L a=zlu L:=by unfold zz4 zlu;rw[<-z41,<-h,qsj,List.flatMap_map];rfl
theorem zww{L:List Nat}(a:∀x∈L,x<=18446744073709551615){f t:Nat}:∀x∈seg L f t,x<=18446744073709551615:=fun x b=>a x (qte (qro b))
theorem qf2{n:Nat}{L:List Nat}(c:∀x∈L,x<=18446744073709551615)(d:L.length<=65536)(b:List (Sp n)):(zz4 L b).length<=b.length*600000:=by
 induction b with
 |nil=>simp[zz4]
 |cons x b f=>
  have a:=z2h (p:=seg L x.1.1 x.1.2) (zww c) (by unfold seg;rw[qqx,qqw];omega);have e:zz4 L (x::b)=encP (seg L x.1.1 x.1.2)++zz4 L b:=rfl;rw[e,qrp,qr1];omega
theorem z5a{w:World}{A:Option Addr}{c:Nat}{L:List Nat}(h:Reads w w.heap.size 1 A L.length (zar .u64 L))(hc:L.length<=c)(hL:∀x∈L,x<=18446744073709551615)(hl:L.length<=65536):
 Calls Tryz.prog 172 #[.slice A L.length c] w (OptB (some (zlu L)) w):=by
 have j0:=z47 (L:=L) L.length 0 0 (by omega) (qq0 _) (qq1 _);have HL:=qwk hL;clear hL;refine(callsIn_wide (n:=6)).1 ?_;refine callsIn_of_wp_marks Tryz.func172 rfl trivial ?_ rfl;simp only[Tryz.ntmps172,qrt,qr1,qub,Nat.reduceAdd,Nat.reduceSub,Array.replicate_succ,Array.replicate_zero,List.push_toArray,List.append_toArray,qrr,qr0]
 gi_wp2_with fail
 refine⟨trivial,?_⟩;refine(callsIn_wide.2 (z45 A L.length c _)).mono ?_;rintro e w' ⟨rfl,rfl⟩
 gi_wp2_with fail
 obtain⟨C,g⟩:∃W,W=(((w.alloc (.cells #[.slice none 0 0] 24)).alloc (.cells #[.bool false] 4)).alloc (.cells #[.slice none 0 0] 24)).alloc (.cells #[.slice A L.length c] 201):=⟨_,rfl⟩;have hz:C.heap.size=w.heap.size+4:=by rw[g];simp
 have b7:Below w.heap.size w C:=by rw[g];exact((((qwd _ w).alloc (qq0 _) _).alloc (by simp) _).alloc (by simp;omega) _).alloc (by simp;omega) _
 have b0:Boxed C w.heap.size 24 (.slice none 0 0):=by rw[g];exact(((Boxed.new w _ _).alloc _).alloc _).alloc _
 have E:Boxed C (w.heap.size+1) 4 (.bool false):=by have:=((Boxed.new (w.alloc (.cells #[.slice none 0 0] 24)) 4 (.bool false)).alloc (.cells #[.slice none 0 0] 24)).alloc (.cells #[.slice A L.length c] 201);rw[qww,<-g] at this;exact this
 have q:Boxed C (w.heap.size+2) 24 (.slice none 0 0):=by have:=(Boxed.new ((w.alloc (.cells #[.slice none 0 0] 24)).alloc (.cells #[.bool false] 4)) 24 (.slice none 0 0)).alloc (.cells #[.slice A L.length c] 201);rw[qww,qww,<-g] at this;exact this
 have y:Boxed C (w.heap.size+3) 201 (.slice A L.length c):=by have:=Boxed.new (((w.alloc (.cells #[.slice none 0 0] 24)).alloc (.cells #[.bool false] 4)).alloc (.cells #[.slice none 0 0] 24)) 201 (.slice A L.length c);rw[qww,qww,qww,<-g] at this;exact this
 have M:Reads C (w.heap.size+4) 1 A L.length (zar .u64 L):=(h.keep fun p hp=>b7.cell hp).more (by omega);have F:0<L.length-> ∀ad,A=some ad->ad.block≠w.heap.size+2:=by intro h0 ad e;obtain⟨g7,e',hb,-⟩:=h.2 h0;rw[e] at e';cases e';omega
 rw[<-g];clear g;refine wpIn_rangeFunc_ownG rfl (by omega) (gf:=206) (lb:= #[.pointer (some ⟨w.heap.size+1+1+1,0,none⟩)]) rfl trivial (enters_of Tryz.func206 (by kernel_rfl) rfl)
  (zwu (n0:=w.heap.size+4) (bo:=w.heap.size+2) (by omega) hc (by omega) (by omega) (by omega) (by omega) F y.cell M) KB.trans (fun W l o o' h1 h2 h3 h4=>KB.of_below (belowK_b (w:=C) (by omega) W l o o' h1 h2 h3 h4)) (qwd _ _) (fun _=>rfl)
  (fun d W=>(∃v,Boxed W (w.heap.size+2) 24 v/\W.ownsRow (w.heap.size+4) 5 1 v (zar .u8 (zz4 L d)).length (zar .u8 (zz4 L d))/\True)/\KB (w.heap.size+4) (w.heap.size+2) C W/\Below (w.heap.size+2) C W)
  (fun _ _ _=>False)
  (OwnFrom.and (Go.Own.from (holdsRow_own (w.heap.size+4) (w.heap.size+2) 24 5 1 (fun d:List (Sp L.length)=>(zar .u8 (zz4 L d)).length) (fun d=>zar .u8 (zz4 L d)) (fun _ _=>True)) _) (OwnFrom.and (by rw[hz];exact z49 (by omega)) (ownFrom_below (by omega) (by omega))))
  (fun _ _ _ _ _ hs _ _=>hs)
  ⟨⟨_,q,qwb _ _ _ _,trivial⟩,KB.refl _ _ _,qwd _ _⟩
  (fun x=>{tmps:= #[.slice A L.length c,undef,.pointer (some ⟨w.heap.size,0,none⟩),.pointer (some ⟨w.heap.size+1,0,none⟩),.pointer (some ⟨w.heap.size+1+1,0,none⟩),slV A c x.1.1 x.1.2,undef,undef,undef,.slice A L.length c,.int .i64 (L.length:Int),.bool (decide ((65536:Int)<(L.length:Int))),.slice A L.length c,.func (.func 206) #[] #[.pointer (some ⟨w.heap.size+1+1+1,0,none⟩)],slV A c x.1.1 x.1.2,undef,undef,undef,undef,undef,undef,undef,undef,undef,undef,undef,undef,undef,undef,undef,undef,undef,undef,undef,undef,undef,undef,undef,undef,undef,undef,undef,undef,undef,undef,undef,undef],defers:=[]}) ?assign ?body ?done ?stop
 case assign=>
  intro l x W K b
  gi_wp2
  exact b
 case body=>
  rintro l d x W ⟨⟨v,hv,j,-⟩,b,hB⟩ k7;have hx:=x.2;have s:w.heap.size+4<=W.heap.size:=by have:=hB.size;omega
  have f7:=zqv (b.reads M F) hc hx.1 hx.2;have f6:=zut (l:=L) (a:=x.1.1) hx.2;have f9:=z95 L d x;have a7:(seg L x.1.1 x.1.2).length<=65536:=by omega
  have hw:=zww HL.out (f:=x.1.1) (t:=x.1.2);have i4:=qf2 HL.out hl d;have e5:=qwk (fun V (k:KB (w.heap.size+4) (w.heap.size+2) C V)=>zqv (k.reads M F) hc hx.1 hx.2);unfold slV;rw[<-f6];generalize(if c=x.1.1 then A else A.map (·.add x.1.1))=AS at*;generalize seg L x.1.1 x.1.2=p at*;generalize c-x.1.1=cp;generalize zz4 L d=xs at*;have j4:xs.length<=78643800000:=by omega
  have h7:BRow (w.heap.size+4) (w.heap.size+1+1) xs W:=⟨v,hv,j⟩;have HS:=qwk f9;have HK:=qwk b;have HB:=qwk hB;have HW:=qwk hw;have g6:=qwk (f7.more s);have IR:=qwk (z92 (c:=cp) g6.out (by omega));clear f9 b hB hw f7 hv j hx f6 i4 M F b0 E q y b7 h
  gi_wp2_with fail
  refine⟨trivial,?_⟩;refine(CallsIn.inRound l (callsIn_wide.2 IR.out)).mono ?_;rintro e w1 ⟨rfl,n1⟩;have i:=h7.later n1;have X:=qwk n1;have r:w.heap.size+4<=w1.heap.size:=qqs s n1.size;clear IR n1;by_cases h4:4<=st p
  ·have d4:decide (4<=st p)=true:=decide_eq_true h4
   rw[d4]
   gi_wp2_with fail
   obtain⟨N,hN⟩:∃N:Nat,(2*(p.length:Int))=(N:Int)/\N=2*p.length:=⟨2*p.length,by omega,rfl⟩;rw[hN.1];have h6:N<=131072:=by omega
   have H:=zps N;have j1:=zae (n:=N) (by omega);have c9:0<p.length:=qqv (by omega) (zf1 p).1;have b8:Hid (encP p=vp N++vp (p.getD 0 0)):=qwk (by unfold encP;rw[if_pos h4,hN.2]);have k6:p.getD 0 0<=18446744073709551615:=by rw[qsh,qqt c9];exact HW.out _ (qrf c9)
   have I:=zps (p.getD 0 0);have j2:=zae (n:=p.getD 0 0) (by omega);clear hN;refine zgv (KB (w.heap.size+4) (w.heap.size+4)) 4 [(0,0),(1,1),(2,2),(2,3),(2,4)] (KB.refl _ _) KB.trans (by kernel_rfl) (fun _ _ h=>h) (by kernel_rfl) (by kernel_rfl) (by kernel_rfl) (by kernel_rfl) ?_;have P:=qw6 w1;generalize w1.drew=d1 at P⊢;obtain⟨j7,k3,d5,a0⟩:=(i.later P).opened;have R:w.heap.size+4<=d1.heap.size:=qqs r P.size;have P1:=qwk (zdc none 0 0 [] N d1 qwy (by omega) (by omega));refine zc7 rfl rfl (v:=?_) (fun V hW=>?_) ?_;rotate_left
   ·have b9:=(hW.cell (p:=⟨w.heap.size+1+1,0,none⟩) (by show w.heap.size+1+1<_;omega) (by show w.heap.size+1+1≠_;omega)).trans d5.cell
    go_simp<;> with_reducible rfl
   simp only[Act.put,qta,qs1,qtb];refine zb8 rfl rfl (v:=?_) (fun V=>?_) ?_;rotate_left
   ·go_simp<;> with_reducible rfl
   simp only[Act.put,qta,qs1,qtb];refine zbh rfl rfl (fun K b=>?_);go_simp
   with_reducible refine P1.out.mono ?_
   rintro e w1 ⟨A1,n1,c1,rfl,o1,E⟩;refine b _ _ (.inr (.inr (qxq E R))) ?_;clear b P1;rw[qrr] at o1;obtain rfl:n1=(vp N).length:=by have:=o1.len;rwa[zaa] at this
   obtain⟨j9,rfl,-⟩:=o1.reads.2 H;refine zbh rfl rfl (fun K b=>?_);refine zly elB (.tmp 21) (.tmp 23) rfl (W:=w1) (B:=w.heap.size+4) (a0.later E) o1.reads H rfl rfl (qwd _ _) (qq0 _) (qqs R E.size) (zcr _ _) (by rw[zaa];omega) (by rw[zaa];simp only[maxLen];omega) ?_;intro j5 k1 i8 _ _ d9 b5 _;refine b _ _ (.inr (.inr (KB.grown (a0.later E) (qq0 _) (qqs R E.size) b5))) ?_;clear b;rw[<-zd0] at d9;obtain⟨d6,i,a4⟩:=zpa d5 a0 R (by omega) E d9 b5;have x1:=d6.cell;have y1:=d6.frozen;refine zbh rfl rfl (fun K b=>?_);go_simp
   refine b _ _ (.inr (.inl rfl)) ?_;clear b;refine zgm ?_;generalize World.setCell i8 _ _=s1 at i a4⊢;have e4:w.heap.size+4<=s1.heap.size:=qqs R a4.ko.size;clear d6 x1 y1 d9 b5 o1 E d5 a0;obtain⟨ap,rfl,e9,c0⟩:=(e5.out s1 (HK.out.trans ((qxq X.out s).trans ((qxq P r).trans a4.kb)))).num c9;have c0:s1.cell? ap=some (.int .u64 ((p.getD 0 0:Nat):Int)):=c0;generalize p.getD 0 0=x0 at*
   gi_wp2_with fail
   refine zgv (KB (w.heap.size+4) (w.heap.size+4)) 6 [(0,0),(1,1),(1,2),(0,3),(2,4),(2,5),(2,6)] (KB.refl _ _) KB.trans (by kernel_rfl) (fun _ _ h=>h) (by kernel_rfl) (by kernel_rfl) (by kernel_rfl) (by kernel_rfl) ?_;have Q:=qw6 s1;generalize s1.drew=d2 at Q⊢;obtain⟨j8,k4,a2,G⟩:=(i.later Q).opened;rw[qrp] at a2 G;have S:w.heap.size+4<=d2.heap.size:=qqs e4 Q.size;have P2:=qwk (zdc none 0 0 [] x0 d2 qwy (by omega) (by omega));have f1:d2.cell? ap=some (.int .u64 (x0:Int)):=(Q.cell (p:=ap) (qqv e9 e4)).trans c0;refine zc7 rfl rfl (v:=?_) (fun V hW=>?_) ?_;rotate_left
   ·have b9:=(hW.cell (p:=⟨w.heap.size+1+1,0,none⟩) (by show w.heap.size+1+1<_;omega) (by show w.heap.size+1+1≠_;omega)).trans a2.cell
    go_simp<;> with_reducible rfl
   simp only[Act.put,qta,qs1,qtb];refine zb8 rfl rfl (v:=?_) (fun V=>?_) ?_;rotate_left
   ·go_simp<;> with_reducible rfl
   simp only[Act.put,qta,qs1,qtb];refine zb8 rfl rfl (v:=?_) (fun V=>?_) ?_;rotate_left
   ·go_simp<;> with_reducible rfl
   simp only[Act.put,qta,qs1,qtb];refine zc7 rfl rfl (v:=?_) (fun V hW=>?_) ?_;rotate_left
   ·have b9:=(hW.cell (p:=ap) e9 (by omega)).trans f1
    go_simp<;> with_reducible rfl
   simp only[Act.put,qta,qs1,qtb];refine zbh rfl rfl (fun K b=>?_);go_simp
   with_reducible refine P2.out.mono ?_
   rintro e w2 ⟨A2,n2,c2,rfl,z,q⟩;refine b _ _ (.inr (.inr (qxq q S))) ?_;clear b P2;rw[qrr] at z;obtain rfl:n2=(vp x0).length:=by have:=z.len;rwa[zaa] at this
   obtain⟨e6,rfl,-⟩:=z.reads.2 I;refine zbh rfl rfl (fun K b=>?_);refine zly elB (.tmp 25) (.tmp 29) rfl (W:=w2) (B:=w.heap.size+4) (G.later q) z.reads I rfl rfl (qwd _ _) (qq0 _) (qqs S q.size) (zcr _ _) (by simp only[zaa,qrp];omega) (by simp only[zaa,qrp,maxLen];omega) ?_;intro j6 k2 i9 _ _ e0 b6 _;refine b _ _ (.inr (.inr (KB.grown (G.later q) (qq0 _) (qqs S q.size) b6))) ?_;clear b;rw[<-zd0] at e0;obtain⟨d7,a5,e2⟩:=zpa a2 G S (by omega) q e0 b6;have x2:=d7.cell;have y2:=d7.frozen;refine zbh rfl rfl (fun K b=>?_);go_simp
   refine b _ _ (.inr (.inl rfl)) ?_;clear b;refine zgm ?_;generalize World.setCell i9 _ _=s2 at a5 e2⊢;have l0:w.heap.size+4<=s2.heap.size:=qqs S e2.ko.size;clear d7 x2 y2 e0 b6 z q a2 G
   gi_wp2
   have Y:=(qxr X.out s (by omega)).trans ((qxr P r (by omega)).trans (a4.trans ((qxr Q e4 (by omega)).trans e2)));obtain⟨v',d0,c6⟩:=a5;exact⟨Y.ko.from _,Y.kb,⟨v',d0,by rw[HS.out,b8.out,<-qrc];exact c6,trivial⟩,HK.out.trans Y.kb,HB.out.trans Y.be⟩
  ·have d4:decide (4<=st p)=false:=decide_eq_false h4
   rw[d4];obtain⟨N,hN⟩:∃N:Nat,(2*(p.length:Int))=(N:Int)/\N=2*p.length:=⟨2*p.length,by omega,rfl⟩;rw[hN.1];have h6:N<=131072:=by omega
   have k8:IntKind.u64.wrap ((N:Int)+1)=((N+1:Nat):Int):=by rw[qwp];omega
   have J:=zps (N+1);have j3:=zae (n:=N+1) (by omega);have b8:Hid (encP p=vp (N+1)++restB p):=qwk (by unfold encP restB;rw[if_neg h4,hN.2]);clear hN;have f8:0<(restB p).length/\(restB p).length<=600000:=by have a:=zk2 p HW.out;have m:=quy a a7;unfold restB;rw[qr1,za0];omega
   have LR:=qwk (zz2 (c:=cp) ((e5.out w1 (HK.out.trans (qxq X.out s))).more r) HW.out a7);generalize restB p=rb at*
   gi_wp2_with fail
   refine⟨trivial,?_⟩;refine(CallsIn.inRound l (callsIn_wide.2 LR.out)).mono ?_;rintro e w2 ⟨A2,n2,c2,rfl,z,q⟩;obtain rfl:n2=rb.length:=by have:=z.len;rwa[zaa] at this
   obtain⟨e6,rfl,-⟩:=z.reads.2 f8.1;clear LR;obtain⟨Aw,cw,g0,f4⟩:=i.opened;have a8:Boxed w2 (w.heap.size+1+1) 24 _:=(q.block _ g0.lt).trans g0;have f5:=f4.later q;have g2:w.heap.size+4<=w2.heap.size:=qqs r q.size
   gi_wp2_with fail
   refine zgv (KB (w.heap.size+4) (w.heap.size+4)) 5 [(0,0),(1,1),(1,2),(2,3),(2,4),(2,5)] (KB.refl _ _) KB.trans (by kernel_rfl) (fun _ _ h=>h) (by kernel_rfl) (by kernel_rfl) (by kernel_rfl) (by kernel_rfl) ?_;have u:=qw6 w2;generalize w2.drew=d3 at u⊢;have O:=(u.block _ a8.lt).trans a8;have O:Boxed d3 (w.heap.size+1+1) 24 _:=O;have a1:=f5.later u;have T:w.heap.size+4<=d3.heap.size:=qqs g2 u.size;have P3:=qwk (zdc none 0 0 [] (N+1) d3 qwy (by omega) (by omega));refine zc7 rfl rfl (v:=?_) (fun V hW=>?_) ?_;rotate_left
   ·have b9:=(hW.cell (p:=⟨w.heap.size+1+1,0,none⟩) (by show w.heap.size+1+1<_;omega) (by show w.heap.size+1+1≠_;omega)).trans O.cell
    go_simp<;> with_reducible rfl
   simp only[Act.put,qta,qs1,qtb];refine zb8 rfl rfl (v:=?_) (fun V=>?_) ?_;rotate_left
   ·go_simp<;> with_reducible rfl
   simp only[Act.put,qta,qs1,qtb];refine zb8 rfl rfl (v:=?_) (fun V=>?_) ?_;rotate_left
   ·go_simp<;> with_reducible rfl
   simp only[Act.put,qta,qs1,qtb];refine zbh rfl rfl (fun K b=>?_);go_simp
   rw[show((N:Int)+1)=((N+1:Nat):Int) from rfl]
   with_reducible refine P3.out.mono ?_
   rintro e w3 ⟨A3,n3,c3,rfl,o3,y⟩;refine b _ _ (.inr (.inr (qxq y T))) ?_;clear b P3;rw[qrr] at o3;obtain rfl:n3=(vp (N+1)).length:=by have:=o3.len;rwa[zaa] at this
   obtain⟨k0,rfl,-⟩:=o3.reads.2 J;refine zbh rfl rfl (fun K b=>?_);refine zly elB (.tmp 38) (.tmp 41) rfl (W:=w3) (B:=w.heap.size+4) (a1.later y) o3.reads J rfl rfl (qwd _ _) (qq0 _) (qqs T y.size) (zcr _ _) (by rw[zaa];omega) (by rw[zaa];simp only[maxLen];omega) ?_;intro g5 g8 g3 _ _ e1 Z _;refine b _ _ (.inr (.inr (KB.grown (a1.later y) (qq0 _) (qqs T y.size) Z))) ?_;clear b;rw[<-zd0] at e1;obtain⟨d8,a6,e3⟩:=zpa O a1 T (by omega) y e1 Z;have x3:=d8.cell;have y3:=d8.frozen;have q3:=((z.later u).later y).kept Z (z94 z f4);have q3:=q3.kept (grownBy_setCell' g3 (w.heap.size+1+1) (.slice g5 ((zar .u8 xs).length+(vp (N+1)).length) g8)) (zz3 q3 (by omega));refine zbh rfl rfl (fun K b=>?_);go_simp
   refine b _ _ (.inr (.inl rfl)) ?_;clear b;refine zgm ?_;generalize World.setCell g3 _ _=s3 at a6 e3 q3⊢;have g4:w.heap.size+4<=s3.heap.size:=qqs T e3.ko.size;clear d8 x3 y3 e1 Z o3 y O a1;obtain⟨Ay,cy,a3,c8⟩:=a6.opened;have h9:=a3.cell;have k5:=a3.frozen;rw[qrp] at c8 a3 h9;obtain⟨g7,e',-,h8⟩:=q3.reads.2 f8.1;cases e';obtain⟨i5,i3,i0,i1,i2⟩:=info_parts elB.hi
   gi_wp2_with (gi_at_builtin;refine wpListIn_append_own _ rfl _ _ 24 rfl (w.heap.size+4) 5 i5 (.int .u8 0) 1 1 (by kernel_rfl) i3 i0 i1 i2 rfl (by decide) _ _ _ rfl c8 e6 rb.length c2 (zar .u8 rb) rfl (by rw[zaa,qq7]) h8 (zcr _ _) (by simp only[zaa,qrp,maxLen];omega) (by simp only[zaa,qrp];omega) g4 ?_;intro v' w4 c7 c5 _;have o4:=qf0 c7;rw[qrc] at o4;obtain⟨A4,c4,rfl,-,-⟩:=o4.slice;obtain⟨g1,f0,i7⟩:=zpa a3 c8 g4 (by omega) (qw4 s3) o4 c5;have x4:=g1.cell;have y4:=g1.frozen)
   have Y:=(qxr X.out s (by omega)).trans ((qxr q r (by omega)).trans ((qxr u g2 (by omega)).trans (e3.trans i7)));obtain⟨v',d0,c6⟩:=f0;exact⟨Y.ko.from _,Y.kb,⟨v',d0,by rw[HS.out,b8.out];exact c6,trivial⟩,HK.out.trans Y.kb,HB.out.trans Y.be⟩
 case done=>
  rintro D ys W hD i6 ⟨⟨v,hv,j,-⟩,e7,hB⟩ b;have e8:=qf1 i6;have k9:=hB.size;have ho:Go.Hm.Own W (w.heap.size+4) 5 v (zar .u8 (zz4 L ys)):=j;rw[e8] at ho;obtain⟨A2,c2,rfl,-,-⟩:=ho.slice;have a9:Boxed W w.heap.size 24 (.slice none 0 0):=(e7.2 _ (by omega) (by omega)).trans b0;have b4:Boxed W (w.heap.size+1) 4 (.bool false):=(e7.2 _ (by omega) (by omega)).trans E;have x2:=hv.cell;have x0:=a9.cell;have x1:=b4.cell;have y0:=a9.frozen;have y1:=b4.frozen;clear j F M h b0 E q y
  gi_wp2
  refine⟨by simp,.inl ⟨_,_,rfl,run_takeDeferred (((KeepsOthers.setCell W _ _).trans (KeepsOthers.setCell _ _ _)).same D _ b rfl),?_⟩⟩;obtain⟨U,hU⟩:∃v,v=Value.slice A2 (zar .u8 (zlu L)).length c2:=⟨_,rfl⟩;rw[<-hU] at ho⊢;have f2:some w.heap.size≠some D:=by simp;omega
  have f3:some (w.heap.size+1)≠some D:=by simp;omega
  have s0:=(((a9.set U).kept (grownBy_setCell' _ (w.heap.size+1) (.bool true)) (by simp)).kept (grownBy_putObj' _ D (.deferred none)) f2).cell;have s1:=(((b4.kept (grownBy_setCell' W w.heap.size U) (by simp)).set (.bool true)).kept (grownBy_putObj' _ D (.deferred none)) f3).cell;have o1:=ho.kept (grownBy_setCell' W w.heap.size U) (zz3 ho (by omega));have z:=o1.kept (grownBy_setCell' _ (w.heap.size+1) (.bool true)) (zz3 o1 (by omega));have o3:Go.Hm.Own (((W.setCell ⟨w.heap.size,0,none⟩ U).setCell ⟨w.heap.size+1,0,none⟩ (.bool true)).putObj D (.deferred none)) (w.heap.size+4) 5 U (zar .u8 (zlu L)):=ownsRow_putObj z (.deferred none) (((KeepsOthers.setCell W _ _).trans (KeepsOthers.setCell _ _ _)).same D _ b rfl) rfl;have o4:=o3.base_le (b':=w.heap.size) (by omega);have h5:Below w.heap.size w W:=b7.trans (qwo hB (by omega));have g9:Below w.heap.size w (((W.setCell ⟨w.heap.size,0,none⟩ U).setCell ⟨w.heap.size+1,0,none⟩ (.bool true)).putObj D (.deferred none)):=
   ((h5.setCell (p:=⟨w.heap.size,0,none⟩) (qq0 _) U).setCell (p:=⟨w.heap.size+1,0,none⟩) (by simp) (.bool true)).trans (belowK_b (w:=w) (qq0 _) _ D _ _ (by omega) (((KeepsOthers.setCell W _ _).trans (KeepsOthers.setCell _ _ _)).same D _ b rfl) rfl rfl)
  refine⟨.tuple #[U,.bool true],?_,?_⟩
  ·simp[results,go_sem,s0,s1]
  ·rw[hU] at o4⊢
   exact⟨A2,_,c2,rfl,o4,by rw[<-hU];exact g9⟩
 case stop=>
  rintro D c d W _ _ h _;exact h.elim
open Go.RowKit Go.Hm
theorem zfu:∀(k n:Nat),n<=k-> ∀x∈vp n,x<256:=by
 intro k;induction k with
 |zero=>
  intro n b x a;rw[zgj (by omega)] at a;simp at a;omega
 |succ k c=>
  intro n b x a;by_cases h:n<128
  ·rw[zgj h] at a
   simp at a;omega
  ·rw[zgk (by omega)] at a
   rcases qsm.1 a with rfl|a
   ·omega
   ·exact c _ (by omega) x a
theorem z96{p:List Nat}(b:∀x∈p,x<=18446744073709551615):∀x∈encP p,x<256:=by
 intro x a;have:=zk2 p b;unfold encP at a;split at a
 ·rcases qr5.1 a with a|a
  ·exact zfu _ _ (qq0 _) x a
  ·exact zfu _ _ (qq0 _) x a
 ·rcases qr5.1 a with a|a
  ·exact zfu _ _ (qq0 _) x a
  ·rcases qsm.1 a with rfl|a
   ·omega
   ·exact zhp _ _ x a
theorem zwx{l:List Nat}(c:∀x∈l,x<=18446744073709551615):∀x∈zlu l,x<256:=by intro x a;unfold zlu at a;obtain⟨p,b,a⟩:=qtj.1 a;exact z96 (znl c b).1 x a
theorem z5b{n:Int}(S:St):((zcv n S).2.getD []).length<=(S.getD []).length:=by
 rcases zcl n S with e|⟨l,rfl,-,-,a⟩
 ·rw[e];simp
 ·rw[a];simp
def DecPost(b:List Nat)(n:Int)(w:World)(e:Ending)(w':World):Prop:=∃o,IsDec b n o/\OptW o w e w'
theorem z5c{b:List Nat}{n:Int}(h:∀l:List Nat,(l.length:Int)=n->l.length<=65536->(∀x∈l,x<=18446744073709551615)->zlu l=b->False):IsDec b n none:=
 fun l=>⟨fun e=>(by cases e),fun⟨a,c,d,f⟩=>(h l a c d f).elim⟩
theorem z97{w:World}{A:Option Addr}{n c:Nat}{L:List Nat}(h:Reads w w.heap.size 1 A n (zar .u64 L))(b:n<=c)(a:∀x∈L,x<=18446744073709551615)(d:n<=65536):
 Calls Tryz.prog 172 #[.slice A n c] w (OptB (some (zlu L)) w):=by
 obtain rfl:n=L.length:=h.len;exact z5a h b a d
theorem IsDec.few{b:List Nat}{n:Int}{o:Option (List Nat)}(h:IsDec b n o):(o.getD []).length<=65536:=by
 cases o with
 |none=>simp
 |some l=>exact((h l).1 rfl).2.1
theorem DecPost.u{b:List Nat}{n:Int}{w w':World}{e:Ending}(h:DecPost b n w e w'):∃o A m c,IsDec b n o/\e= .returned (.tuple #[.slice A m c,.bool o.isSome])/\m<=65536/\Go.Hm.Own w' w.heap.size 138 (.slice A m c) (zar .u64 (o.getD []))/\New w w':=by obtain⟨o,a,h⟩:=h;obtain⟨A,m,c,e,k,b⟩:=OptW.u h;have l:=k.len;rw[zaa] at l;exact⟨o,A,m,c,a,e,by have:=a.few;omega,k,b⟩
theorem zi4:∀ps:List (List Nat),(∀p∈ps,0<p.length/\(encP p).length<=600000)->(ps.flatMap encP).length<=ps.flatten.length*600000
 | [],_=>by simp
 |p::ps,h=>by
  have:=zi4 ps fun q a=>h q (by simp[a])
  have:=h p (by simp);rw[qt6,qvg,qrp,qrp];omega
theorem zuu{l:List Nat}(b:∀x∈l,x<=18446744073709551615)(c:l.length<=65536):(zlu l).length<=l.length*600000:=by
 have:=zi4 (pcs l) fun p a=>⟨(z91 l p a).1,z2h (znl b a).1 (qqs (znl b a).2 c)⟩
 rwa[zmi] at this
theorem zkb{c:zab}(h:CellFine c):zaj c:=⟨h.1,h.2.1⟩
theorem zuv{t:Int}{l:List zab}(h:zjk t l=true):(plB t l).length<=4300000000:=by
 obtain⟨⟨_,_,d⟩,a⟩:=plOk_iff.1 h;unfold plB;split
 ·rw[za0];omega
 ·have:=zuq l a (fun c b=>zgg (a c b))
  omega
theorem zz5{w:World}{A:Option Addr}{n c:Nat}{t:Int}{L:List zab}(h:Reads w w.heap.size 5 A n (recs zay L))(hL:∀y∈L,CellFine y)(hn:n<=65536):
 Calls Tryz.prog 155 #[.int .i64 t,.slice A n c] w (OptB (zi7 t L) w):=by
 obtain rfl:=h.lenCell;have C:=qwk (zzz (c:=c) h hL (by omega));have z:∀y∈(zgs L).1,zaj y:=fun y hy=>zkb (hL y ((zmd L y).1 hy))
 have a1:=zlg L;have hw:=zjn (l:=L) hn;have D:=zuu hw (by have:=(zlf L).len;omega);have r:=(zlf L).len;obtain⟨M,g⟩:∃M,M=zi7 t L:=⟨_,rfl⟩;rw[<-g];unfold zi7 at g;simp only[hn,if_true] at g;unfold z9m at C;generalize(zgs L).1=E at*;generalize(zgs L).2=P at*;have H:∀V,plO t E=some V->V.length<=4300000000:=fun V hV=>by obtain⟨a,b⟩:=plO_iff.1 hV;rw[<-b];exact zuv a
 have HM:=qwk g;have R:=qwk z;have HW:=qwk hw;have a3:=qwk r;have U:=qwk H;have S:Hid ((zlu P).length<=40000000000):=qwk (by rw[r] at D;omega);clear g z hw h hL H D r;go_enter Tryz.func155,Tryz.ntmps155
 go_wp2_with fail
 refine C.out.mono ?_;rintro e w1 ⟨A1,I,c1,A2,c2,rfl,o1,o2,K⟩;have F:I=E.length:=(qwz o1).lenCell;have b6:=K.size;have X:=zmg (t:=t) (c:=c1) (qwz o1) R.out (by omega);have RE:=qwk (fun(W:World) (hW:New w1 W)=>z97 (c:=c2) (o2.later hW).reads o2.cap.1 HW.out (by omega));have a4:I<=65536:=by omega
 have j:=qwk F;generalize plO t E=O at*;have X:=qwk X;clear C a1 o1 F o2;go_wp2_with fail
 refine X.out.mono ?_;intro e w2 h2;cases O with
 |none=>
  obtain⟨rfl,u⟩:=h2;go_wp2_with fail
  go_ret2
  have g:=HM.out;rw[g];exact⟨rfl,qw5 K u⟩
 |some V=>
  obtain⟨A3,J,c3,rfl,d,u⟩:=h2;have G:J=V.length:=by have:=d.len;rwa[zaa] at this
  have hV:=U.out V rfl;have RW:=qwk (RE.out w2 u);have k:=qw5 K u;have c0:=k.size;have T:=qwk G;have a5:J<=4300000000:=by omega
  have a9:IntKind.u64.wrap (I:Int)=(I:Int):=by rw[qwp];omega
  have b0:IntKind.u64.wrap (J:Int)=(J:Int):=by rw[qwp];omega
  have P1:Hid (∀W,Calls Tryz.prog 111 #[.slice none 0 0,.int .u64 (I:Int)] W (zcx ([]++vp E.length) W)):=qwk (fun W=>by rw[j.out];exact zdc none 0 0 [] E.length W qwy (by omega) (by have:=j.out;omega));have P3:Hid (∀W,Calls Tryz.prog 111 #[.slice none 0 0,.int .u64 (J:Int)] W (zcx ([]++vp V.length) W)):=qwk (fun W=>by rw[T.out];exact zdc none 0 0 [] V.length W qwy (by omega) (by omega));have V1:=zae (n:=E.length) (by have:=j.out;omega);have V3:=zae (n:=V.length) (by omega);clear G hV RE;go_wp2_with fail
  refine RW.out.mono ?_;rintro e w3 ⟨A4,n4,c4,rfl,i,Y⟩;have a6:n4<=40000000000:=by have:=i.len;rw[zaa] at this;have:=S.out;omega
  have d:=d.later Y;have m:=qw5 k Y;have a2:=m.size;clear RW k u Y K;go_wp2_with fail
  refine(P1.out _).mono ?_;rintro e w4 ⟨A5,n5,c5,rfl,f,N⟩;rw[qrr] at f;have a7:n5<=10:=by have:=f.len;rw[zaa] at this;omega
  have p:=zgu (ziw f (d.base_le (qq1 _)));have q:=zgu (ziw f (i.base_le (qq1 _)));have d:=d.later N;have i:=i.later N;have o:=qw5 m N;have d0:=o.size;have f:=f.base_le a2;clear N m P1;go_wp2_with fail
  refine(P3.out _).mono ?_;rintro e w5 ⟨A6,n6,c6,rfl,Q,v⟩;rw[qrr] at Q;have a8:n6<=10:=by have:=Q.len;rw[zaa] at this;omega
  have d:=d.later v;have i:=i.later v;have f:=f.later v;have s:=qw5 o v;have d1:=s.size;clear v o P3;go_wp2_with (first
   |(refine zaq elB rfl (.tmp 36) (.tmp 40) rfl (W:=w) (B:=w.heap.size) f Q.reads rfl rfl s (qq0 _) (by omega) (by omega) (by simp only[maxLen];omega) ?_
     intro A7 c7 w7 _ _ o7 g7 b7 Z;have a0:=zmj p Z d;have x:=zmj q Z i;have p3:=d.kept g7 p;have p4:=i.kept g7 q;have d2:=b7.size;clear f Q d i g7 Z p q)
   |(refine zaq elB rfl (.tmp 42) (.tmp 43) rfl (W:=w) (B:=w.heap.size) o7 p3.reads rfl rfl b7 (qq0 _) (by omega) (by omega) (by simp only[maxLen];omega) ?_
     intro A8 c8 w8 _ _ o8 g8 b8 d8;have q4:=p4.kept g8 x;have d3:=b8.size;clear o7 p3 p4 g8 a0 x)
   |(refine zaq elB rfl (.tmp 45) (.tmp 46) rfl (W:=w) (B:=w.heap.size) o8 q4.reads rfl rfl b8 (qq0 _) (by omega) (by omega) (by simp only[maxLen];omega) ?_
     intro A9 c9 w9 _ _ o9 _ b9 _))
  go_ret2
  have g:=HM.out;rw[g];exact⟨_,_,_,rfl,o9,b9⟩
theorem z98{t:Int}{l:List zab}{b:List Nat}(h:zi7 t l=some b):b.length<=50000000000:=by
 unfold zi7 at h;split at h
 ·cases h
 ·rename_i V c
  split at h
  ·rename_i d
   injection h with h;have g:=(zlf l).len;have e:=zlg l;have i:V.length<=4300000000:=by rw[<-(plO_iff.1 c).2];exact zuv (plO_iff.1 c).1
   have f:=zuu (zjn d) (by omega);have a:=zae (n:=(zgs l).1.length) (by omega);have b:=zae (n:=V.length) (by omega);rw[<-h];simp only[qrp];omega
  ·cases h
theorem qf3{t:Int}{l:List zab}{b:List Nat}(g:∀c∈l,zaj c)(h:zi7 t l=some b):∀x∈b,x<256:=by
 unfold zi7 at h;split at h
 ·cases h
 ·rename_i V e
  split at h
  ·rename_i i
   injection h with h;intro x a;rw[<-h] at a;simp only[qr5] at a;rcases a with((a|a)|a)|a
   ·exact zfu _ _ (qq0 _) x a
   ·exact zfu _ _ (qq0 _) x a
   ·rw[<-(plO_iff.1 e).2] at a
    unfold plB at a;split at a
    ·exact zhp _ _ x a
    ·obtain⟨c,f,a⟩:=qtj.1 a
     have d:=g c ((zmd l c).1 f);unfold plE at a;split at a
     ·exact zhp _ _ x a
     ·split at a
      ·rcases qr5.1 a with k|k
       ·exact zfu _ _ (qq0 _) x k
       ·exact d.1.2 x k
      ·split at a
       ·rcases qr5.1 a with k|k
        ·exact zfu _ _ (qq0 _) x k
        ·exact zfu _ _ (qq0 _) x k
       ·simp at a
   ·exact zwx (zjn i) x a
  ·cases h
theorem qb2{l:List Int}(h:∀x∈l,zf9 x):∀x∈blockD l,x<256:=by
 intro x a;have b:=zk2 _ (zma h);unfold blockD at a;rcases qr5.1 a with a|a
 ·exact zfu _ _ (qq0 _) x a
 ·rcases qsm.1 a with rfl|a
  ·omega
  ·exact zhp _ _ x a
theorem z0w{l:List Int}{b:List Nat}(h:zql l=some b):∀x∈b,x<256:=by
 unfold zql at h;split at h
 ·cases h
 ·split at h
  ·injection h with h
   subst h;intro x a;cases a
  ·injection h with h
   subst h;intro x a;rcases qr5.1 a with a|a
   ·exact zfu _ _ (qq0 _) x a
   ·unfold zcq at a
    obtain⟨k,c,a⟩:=qtj.1 a;exact qb2 (zwp (zhv l) k) x a
end Go.Proofs.Y
namespace Go.Hm
open Go Go.RowKit
end Go.Hm
namespace Go.Proofs.Y
open Go.RowKit Go.Hm
theorem z27{b:List Nat}{n:Int}:∃o,IsDec b n o:=by
 by_cases h:∃l:List Nat,(l.length:Int)=n/\l.length<=65536/\(∀x∈l,x<=18446744073709551615)/\zlu l=b
 ·obtain⟨l,a⟩:=h
  refine⟨some l,fun j=>⟨fun e=>by injection e with e;subst e;exact a,fun c=>?_⟩⟩;rw[qfv a.2.1 c.2.1 a.2.2.1 c.2.2.1 (by rw[a.2.2.2,c.2.2.2])]
 ·exact⟨none,z5c fun l d f g i=>h ⟨l,d,f,g,i⟩⟩
end Go.Proofs.Y
