/- Merged. -/
import Derived.Test.YtbahbnbpmfgimaaGreatDoorBun20
import Derived.Test.YtbahbnbpmfgimaaGreatDoorBun21
import Derived.Test.YtbahbnbpmfgimaaGreatDoorBun37
set_option maxHeartbeats 4000000
namespace Go.Proofs.Y
open Go.RowKit Go.Hm Go.Shelf
attribute [local go_sem] Oper.semAt_some
structure BStep(n0 B:Nat)(W W':World):Prop where
 ko:KeepsOthers W W'
 kb:KB n0 B W W'
 be:Below B W W'
theorem BStep.trans{n0 B:Nat}{a b c:World}(h:BStep n0 B a b)(k:BStep n0 B b c):BStep n0 B a c:=⟨h.ko.trans k.ko,h.kb.trans k.kb,h.be.trans k.be⟩
theorem zvb{W w1:World}(h:New W w1):KeepsOthers W w1:=⟨h.size,fun k _ hk _=>(h.block k (qmv.1 hk).1).trans hk⟩
theorem BStep.new{n0 B:Nat}{W w1:World}(h:New W w1)(hn:n0<=W.heap.size)(hB:B<n0):BStep n0 B W w1:=⟨zvb h,KB.new h hn,Below.mono h (by omega)⟩
def BRow(n0 B:Nat)(xs:List Nat)(W:World):Prop:=∃v,Boxed W B 24 v/\Go.Hm.Own W n0 5 v (zan .u8 xs)
theorem znp{W w1 w2:World}{n0 B:Nat}{v v':Value}{xs ys:List Nat}(hv:Boxed W B 24 v)(ho:Go.Hm.Own W n0 5 v (zan .u8 xs))(hn:n0<=W.heap.size)(hB:B<n0)(h1:New W w1)
 (o2:Go.Hm.Own w2 n0 5 v' (zan .u8 ys))(g:w1.grownBy w2 v.ownBlock):Boxed w2 B 24 v/\BRow n0 B ys (w2.setCell ⟨B,0,none⟩ v')/\BStep n0 B W (w2.setCell ⟨B,0,none⟩ v'):=by
 have hte:24≠5:=by decide
 have hv1:Boxed w1 B 24 v:=(h1.block B hv.lt).trans hv;have ho1:Go.Hm.Own w1 n0 5 v (zan .u8 xs):=ho.later h1;have hv2:Boxed w2 B 24 v:=hv1.kept g (hv1.not_row hte ho1);have hlt:=ho1.lt;refine⟨hv2,⟨v',hv2.set v',o2.kept (grownBy_setCell' w2 B v') (.inr (hv2.not_row hte o2).symm)⟩,?_,?_,?_⟩
 ·refine((zvb h1).trans (KeepsOthers.of_grownBy g fun j o ej hj=>?_)).trans (KeepsOthers.setCell _ _ _)
  rcases ho1.2 with⟨rfl,_⟩|⟨q,cap,cur,rfl,_,hgb,_⟩
  ·simp[Value.ownBlock] at ej
  ·obtain rfl:q=j:=by simpa[Value.ownBlock] using ej
   rw[hgb] at hj;cases hj;rfl
 ·refine⟨?_,fun i i1 i2=>?_⟩
  ·have a:=h1.size
   have b:=g.size;have d:=(KeepsWalks.setCell w2 ⟨B,0,none⟩ v').size;omega
  ·refine(Below.heap_setCell _ _ _ i i2).trans ((g.block i (by have:=h1.size;omega) ?_).trans (h1.block i (by omega)))
   intro e;have:=(hlt i e.symm).1;omega
 ·have hb1:Below B W w1:=Below.mono h1 (by omega)
  have hs1:=h1.size;have hb2:Below B W w2:=hb1.grown g (by omega) (fun k e=>by have:=(hlt k e).1;omega);exact hb2.setCell (p:=⟨B,0,none⟩) (qmt _) v'
theorem BRow.later{n0 B:Nat}{xs:List Nat}{W w1:World}(h:BRow n0 B xs W)(n:New W w1):BRow n0 B xs w1:=by obtain⟨v,hv,ho⟩:=h;exact⟨v,(n.block B hv.lt).trans hv,ho.later n⟩
theorem BRow.opened{n0 B:Nat}{xs:List Nat}{W:World}(h:BRow n0 B xs W):∃A c,Boxed W B 24 (.slice A xs.length c)/\Go.Hm.Own W n0 5 (.slice A xs.length c) (zan .u8 xs):=by obtain⟨v,hv,ho⟩:=h;obtain⟨A,c,rfl,-,-⟩:=ho.slice;rw[zaa] at*;exact⟨A,c,hv,ho⟩
theorem KB.grown{n0 bo base:Nat}{W W':World}{v:Value}{e:TypeId}{xs:List Value}(ho:Go.Hm.Own W base e v xs)(h:n0<=base)(hn:n0<=W.heap.size)(g:W.grownBy W' v.ownBlock):KB n0 bo W W':=
 ⟨g.size,fun i i1 _=>g.block i (by omega) (fun e=>by have:=(ho.lt i e.symm).1;omega)⟩
theorem qdg{W:World}{base:Nat}{e:TypeId}{v:Value}{xs ys:List Nat}{k:IntKind}(h:W.ownsRow base e 1 v ((zan k xs).length+ys.length) (zan k xs++zan k ys)):Go.Hm.Own W base e v (zan k (xs++ys)):=by unfold Go.Hm.Own;rw[zdl,qni,zaa k ys];exact h
theorem z7x{W1 W2:World}{base:Nat}{e e':TypeId}{u v:Value}{xs ys:List Value}(h2:Go.Hm.Own W2 W1.heap.size e u xs)(h1:Go.Hm.Own W1 base e' v ys):u.ownBlock=none\/u.ownBlock≠v.ownBlock:=by
 rcases hu:u.ownBlock with _|k
 ·exact .inl rfl
 ·refine .inr fun e=>?_
  have a:=(h2.lt k hu).1;have b:=(h1.lt k e.symm).2;omega
theorem zym{W:World}{base B:Nat}{e:TypeId}{u:Value}{xs:List Value}(h:Go.Hm.Own W base e u xs)(hB:B<base):u.ownBlock=none\/u.ownBlock≠some B:=
 .inr fun e=>by have:=(h.lt B e).1;omega
theorem z3h{β:Type}{n0 bo:Nat}{W0:World}(h0:n0<=W0.heap.size):OwnFrom n0 (fun(_:β) W=>KB n0 bo W0 W):=
 fun _ A B row hs hg hr=>⟨qml hs.1 hg.size,fun k h1 h2=>(hg.block k (qmo h1 (qml h0 hs.1)) (fun e=>by have:=(hr k e.symm).1;omega)).trans (hs.2 k h1 h2)⟩
theorem z0x{p:List Nat}(hw:∀x∈p,x<=18446744073709551615)(hl:p.length<=65536):(encP p).length<=600000:=by
 have a:=zoo p hw;have e1:=zap (n:=2*p.length) (by omega);have e2:=zap (n:=2*p.length+1) (by omega);have e3:(vp (p.getD 0 0)).length<=10:=by
  refine zap ?_;rw[qoa];cases h:p[0]? with
  |none=>simp
  |some x=>
   have:=hw x (List.mem_of_getElem? h);simp;omega
 have m:=qqn a hl;unfold encP;split
 ·rw[qni];omega
 ·rw[qni,qnu,zbg];omega
def zyn{n:Nat}(L:List Nat)(pre:List (Sp n)):List Nat:=pre.flatMap fun x=>encP (seg L x.1.1 x.1.2)
theorem z7y{n:Nat}(L:List Nat)(pre:List (Sp n))(x:Sp n):zyn L (pre++[x])=zyn L pre++encP (seg L x.1.1 x.1.2):=by simp[zyn]
theorem qdh{L:List Nat}{ys:List (Sp L.length)}(h:ys.map Subtype.val=zcl L 0 0):zyn L ys=z0v L:=by unfold zyn z0v;rw[<-z3a,<-h,qoc,List.flatMap_map];rfl
theorem zvc{L:List Nat}(hL:∀x∈L,x<=18446744073709551615){f t:Nat}:∀x∈seg L f t,x<=18446744073709551615:=fun x hx=>hL x (qpa (qnh hx))
theorem qdi{n:Nat}{L:List Nat}(hL:∀x∈L,x<=18446744073709551615)(hl:L.length<=65536)(pre:List (Sp n)):(zyn L pre).length<=pre.length*600000:=by
 induction pre with
 |nil=>simp[zyn]
 |cons x pre ih=>
  have a:=z0x (p:=seg L x.1.1 x.1.2) (zvc hL) (by unfold seg;rw[qmq,qmp];omega);have e:zyn L (x::pre)=encP (seg L x.1.1 x.1.2)++zyn L pre:=rfl;rw[e,qni,qnu];omega
set_option maxRecDepth 100000 in
theorem z3i{w:World}{A:Option Addr}{c:Nat}{L:List Nat}(h:Reads w w.heap.size 1 A L.length (zan .u64 L))(hc:L.length<=c)(hL:∀x∈L,x<=18446744073709551615)(hl:L.length<=65536):
 Calls Tryz.prog 172 #[.slice A L.length c] w (OptB (some (z0v L)) w):=by
 have hfew:=z3f (L:=L) L.length 0 0 (by omega) (qmt _) (qmu _);have HL:=Hz hL;clear hL;refine(callsIn_wide (n:=6)).1 ?_;refine callsIn_of_wp_marks Tryz.func172 rfl trivial ?_ rfl;simp only[Tryz.ntmps172,qnm,qnu,qp3,Nat.reduceAdd,Nat.reduceSub,Array.replicate_succ,Array.replicate_zero,List.push_toArray,List.append_toArray,qnk,qnt]
 gi_wp2_with fail
 refine⟨trivial,?_⟩;refine(callsIn_wide.2 (z3e A L.length c _)).mono ?_;rintro e w' ⟨rfl,rfl⟩
 gi_wp2_with fail
 obtain⟨W0,hW0⟩:∃W,W=(((w.alloc (.cells #[.slice none 0 0] 24)).alloc (.cells #[.bool false] 4)).alloc (.cells #[.slice none 0 0] 24)).alloc (.cells #[.slice A L.length c] 201):=⟨_,rfl⟩;have hz:W0.heap.size=w.heap.size+4:=by rw[hW0];simp
 have hB0:Below w.heap.size w W0:=by rw[hW0];exact((((Below.refl _ w).alloc (qmt _) _).alloc (by simp) _).alloc (by simp;omega) _).alloc (by simp;omega) _
 have b0:Boxed W0 w.heap.size 24 (.slice none 0 0):=by rw[hW0];exact(((Boxed.new w _ _).alloc _).alloc _).alloc _
 have b1:Boxed W0 (w.heap.size+1) 4 (.bool false):=by have:=((Boxed.new (w.alloc (.cells #[.slice none 0 0] 24)) 4 (.bool false)).alloc (.cells #[.slice none 0 0] 24)).alloc (.cells #[.slice A L.length c] 201);rw[World.size_alloc,<-hW0] at this;exact this
 have b2:Boxed W0 (w.heap.size+2) 24 (.slice none 0 0):=by have:=(Boxed.new ((w.alloc (.cells #[.slice none 0 0] 24)).alloc (.cells #[.bool false] 4)) 24 (.slice none 0 0)).alloc (.cells #[.slice A L.length c] 201);rw[World.size_alloc,World.size_alloc,<-hW0] at this;exact this
 have b3:Boxed W0 (w.heap.size+3) 201 (.slice A L.length c):=by have:=Boxed.new (((w.alloc (.cells #[.slice none 0 0] 24)).alloc (.cells #[.bool false] 4)).alloc (.cells #[.slice none 0 0] 24)) 201 (.slice A L.length c);rw[World.size_alloc,World.size_alloc,World.size_alloc,<-hW0] at this;exact this
 have hrd:Reads W0 (w.heap.size+4) 1 A L.length (zan .u64 L):=(h.keep fun p hp=>hB0.cell hp).more (by omega);have hAo:0<L.length-> ∀ad,A=some ad->ad.block≠w.heap.size+2:=by intro h0 ad e;obtain⟨ad',e',hb,-⟩:=h.2 h0;rw[e] at e';cases e';omega
 rw[<-hW0];clear hW0;refine wpIn_rangeFunc_ownG rfl (by omega) (gf:=206) (lb:= #[.pointer (some ⟨w.heap.size+1+1+1,0,none⟩)]) rfl trivial (enters_of Tryz.func206 (by kernel_rfl) rfl)
  (zva (n0:=w.heap.size+4) (bo:=w.heap.size+2) (by omega) hc (by omega) (by omega) (by omega) (by omega) hAo b3.cell hrd) KB.trans (fun W l o o' h1 h2 h3 h4=>KB.of_below (belowK_b (w:=W0) (by omega) W l o o' h1 h2 h3 h4)) (Below.refl _ _) (fun _=>rfl)
  (fun pre W=>(∃v,Boxed W (w.heap.size+2) 24 v/\W.ownsRow (w.heap.size+4) 5 1 v (zan .u8 (zyn L pre)).length (zan .u8 (zyn L pre))/\True)/\KB (w.heap.size+4) (w.heap.size+2) W0 W/\Below (w.heap.size+2) W0 W)
  (fun _ _ _=>False)
  (OwnFrom.and (Go.Own.from (holdsRow_own (w.heap.size+4) (w.heap.size+2) 24 5 1 (fun pre:List (Sp L.length)=>(zan .u8 (zyn L pre)).length) (fun pre=>zan .u8 (zyn L pre)) (fun _ _=>True)) _) (OwnFrom.and (by rw[hz];exact z3h (by omega)) (ownFrom_below (by omega) (by omega))))
  (fun _ _ _ _ _ hs _ _=>hs)
  ⟨⟨_,b2,World.ownsRow_nil _ _ _ _,trivial⟩,KB.refl _ _ _,Below.refl _ _⟩
  (fun x=>{tmps:= #[.slice A L.length c,undef,.pointer (some ⟨w.heap.size,0,none⟩),.pointer (some ⟨w.heap.size+1,0,none⟩),.pointer (some ⟨w.heap.size+1+1,0,none⟩),slV A c x.1.1 x.1.2,undef,undef,undef,.slice A L.length c,.int .i64 (L.length:Int),.bool (decide ((65536:Int)<(L.length:Int))),.slice A L.length c,.func (.func 206) #[] #[.pointer (some ⟨w.heap.size+1+1+1,0,none⟩)],slV A c x.1.1 x.1.2,undef,undef,undef,undef,undef,undef,undef,undef,undef,undef,undef,undef,undef,undef,undef,undef,undef,undef,undef,undef,undef,undef,undef,undef,undef,undef,undef,undef,undef,undef,undef,undef],defers:=[]}) ?assign ?body ?done ?stop
 case assign=>
  intro l x W K hK
  gi_wp2
  exact hK
 case body=>
  rintro l pre x W ⟨⟨v,hv,hrow,-⟩,hK,hB⟩ hlt;have hx:=x.2;have hzW:w.heap.size+4<=W.heap.size:=by have:=hB.size;omega
  have hrW:=zo6 (hK.reads hrd hAo) hc hx.1 hx.2;have hpl:=zte (l:=L) (a:=x.1.1) hx.2;have hsn:=z7y L pre x;have hp65:(seg L x.1.1 x.1.2).length<=65536:=by omega
  have hw:=zvc HL.out (f:=x.1.1) (t:=x.1.2);have hxs:=qdi HL.out hl pre;have HRS:=Hz (fun W' (k:KB (w.heap.size+4) (w.heap.size+2) W0 W')=>zo6 (k.reads hrd hAo) hc hx.1 hx.2);unfold slV;rw[<-hpl];generalize(if c=x.1.1 then A else A.map (·.add x.1.1))=AS at*;generalize seg L x.1.1 x.1.2=p at*;generalize c-x.1.1=cp;generalize zyn L pre=xs at*;have hxs2:xs.length<=78643800000:=by omega
  have hbr:BRow (w.heap.size+4) (w.heap.size+1+1) xs W:=⟨v,hv,hrow⟩;have HS:=Hz hsn;have HK:=Hz hK;have HB:=Hz hB;have HW:=Hz hw;have HRd:=Hz (hrW.more hzW);have IR:=Hz (z7v (c:=cp) HRd.out (by omega));clear hsn hK hB hw hrW hv hrow hx hpl hxs hrd hAo b0 b1 b2 b3 hB0 h
  gi_wp2_with fail
  refine⟨trivial,?_⟩;refine(CallsIn.inRound l (callsIn_wide.2 IR.out)).mono ?_;rintro e w1 ⟨rfl,n1⟩;have hbr1:=hbr.later n1;have HN1:=Hz n1;have hz1:w.heap.size+4<=w1.heap.size:=qml hzW n1.size;clear IR n1;by_cases h4:4<=st p
  ·have d4:decide (4<=st p)=true:=decide_eq_true h4
   rw[d4]
   gi_wp2_with fail
   obtain⟨N,hN⟩:∃N:Nat,(2*(p.length:Int))=(N:Int)/\N=2*p.length:=⟨2*p.length,by omega,rfl⟩;rw[hN.1];have hNb:N<=131072:=by omega
   have hpos1:=zug N;have hln1:=zap (n:=N) (by omega);have hp0:0<p.length:=qmo (by omega) (zga p).1;have hEP:Hid (encP p=vp N++vp (p.getD 0 0)):=Hz (by unfold encP;rw[if_pos h4,hN.2]);have hg0:p.getD 0 0<=18446744073709551615:=by rw[qoa,qmm hp0];exact HW.out _ (qm8 hp0)
   have hpos2:=zug (p.getD 0 0);have hln2:=zap (n:=p.getD 0 0) (by omega);clear hN;refine zgc (KB (w.heap.size+4) (w.heap.size+4)) 4 [(0,0),(1,1),(2,2),(2,3),(2,4)] (KB.refl _ _) KB.trans (by kernel_rfl) (fun _ _ h=>h) (by kernel_rfl) (by kernel_rfl) (by kernel_rfl) (by kernel_rfl) ?_;have nd1:=New.drew w1;generalize w1.drew=d1 at nd1⊢;obtain⟨Av1,cv1,hv1,ho1⟩:=(hbr1.later nd1).opened;have zd1:w.heap.size+4<=d1.heap.size:=qml hz1 nd1.size;have P1:=Hz (zc1 none 0 0 [] N d1 Reads.none_ (by omega) (by omega));refine zbm rfl rfl (v:=?_) (fun W' hW=>?_) ?_;rotate_left
   ·have hcl:=(hW.cell (p:=⟨w.heap.size+1+1,0,none⟩) (by show w.heap.size+1+1<_;omega) (by show w.heap.size+1+1≠_;omega)).trans hv1.cell
    go_simp<;> with_reducible rfl
   simp only[Act.put,qo6,qou,qo7];refine zbh rfl rfl (v:=?_) (fun W'=>?_) ?_;rotate_left
   ·go_simp<;> with_reducible rfl
   simp only[Act.put,qo6,qou,qo7];refine zav rfl rfl (fun K hK=>?_);go_simp
   with_reducible refine P1.out.mono ?_
   rintro e w1 ⟨A1,n1,c1,rfl,o1,b1⟩;refine hK _ _ (.inr (.inr (KB.new b1 zd1))) ?_;clear hK P1;rw[qnk] at o1;obtain rfl:n1=(vp N).length:=by have:=o1.len;rwa[zaa] at this
   obtain⟨ad1,rfl,-⟩:=o1.reads.2 hpos1;refine zav rfl rfl (fun K hK=>?_);refine zkn elB (.tmp 21) (.tmp 23) rfl (W:=w1) (B:=w.heap.size+4) (ho1.later b1) o1.reads hpos1 rfl rfl (Below.refl _ _) (qmt _) (qml zd1 b1.size) (zci _ _) (by rw[zaa];omega) (by rw[zaa];simp only[maxLen];omega) ?_;intro A1' c1' w1' _ _ o1' g1' _;refine hK _ _ (.inr (.inr (KB.grown (ho1.later b1) (qmt _) (qml zd1 b1.size) g1'))) ?_;clear hK;rw[<-zdl] at o1';obtain⟨hx1,hbr1,st1⟩:=znp hv1 ho1 zd1 (by omega) b1 o1' g1';have x1:=hx1.cell;have y1:=hx1.frozen;refine zav rfl rfl (fun K hK=>?_);go_simp
   refine hK _ _ (.inr (.inl rfl)) ?_;clear hK;refine zed ?_;generalize World.setCell w1' _ _=s1 at hbr1 st1⊢;have zs1:w.heap.size+4<=s1.heap.size:=qml zd1 st1.ko.size;clear hx1 x1 y1 o1' g1' o1 b1 hv1 ho1;obtain⟨ap,rfl,hap,hcp⟩:=(HRS.out s1 (HK.out.trans ((KB.new HN1.out hzW).trans ((KB.new nd1 hz1).trans st1.kb)))).num hp0;have hcp:s1.cell? ap=some (.int .u64 ((p.getD 0 0:Nat):Int)):=hcp;generalize p.getD 0 0=x0 at*
   gi_wp2_with fail
   refine zgc (KB (w.heap.size+4) (w.heap.size+4)) 6 [(0,0),(1,1),(1,2),(0,3),(2,4),(2,5),(2,6)] (KB.refl _ _) KB.trans (by kernel_rfl) (fun _ _ h=>h) (by kernel_rfl) (by kernel_rfl) (by kernel_rfl) (by kernel_rfl) ?_;have nd2:=New.drew s1;generalize s1.drew=d2 at nd2⊢;obtain⟨Av2,cv2,hv2,ho2⟩:=(hbr1.later nd2).opened;rw[qni] at hv2 ho2;have zd2:w.heap.size+4<=d2.heap.size:=qml zs1 nd2.size;have P2:=Hz (zc1 none 0 0 [] x0 d2 Reads.none_ (by omega) (by omega));have hcp2:d2.cell? ap=some (.int .u64 (x0:Int)):=(nd2.cell (p:=ap) (qmo hap zs1)).trans hcp;refine zbm rfl rfl (v:=?_) (fun W' hW=>?_) ?_;rotate_left
   ·have hcl:=(hW.cell (p:=⟨w.heap.size+1+1,0,none⟩) (by show w.heap.size+1+1<_;omega) (by show w.heap.size+1+1≠_;omega)).trans hv2.cell
    go_simp<;> with_reducible rfl
   simp only[Act.put,qo6,qou,qo7];refine zbh rfl rfl (v:=?_) (fun W'=>?_) ?_;rotate_left
   ·go_simp<;> with_reducible rfl
   simp only[Act.put,qo6,qou,qo7];refine zbh rfl rfl (v:=?_) (fun W'=>?_) ?_;rotate_left
   ·go_simp<;> with_reducible rfl
   simp only[Act.put,qo6,qou,qo7];refine zbm rfl rfl (v:=?_) (fun W' hW=>?_) ?_;rotate_left
   ·have hcl:=(hW.cell (p:=ap) hap (by omega)).trans hcp2
    go_simp<;> with_reducible rfl
   simp only[Act.put,qo6,qou,qo7];refine zav rfl rfl (fun K hK=>?_);go_simp
   with_reducible refine P2.out.mono ?_
   rintro e w2 ⟨A2,n2,c2,rfl,o2,b2⟩;refine hK _ _ (.inr (.inr (KB.new b2 zd2))) ?_;clear hK P2;rw[qnk] at o2;obtain rfl:n2=(vp x0).length:=by have:=o2.len;rwa[zaa] at this
   obtain⟨ad2,rfl,-⟩:=o2.reads.2 hpos2;refine zav rfl rfl (fun K hK=>?_);refine zkn elB (.tmp 25) (.tmp 29) rfl (W:=w2) (B:=w.heap.size+4) (ho2.later b2) o2.reads hpos2 rfl rfl (Below.refl _ _) (qmt _) (qml zd2 b2.size) (zci _ _) (by simp only[zaa,qni];omega) (by simp only[zaa,qni,maxLen];omega) ?_;intro A2' c2' w2' _ _ o2' g2' _;refine hK _ _ (.inr (.inr (KB.grown (ho2.later b2) (qmt _) (qml zd2 b2.size) g2'))) ?_;clear hK;rw[<-zdl] at o2';obtain⟨hx2,hbr2,st2⟩:=znp hv2 ho2 zd2 (by omega) b2 o2' g2';have x2:=hx2.cell;have y2:=hx2.frozen;refine zav rfl rfl (fun K hK=>?_);go_simp
   refine hK _ _ (.inr (.inl rfl)) ?_;clear hK;refine zed ?_;generalize World.setCell w2' _ _=s2 at hbr2 st2⊢;have zs2:w.heap.size+4<=s2.heap.size:=qml zd2 st2.ko.size;clear hx2 x2 y2 o2' g2' o2 b2 hv2 ho2
   gi_wp2
   have ST:=(BStep.new HN1.out hzW (by omega)).trans ((BStep.new nd1 hz1 (by omega)).trans (st1.trans ((BStep.new nd2 zs1 (by omega)).trans st2)));obtain⟨v',hv',ho'⟩:=hbr2;exact⟨ST.ko.from _,ST.kb,⟨v',hv',by rw[HS.out,hEP.out,<-qm5];exact ho',trivial⟩,HK.out.trans ST.kb,HB.out.trans ST.be⟩
  ·have d4:decide (4<=st p)=false:=decide_eq_false h4
   rw[d4];obtain⟨N,hN⟩:∃N:Nat,(2*(p.length:Int))=(N:Int)/\N=2*p.length:=⟨2*p.length,by omega,rfl⟩;rw[hN.1];have hNb:N<=131072:=by omega
   have hwr:IntKind.u64.wrap ((N:Int)+1)=((N+1:Nat):Int):=by rw[IntKind.wrap_u64];omega
   have hpos3:=zug (N+1);have hln3:=zap (n:=N+1) (by omega);have hEP:Hid (encP p=vp (N+1)++restB p):=Hz (by unfold encP restB;rw[if_neg h4,hN.2]);clear hN;have hrb:0<(restB p).length/\(restB p).length<=600000:=by have a:=zoo p HW.out;have m:=qqn a hp65;unfold restB;rw[qnu,zbg];omega
   have LR:=Hz (zyl (c:=cp) ((HRS.out w1 (HK.out.trans (KB.new HN1.out hzW))).more hz1) HW.out hp65);generalize restB p=rb at*
   gi_wp2_with fail
   refine⟨trivial,?_⟩;refine(CallsIn.inRound l (callsIn_wide.2 LR.out)).mono ?_;rintro e w2 ⟨A2,n2,c2,rfl,o2,b2⟩;obtain rfl:n2=rb.length:=by have:=o2.len;rwa[zaa] at this
   obtain⟨ad2,rfl,-⟩:=o2.reads.2 hrb.1;clear LR;obtain⟨Aw,cw,hvw,how⟩:=hbr1.opened;have hvw2:Boxed w2 (w.heap.size+1+1) 24 _:=(b2.block _ hvw.lt).trans hvw;have how2:=how.later b2;have hz2:w.heap.size+4<=w2.heap.size:=qml hz1 b2.size
   gi_wp2_with fail
   refine zgc (KB (w.heap.size+4) (w.heap.size+4)) 5 [(0,0),(1,1),(1,2),(2,3),(2,4),(2,5)] (KB.refl _ _) KB.trans (by kernel_rfl) (fun _ _ h=>h) (by kernel_rfl) (by kernel_rfl) (by kernel_rfl) (by kernel_rfl) ?_;have nd3:=New.drew w2;generalize w2.drew=d3 at nd3⊢;have hv3:=(nd3.block _ hvw2.lt).trans hvw2;have hv3:Boxed d3 (w.heap.size+1+1) 24 _:=hv3;have ho3:=how2.later nd3;have zd3:w.heap.size+4<=d3.heap.size:=qml hz2 nd3.size;have P3:=Hz (zc1 none 0 0 [] (N+1) d3 Reads.none_ (by omega) (by omega));refine zbm rfl rfl (v:=?_) (fun W' hW=>?_) ?_;rotate_left
   ·have hcl:=(hW.cell (p:=⟨w.heap.size+1+1,0,none⟩) (by show w.heap.size+1+1<_;omega) (by show w.heap.size+1+1≠_;omega)).trans hv3.cell
    go_simp<;> with_reducible rfl
   simp only[Act.put,qo6,qou,qo7];refine zbh rfl rfl (v:=?_) (fun W'=>?_) ?_;rotate_left
   ·go_simp<;> with_reducible rfl
   simp only[Act.put,qo6,qou,qo7];refine zbh rfl rfl (v:=?_) (fun W'=>?_) ?_;rotate_left
   ·go_simp<;> with_reducible rfl
   simp only[Act.put,qo6,qou,qo7];refine zav rfl rfl (fun K hK=>?_);go_simp
   rw[show((N:Int)+1)=((N+1:Nat):Int) from rfl]
   with_reducible refine P3.out.mono ?_
   rintro e w3 ⟨A3,n3,c3,rfl,o3,b3⟩;refine hK _ _ (.inr (.inr (KB.new b3 zd3))) ?_;clear hK P3;rw[qnk] at o3;obtain rfl:n3=(vp (N+1)).length:=by have:=o3.len;rwa[zaa] at this
   obtain⟨ad3,rfl,-⟩:=o3.reads.2 hpos3;refine zav rfl rfl (fun K hK=>?_);refine zkn elB (.tmp 38) (.tmp 41) rfl (W:=w3) (B:=w.heap.size+4) (ho3.later b3) o3.reads hpos3 rfl rfl (Below.refl _ _) (qmt _) (qml zd3 b3.size) (zci _ _) (by rw[zaa];omega) (by rw[zaa];simp only[maxLen];omega) ?_;intro A3' c3' w3' _ _ o3' g3' _;refine hK _ _ (.inr (.inr (KB.grown (ho3.later b3) (qmt _) (qml zd3 b3.size) g3'))) ?_;clear hK;rw[<-zdl] at o3';obtain⟨hx3,hbr3,st3⟩:=znp hv3 ho3 zd3 (by omega) b3 o3' g3';have x3:=hx3.cell;have y3:=hx3.frozen;have q3:=((o2.later nd3).later b3).kept g3' (z7x o2 how);have q3:=q3.kept (grownBy_setCell' w3' (w.heap.size+1+1) (.slice A3' ((zan .u8 xs).length+(vp (N+1)).length) c3')) (zym q3 (by omega));refine zav rfl rfl (fun K hK=>?_);go_simp
   refine hK _ _ (.inr (.inl rfl)) ?_;clear hK;refine zed ?_;generalize World.setCell w3' _ _=s3 at hbr3 st3 q3⊢;have zs3:w.heap.size+4<=s3.heap.size:=qml zd3 st3.ko.size;clear hx3 x3 y3 o3' g3' o3 b3 hv3 ho3;obtain⟨Ay,cy,hvy,hoy⟩:=hbr3.opened;have hcy:=hvy.cell;have hfy:=hvy.frozen;rw[qni] at hoy hvy hcy;obtain⟨ad',e',-,hcs⟩:=q3.reads.2 hrb.1;cases e';obtain⟨i5,hi5,hi0,hi1,hi2⟩:=info_parts elB.hi
   gi_wp2_with (gi_at_builtin;refine wpListIn_append_own _ rfl _ _ 24 rfl (w.heap.size+4) 5 i5 (.int .u8 0) 1 1 (by kernel_rfl) hi5 hi0 hi1 hi2 rfl (by decide) _ _ _ rfl hoy ad2 rb.length c2 (zan .u8 rb) rfl (by rw[zaa,qm0]) hcs (zci _ _) (by simp only[zaa,qni,maxLen];omega) (by simp only[zaa,qni];omega) zs3 ?_;intro v' w4 hown' hgrow _;have o4:=qdg hown';rw[qm5] at o4;obtain⟨A4,c4,rfl,-,-⟩:=o4.slice;obtain⟨hx4,hbr4,st4⟩:=znp hvy hoy zs3 (by omega) (New.refl s3) o4 hgrow;have x4:=hx4.cell;have y4:=hx4.frozen)
   have ST:=(BStep.new HN1.out hzW (by omega)).trans ((BStep.new b2 hz1 (by omega)).trans ((BStep.new nd3 hz2 (by omega)).trans (st3.trans st4)));obtain⟨v',hv',ho'⟩:=hbr4;exact⟨ST.ko.from _,ST.kb,⟨v',hv',by rw[HS.out,hEP.out];exact ho',trivial⟩,HK.out.trans ST.kb,HB.out.trans ST.be⟩
 case done=>
  rintro D ys W hD hys ⟨⟨v,hv,hrow,-⟩,hKB,hB⟩ hK;have hall:=qdh hys;have hz0:=hB.size;have ho:Go.Hm.Own W (w.heap.size+4) 5 v (zan .u8 (zyn L ys)):=hrow;rw[hall] at ho;obtain⟨A2,c2,rfl,-,-⟩:=ho.slice;have b0':Boxed W w.heap.size 24 (.slice none 0 0):=(hKB.2 _ (by omega) (by omega)).trans b0;have b1':Boxed W (w.heap.size+1) 4 (.bool false):=(hKB.2 _ (by omega) (by omega)).trans b1;have x2:=hv.cell;have x0:=b0'.cell;have x1:=b1'.cell;have y0:=b0'.frozen;have y1:=b1'.frozen;clear hrow hAo hrd h b0 b1 b2 b3
  gi_wp2
  refine⟨by simp,.inl ⟨_,_,rfl,run_takeDeferred (((KeepsOthers.setCell W _ _).trans (KeepsOthers.setCell _ _ _)).same D _ hK rfl),?_⟩⟩;obtain⟨U,hU⟩:∃v,v=Value.slice A2 (zan .u8 (z0v L)).length c2:=⟨_,rfl⟩;rw[<-hU] at ho⊢;have hne0:some w.heap.size≠some D:=by simp;omega
  have hne1:some (w.heap.size+1)≠some D:=by simp;omega
  have s0:=(((b0'.set U).kept (grownBy_setCell' _ (w.heap.size+1) (.bool true)) (by simp)).kept (grownBy_putObj' _ D (.deferred none)) hne0).cell;have s1:=(((b1'.kept (grownBy_setCell' W w.heap.size U) (by simp)).set (.bool true)).kept (grownBy_putObj' _ D (.deferred none)) hne1).cell;have o1:=ho.kept (grownBy_setCell' W w.heap.size U) (zym ho (by omega));have o2:=o1.kept (grownBy_setCell' _ (w.heap.size+1) (.bool true)) (zym o1 (by omega));have o3:Go.Hm.Own (((W.setCell ⟨w.heap.size,0,none⟩ U).setCell ⟨w.heap.size+1,0,none⟩ (.bool true)).putObj D (.deferred none)) (w.heap.size+4) 5 U (zan .u8 (z0v L)):=ownsRow_putObj o2 (.deferred none) (((KeepsOthers.setCell W _ _).trans (KeepsOthers.setCell _ _ _)).same D _ hK rfl) rfl;have o4:=o3.base_le (b':=w.heap.size) (by omega);have hBw:Below w.heap.size w W:=hB0.trans (Below.mono hB (by omega));have hBf:Below w.heap.size w (((W.setCell ⟨w.heap.size,0,none⟩ U).setCell ⟨w.heap.size+1,0,none⟩ (.bool true)).putObj D (.deferred none)):=
   ((hBw.setCell (p:=⟨w.heap.size,0,none⟩) (qmt _) U).setCell (p:=⟨w.heap.size+1,0,none⟩) (by simp) (.bool true)).trans (belowK_b (w:=w) (qmt _) _ D _ _ (by omega) (((KeepsOthers.setCell W _ _).trans (KeepsOthers.setCell _ _ _)).same D _ hK rfl) rfl rfl)
  refine⟨.tuple #[U,.bool true],?_,?_⟩
  ·simp[results,go_sem,s0,s1]
  ·rw[hU] at o4⊢
   exact⟨A2,_,c2,rfl,o4,by rw[<-hU];exact hBf⟩
 case stop=>
  rintro D c pre W _ _ h _;exact h.elim
open Go.RowKit Go.Hm
theorem zfa:∀(k n:Nat),n<=k-> ∀x∈vp n,x<256:=by
 intro k;induction k with
 |zero=>
  intro n hn x hx;rw[zf2 (by omega)] at hx;simp at hx;omega
 |succ k ih=>
  intro n hn x hx;by_cases h:n<128
  ·rw[zf2 h] at hx
   simp at hx;omega
  ·rw[zf3 (by omega)] at hx
   rcases qof.1 hx with rfl|hx
   ·omega
   ·exact ih _ (by omega) x hx
theorem z7z{p:List Nat}(hw:∀x∈p,x<=18446744073709551615):∀x∈encP p,x<256:=by
 intro x hx;have:=zoo p hw;unfold encP at hx;split at hx
 ·rcases qny.1 hx with hx|hx
  ·exact zfa _ _ (qmt _) x hx
  ·exact zfa _ _ (qmt _) x hx
 ·rcases qny.1 hx with hx|hx
  ·exact zfa _ _ (qmt _) x hx
  ·rcases qof.1 hx with rfl|hx
   ·omega
   ·exact zg1 _ _ x hx
theorem zvd{l:List Nat}(hw:∀x∈l,x<=18446744073709551615):∀x∈z0v l,x<256:=by intro x hx;unfold z0v at hx;obtain⟨p,hp,hx⟩:=qpe.1 hx;exact z7z (zyk hw hp).1 x hx
open Go.RowKit Go.Hm
def DecPost(b:List Nat)(n:Int)(w:World)(e:Ending)(w':World):Prop:=∃o,IsDec b n o/\OptW o w e w'
open Go.RowKit Go.Hm
theorem z70{w:World}{A:Option Addr}{n c:Nat}{L:List Nat}(h:Reads w w.heap.size 1 A n (zan .u64 L))(hc:n<=c)(hL:∀x∈L,x<=18446744073709551615)(hn:n<=65536):
 Calls Tryz.prog 172 #[.slice A n c] w (OptB (some (z0v L)) w):=by
 obtain rfl:n=L.length:=h.len;exact z3i h hc hL hn
theorem IsDec.few{b:List Nat}{n:Int}{o:Option (List Nat)}(h:IsDec b n o):(o.getD []).length<=65536:=by
 cases o with
 |none=>simp
 |some l=>exact((h l).1 rfl).2.1
theorem DecPost.u{b:List Nat}{n:Int}{w w':World}{e:Ending}(h:DecPost b n w e w'):∃o A m c,IsDec b n o/\e= .returned (.tuple #[.slice A m c,.bool o.isSome])/\m<=65536/\Go.Hm.Own w' w.heap.size 138 (.slice A m c) (zan .u64 (o.getD []))/\New w w':=by obtain⟨o,hI,h⟩:=h;obtain⟨A,m,c,e,k,b⟩:=OptW.u h;have l:=k.len;rw[zaa] at l;exact⟨o,A,m,c,hI,e,by have:=hI.few;omega,k,b⟩
theorem zh6:∀ps:List (List Nat),(∀p∈ps,0<p.length/\(encP p).length<=600000)->(ps.flatMap encP).length<=ps.flatten.length*600000
 | [],_=>by simp
 |p::ps,h=>by
  have:=zh6 ps fun q hq=>h q (by simp[hq])
  have:=h p (by simp);rw[qp1,qq0,qni,qni];omega
theorem ztf{l:List Nat}(hw:∀x∈l,x<=18446744073709551615)(hl:l.length<=65536):(z0v l).length<=l.length*600000:=by
 have:=zh6 (pcs l) fun p hp=>⟨(qjv l p hp).1,z0x (zyk hw hp).1 (qml (zyk hw hp).2 hl)⟩
 rwa[z0u] at this
open Go.RowKit Go.Hm
theorem zlc{c:zab}(h:CellFine c):zaq c:=⟨h.1,h.2.1⟩
theorem zyo{t:Int}{l:List zab}(h:zk4 t l=true):(plB t l).length<=4300000000:=by
 obtain⟨⟨_,_,h1⟩,h2⟩:=plOk_iff.1 h;unfold plB;split
 ·rw[zbg];omega
 ·have:=ztb l h2 (fun c hc=>zjc (h2 c hc))
  omega
set_option maxRecDepth 100000 in
theorem zyp{w:World}{A:Option Addr}{n c:Nat}{t:Int}{L:List zab}(h:Reads w w.heap.size 5 A n (recs za0 L))(hL:∀y∈L,CellFine y)(hn:n<=65536):
 Calls Tryz.prog 155 #[.int .i64 t,.slice A n c] w (OptB (zl3 t L) w):=by
 obtain rfl:=h.lenCell;have C:=Hz (zyg (c:=c) h hL (by omega));have hED:∀y∈(zic L).1,zaq y:=fun y hy=>zlc (hL y ((zs7 L y).1 hy))
 have hle:=zs8 L;have hw:=zo4 (l:=L) hn;have hel:=ztf hw (by have:=(zow L).len;omega);have hpl:=(zow L).len;obtain⟨M,hM⟩:∃M,M=zl3 t L:=⟨_,rfl⟩;rw[<-hM];unfold zl3 at hM;simp only[hn,if_true] at hM;unfold z7g at C;generalize(zic L).1=E at*;generalize(zic L).2=P at*;have hvl:∀V,plO t E=some V->V.length<=4300000000:=fun V hV=>by obtain⟨a,b⟩:=plO_iff.1 hV;rw[<-b];exact zyo a
 have HM:=Hz hM;have HED:=Hz hED;have HW:=Hz hw;have HPL:=Hz hpl;have HVL:=Hz hvl;have HEL:Hid ((z0v P).length<=40000000000):=Hz (by rw[hpl] at hel;omega);clear hM hED hw h hL hvl hel hpl;go_enter Tryz.func155,Tryz.ntmps155
 go_wp2_with fail
 refine C.out.mono ?_;rintro e w1 ⟨A1,n1,c1,A2,c2,rfl,o1,o2,b1⟩;have hn1:n1=E.length:=(Reads.of_own o1).lenCell;have hz1:=b1.size;have PE:=zk8 (t:=t) (c:=c1) (Reads.of_own o1) HED.out (by omega);have RE:=Hz (fun(W:World) (hW:New w1 W)=>z70 (c:=c2) (o2.later hW).reads o2.cap.1 HW.out (by omega));have hq1:n1<=65536:=by omega
 have HN1:=Hz hn1;generalize plO t E=O at*;have PE:=Hz PE;clear C hle o1 hn1 o2;go_wp2_with fail
 refine PE.out.mono ?_;intro e w2 h2;cases O with
 |none=>
  obtain⟨rfl,b2⟩:=h2;go_wp2_with fail
  go_ret2
  have hM:=HM.out;rw[hM];exact⟨rfl,New.trans b1 b2⟩
 |some V=>
  obtain⟨A3,n3,c3,rfl,o3,b2⟩:=h2;have hn3:n3=V.length:=by have:=o3.len;rwa[zaa] at this
  have hV:=HVL.out V rfl;have RW:=Hz (RE.out w2 b2);have b02:=New.trans b1 b2;have hz2:=b02.size;have HN3:=Hz hn3;have hq3:n3<=4300000000:=by omega
  have hw1:IntKind.u64.wrap (n1:Int)=(n1:Int):=by rw[IntKind.wrap_u64];omega
  have hw3:IntKind.u64.wrap (n3:Int)=(n3:Int):=by rw[IntKind.wrap_u64];omega
  have P1:Hid (∀W,Calls Tryz.prog 111 #[.slice none 0 0,.int .u64 (n1:Int)] W (zcm ([]++vp E.length) W)):=Hz (fun W=>by rw[HN1.out];exact zc1 none 0 0 [] E.length W Reads.none_ (by omega) (by have:=HN1.out;omega));have P3:Hid (∀W,Calls Tryz.prog 111 #[.slice none 0 0,.int .u64 (n3:Int)] W (zcm ([]++vp V.length) W)):=Hz (fun W=>by rw[HN3.out];exact zc1 none 0 0 [] V.length W Reads.none_ (by omega) (by omega));have V1:=zap (n:=E.length) (by have:=HN1.out;omega);have V3:=zap (n:=V.length) (by omega);clear hn3 hV RE;go_wp2_with fail
  refine RW.out.mono ?_;rintro e w3 ⟨A4,n4,c4,rfl,o4,b3⟩;have hq4:n4<=40000000000:=by have:=o4.len;rw[zaa] at this;have:=HEL.out;omega
  have o3:=o3.later b3;have b03:=New.trans b02 b3;have hz3:=b03.size;clear RW b02 b2 b3 b1;go_wp2_with fail
  refine(P1.out _).mono ?_;rintro e w4 ⟨A5,n5,c5,rfl,k5,b4⟩;rw[qnk] at k5;have hq5:n5<=10:=by have:=k5.len;rw[zaa] at this;omega
  have h35:=zgb (zhx k5 (o3.base_le (qmu _)));have h45:=zgb (zhx k5 (o4.base_le (qmu _)));have o3:=o3.later b4;have o4:=o4.later b4;have b04:=New.trans b03 b4;have hz4:=b04.size;have k5:=k5.base_le hz3;clear b4 b03 P1;go_wp2_with fail
  refine(P3.out _).mono ?_;rintro e w5 ⟨A6,n6,c6,rfl,k6,b5⟩;rw[qnk] at k6;have hq6:n6<=10:=by have:=k6.len;rw[zaa] at this;omega
  have o3:=o3.later b5;have o4:=o4.later b5;have k5:=k5.later b5;have b05:=New.trans b04 b5;have hz5:=b05.size;clear b5 b04 P3;go_wp2_with (first
   |(refine zam elB rfl (.tmp 36) (.tmp 40) rfl (W:=w) (B:=w.heap.size) k5 k6.reads rfl rfl b05 (qmt _) (by omega) (by omega) (by simp only[maxLen];omega) ?_
     intro A7 c7 w7 _ _ o7 g7 b7 d7;have h37:=zlb h35 d7 o3;have h47:=zlb h45 d7 o4;have p3:=o3.kept g7 h35;have p4:=o4.kept g7 h45;have hz7:=b7.size;clear k5 k6 o3 o4 g7 d7 h35 h45)
   |(refine zam elB rfl (.tmp 42) (.tmp 43) rfl (W:=w) (B:=w.heap.size) o7 p3.reads rfl rfl b7 (qmt _) (by omega) (by omega) (by simp only[maxLen];omega) ?_
     intro A8 c8 w8 _ _ o8 g8 b8 d8;have q4:=p4.kept g8 h47;have hz8:=b8.size;clear o7 p3 p4 g8 h37 h47)
   |(refine zam elB rfl (.tmp 45) (.tmp 46) rfl (W:=w) (B:=w.heap.size) o8 q4.reads rfl rfl b8 (qmt _) (by omega) (by omega) (by simp only[maxLen];omega) ?_
     intro A9 c9 w9 _ _ o9 _ b9 _))
  go_ret2
  have hM:=HM.out;rw[hM];exact⟨_,_,_,rfl,o9,b9⟩
open Go.RowKit Go.Hm
theorem z71{t:Int}{l:List zab}{b:List Nat}(h:zl3 t l=some b):b.length<=50000000000:=by
 unfold zl3 at h;split at h
 ·cases h
 ·rename_i V hV
  split at h
  ·rename_i hl
   injection h with h;have p1:=(zow l).len;have e1:=zs8 l;have v1:V.length<=4300000000:=by rw[<-(plO_iff.1 hV).2];exact zyo (plO_iff.1 hV).1
   have el:=ztf (zo4 hl) (by omega);have a:=zap (n:=(zic l).1.length) (by omega);have b:=zap (n:=V.length) (by omega);rw[<-h];simp only[qni];omega
  ·cases h
theorem qdj{t:Int}{l:List zab}{b:List Nat}(hd:∀c∈l,zaq c)(h:zl3 t l=some b):∀x∈b,x<256:=by
 unfold zl3 at h;split at h
 ·cases h
 ·rename_i V hV
  split at h
  ·rename_i hl
   injection h with h;intro x hx;rw[<-h] at hx;simp only[qny] at hx;rcases hx with((hx|hx)|hx)|hx
   ·exact zfa _ _ (qmt _) x hx
   ·exact zfa _ _ (qmt _) x hx
   ·rw[<-(plO_iff.1 hV).2] at hx
    unfold plB at hx;split at hx
    ·exact zg1 _ _ x hx
    ·obtain⟨c,hc,hx⟩:=qpe.1 hx
     have hcd:=hd c ((zs7 l c).1 hc);unfold plE at hx;split at hx
     ·exact zg1 _ _ x hx
     ·split at hx
      ·rcases qny.1 hx with k|k
       ·exact zfa _ _ (qmt _) x k
       ·exact hcd.1.2 x k
      ·split at hx
       ·rcases qny.1 hx with k|k
        ·exact zfa _ _ (qmt _) x k
        ·exact zfa _ _ (qmt _) x k
       ·simp at hx
   ·exact zvd (zo4 hl) x hx
  ·cases h
open Go.RowKit Go.Hm
theorem z9p{l:List Int}(h:∀x∈l,zja x):∀x∈blockD l,x<256:=by
 intro x hx;have hw:=zoo _ (zs5 h);unfold blockD at hx;rcases qny.1 hx with hx|hx
 ·exact zfa _ _ (qmt _) x hx
 ·rcases qof.1 hx with rfl|hx
  ·omega
  ·exact zg1 _ _ x hx
theorem zzf{l:List Int}{b:List Nat}(h:zu6 l=some b):∀x∈b,x<256:=by
 unfold zu6 at h;split at h
 ·cases h
 ·split at h
  ·injection h with h
   subst h;intro x hx;cases hx
  ·injection h with h
   subst h;intro x hx;rcases qny.1 hx with hx|hx
   ·exact zfa _ _ (qmt _) x hx
   ·unfold zcq at hx
    obtain⟨k,hk,hx⟩:=qpe.1 hx;exact z9p (z0l (zky l) k) x hx
end Go.Proofs.Y
