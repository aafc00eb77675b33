import Derived.Test.YtbahbnbpmfgimaaGreatDoorBun21
import Derived.Test.YtbahbnbpmfgimaaGreatDoorBun37
set_option maxHeartbeats 4000000
set_option maxRecDepth 100000
namespace Go.Proofs.Y
open Go.RowKit Go.Hm Go.Shelf
attribute [local go_sem] Oper.semAt_some
structure BStep(n0 B:Nat)(W W':World):Prop where
 ko:KeepsOthers W W'
 kb:KB n0 B W W'
 be:Below B W W'
theorem BStep.trans{n0 B:Nat}{a b c:World}(h:BStep n0 B a b)(k:BStep n0 B b c):BStep n0 B a c:=⟨h.ko.trans k.ko,h.kb.trans k.kb,h.be.trans k.be⟩
theorem zvg{W w1:World}(h:New W w1):KeepsOthers W w1:=⟨h.size,fun k _ hk _=>(h.block k (ql8.1 hk).1).trans hk⟩
theorem BStep.new{n0 B:Nat}{W w1:World}(h:New W w1)(hn:n0<=W.heap.size)(hB:B<n0):BStep n0 B W w1:=⟨zvg h,qsr h hn,qri h (by omega)⟩
abbrev qss:=@BStep.new
def BRow(n0 B:Nat)(xs:List Nat)(W:World):Prop:=∃v,Boxed W B 24 v/\Go.Hm.Own W n0 5 v (zah .u8 xs)
theorem zn3{W w1 w2:World}{n0 B:Nat}{v v':Value}{xs ys:List Nat}(hv:Boxed W B 24 v)(ho:Go.Hm.Own W n0 5 v (zah .u8 xs))(hn:n0<=W.heap.size)(hB:B<n0)(h1:New W w1)
 (o2:Go.Hm.Own w2 n0 5 v' (zah .u8 ys))(g:w1.grownBy w2 v.ownBlock):Boxed w2 B 24 v/\BRow n0 B ys (w2.setCell ⟨B,0,none⟩ v')/\BStep n0 B W (w2.setCell ⟨B,0,none⟩ v'):=by
 have hte:24≠5:=by decide
 have hv1:Boxed w1 B 24 v:=(h1.block B hv.lt).trans hv;have ho1:Go.Hm.Own w1 n0 5 v (zah .u8 xs):=ho.later h1;have hv2:Boxed w2 B 24 v:=hv1.kept g (hv1.not_row hte ho1);have hlt:=ho1.lt;refine⟨hv2,⟨v',hv2.set v',o2.kept (grownBy_setCell' w2 B v') (.inr (hv2.not_row hte o2).symm)⟩,?_,?_,?_⟩
 ·refine((zvg h1).trans (KeepsOthers.of_grownBy g fun j o ej hj=>?_)).trans (KeepsOthers.setCell _ _ _)
  rcases ho1.2 with⟨rfl,_⟩|⟨q,cap,cur,rfl,_,hgb,_⟩
  ·simp[Value.ownBlock] at ej
  ·obtain rfl:q=j:=by simpa[Value.ownBlock] using ej
   rw[hgb] at hj;cases hj;rfl
 ·refine⟨?_,fun i i1 i2=>?_⟩
  ·have a:=h1.size
   have b:=g.size;have d:=(KeepsWalks.setCell w2 ⟨B,0,none⟩ v').size;omega
  ·refine(qq7 _ _ _ i i2).trans ((g.block i (by have:=h1.size;omega) ?_).trans (h1.block i (by omega)))
   intro e;have:=(hlt i e.symm).1;omega
 ·have hb1:Below B W w1:=qri h1 (by omega)
  have hs1:=h1.size;have hb2:Below B W w2:=hb1.grown g (by omega) (fun k e=>by have:=(hlt k e).1;omega);exact hb2.setCell (p:=⟨B,0,none⟩) (ql6 _) v'
theorem BRow.later{n0 B:Nat}{xs:List Nat}{W w1:World}(h:BRow n0 B xs W)(n:New W w1):BRow n0 B xs w1:=by obtain⟨v,hv,ho⟩:=h;exact⟨v,(n.block B hv.lt).trans hv,ho.later n⟩
theorem BRow.opened{n0 B:Nat}{xs:List Nat}{W:World}(h:BRow n0 B xs W):∃A c,Boxed W B 24 (.slice A xs.length c)/\Go.Hm.Own W n0 5 (.slice A xs.length c) (zah .u8 xs):=by obtain⟨v,hv,ho⟩:=h;obtain⟨A,c,rfl,-,-⟩:=ho.slice;rw[zaa] at*;exact⟨A,c,hv,ho⟩
theorem KB.grown{n0 bo base:Nat}{W W':World}{v:Value}{e:TypeId}{xs:List Value}(ho:Go.Hm.Own W base e v xs)(h:n0<=base)(hn:n0<=W.heap.size)(g:W.grownBy W' v.ownBlock):KB n0 bo W W':=
 ⟨g.size,fun i i1 _=>g.block i (by omega) (fun e=>by have:=(ho.lt i e.symm).1;omega)⟩
theorem qcw{W:World}{base:Nat}{e:TypeId}{v:Value}{xs ys:List Nat}{k:IntKind}(h:W.ownsRow base e 1 v ((zah k xs).length+ys.length) (zah k xs++zah k ys)):Go.Hm.Own W base e v (zah k (xs++ys)):=by unfold Go.Hm.Own;rw[zdw,qmv,zaa k ys];exact h
theorem z7s{W1 W2:World}{base:Nat}{e e':TypeId}{u v:Value}{xs ys:List Value}(h2:Go.Hm.Own W2 W1.heap.size e u xs)(h1:Go.Hm.Own W1 base e' v ys):u.ownBlock=none\/u.ownBlock≠v.ownBlock:=by
 rcases hu:u.ownBlock with _|k
 ·exact .inl rfl
 ·refine .inr fun e=>?_
  have a:=(h2.lt k hu).1;have b:=(h1.lt k e.symm).2;omega
theorem zyc{W:World}{base B:Nat}{e:TypeId}{u:Value}{xs:List Value}(h:Go.Hm.Own W base e u xs)(hB:B<base):u.ownBlock=none\/u.ownBlock≠some B:=
 .inr fun e=>by have:=(h.lt B e).1;omega
theorem z27{β:Type}{n0 bo:Nat}{W0:World}(h0:n0<=W0.heap.size):OwnFrom n0 (fun(_:β) W=>KB n0 bo W0 W):=
 fun _ A B row hs hg hr=>⟨qlw hs.1 hg.size,fun k h1 h2=>(hg.block k (qlz h1 (qlw h0 hs.1)) (fun e=>by have:=(hr k e.symm).1;omega)).trans (hs.2 k h1 h2)⟩
theorem z0r{p:List Nat}(hw:∀x∈p,x<=18446744073709551615)(hl:p.length<=65536):(encP p).length<=600000:=by
 have a:=zo2 p hw;have e1:=zas (n:=2*p.length) (by omega);have e2:=zas (n:=2*p.length+1) (by omega);have e3:(vp (p.getD 0 0)).length<=10:=by
  refine zas ?_;rw[qnp];cases h:p[0]? with
  |none=>simp
  |some x=>
   have:=hw x (List.mem_of_getElem? h);simp;omega
 have m:=qp5 a hl;unfold encP;split
 ·rw[qmv];omega
 ·rw[qmv,qm9,zbe];omega
def zyd{n:Nat}(L:List Nat)(pre:List (Sp n)):List Nat:=pre.flatMap fun x=>encP (seg L x.1.1 x.1.2)
theorem z7t{n:Nat}(L:List Nat)(pre:List (Sp n))(x:Sp n):zyd L (pre++[x])=zyd L pre++encP (seg L x.1.1 x.1.2):=by simp[zyd]
theorem qcx{L:List Nat}{ys:List (Sp L.length)}(h:ys.map Subtype.val=zcu L 0 0):zyd L ys=z0p L:=by unfold zyd z0p;rw[<-z20,<-h,qnr,List.flatMap_map];rfl
theorem zvh{L:List Nat}(hL:∀x∈L,x<=18446744073709551615){f t:Nat}:∀x∈seg L f t,x<=18446744073709551615:=fun x hx=>hL x (qoo (qmu hx))
theorem qcy{n:Nat}{L:List Nat}(hL:∀x∈L,x<=18446744073709551615)(hl:L.length<=65536)(pre:List (Sp n)):(zyd L pre).length<=pre.length*600000:=by
 induction pre with
 |nil=>simp[zyd]
 |cons x pre ih=>
  have a:=z0r (p:=seg L x.1.1 x.1.2) (zvh hL) (by unfold seg;rw[ql2,ql0];omega);have e:zyd L (x::pre)=encP (seg L x.1.1 x.1.2)++zyd L pre:=rfl;rw[e,qmv,qm9];omega
theorem z28{w:World}{A:Option Addr}{c:Nat}{L:List Nat}(h:Reads w w.heap.size 1 A L.length (zah .u64 L))(hc:L.length<=c)(hL:∀x∈L,x<=18446744073709551615)(hl:L.length<=65536):
 Calls Tryz.prog 172 #[.slice A L.length c] w (OptB (some (z0p L)) w):=by
 have hfew:=z25 (L:=L) L.length 0 0 (by omega) (ql6 _) (ql7 _);have HL:=qrf hL;clear hL;refine(callsIn_wide (n:=6)).1 ?_;refine callsIn_of_wp_marks Tryz.func172 rfl trivial ?_ rfl;simp only[Tryz.ntmps172,qmz,qm9,qpg,Nat.reduceAdd,Nat.reduceSub,Array.replicate_succ,Array.replicate_zero,List.push_toArray,List.append_toArray,qmx,qm8]
 gi_wp2_with fail
 refine⟨trivial,?_⟩;refine(callsIn_wide.2 (z24 A L.length c _)).mono ?_;rintro e w' ⟨rfl,rfl⟩
 gi_wp2_with fail
 obtain⟨W0,hW0⟩:∃W,W=(((w.alloc (.cells #[.slice none 0 0] 24)).alloc (.cells #[.bool false] 4)).alloc (.cells #[.slice none 0 0] 24)).alloc (.cells #[.slice A L.length c] 201):=⟨_,rfl⟩;have hz:W0.heap.size=w.heap.size+4:=by rw[hW0];simp
 have hB0:Below w.heap.size w W0:=by rw[hW0];exact((((qq8 _ w).alloc (ql6 _) _).alloc (by simp) _).alloc (by simp;omega) _).alloc (by simp;omega) _
 have b0:Boxed W0 w.heap.size 24 (.slice none 0 0):=by rw[hW0];exact(((Boxed.new w _ _).alloc _).alloc _).alloc _
 have b1:Boxed W0 (w.heap.size+1) 4 (.bool false):=by have:=((Boxed.new (w.alloc (.cells #[.slice none 0 0] 24)) 4 (.bool false)).alloc (.cells #[.slice none 0 0] 24)).alloc (.cells #[.slice A L.length c] 201);rw[qrq,<-hW0] at this;exact this
 have b2:Boxed W0 (w.heap.size+2) 24 (.slice none 0 0):=by have:=(Boxed.new ((w.alloc (.cells #[.slice none 0 0] 24)).alloc (.cells #[.bool false] 4)) 24 (.slice none 0 0)).alloc (.cells #[.slice A L.length c] 201);rw[qrq,qrq,<-hW0] at this;exact this
 have b3:Boxed W0 (w.heap.size+3) 201 (.slice A L.length c):=by have:=Boxed.new (((w.alloc (.cells #[.slice none 0 0] 24)).alloc (.cells #[.bool false] 4)).alloc (.cells #[.slice none 0 0] 24)) 201 (.slice A L.length c);rw[qrq,qrq,qrq,<-hW0] at this;exact this
 have hrd:Reads W0 (w.heap.size+4) 1 A L.length (zah .u64 L):=(h.keep fun p hp=>hB0.cell hp).more (by omega);have hAo:0<L.length-> ∀ad,A=some ad->ad.block≠w.heap.size+2:=by intro h0 ad e;obtain⟨ad',e',hb,-⟩:=h.2 h0;rw[e] at e';cases e';omega
 rw[<-hW0];clear hW0;refine wpIn_rangeFunc_ownG rfl (by omega) (gf:=206) (lb:= #[.pointer (some ⟨w.heap.size+1+1+1,0,none⟩)]) rfl trivial (enters_of Tryz.func206 (by kernel_rfl) rfl)
  (zvf (n0:=w.heap.size+4) (bo:=w.heap.size+2) (by omega) hc (by omega) (by omega) (by omega) (by omega) hAo b3.cell hrd) KB.trans (fun W l o o' h1 h2 h3 h4=>KB.of_below (belowK_b (w:=W0) (by omega) W l o o' h1 h2 h3 h4)) (qq8 _ _) (fun _=>rfl)
  (fun pre W=>(∃v,Boxed W (w.heap.size+2) 24 v/\W.ownsRow (w.heap.size+4) 5 1 v (zah .u8 (zyd L pre)).length (zah .u8 (zyd L pre))/\True)/\KB (w.heap.size+4) (w.heap.size+2) W0 W/\Below (w.heap.size+2) W0 W)
  (fun _ _ _=>False)
  (OwnFrom.and (Go.Own.from (holdsRow_own (w.heap.size+4) (w.heap.size+2) 24 5 1 (fun pre:List (Sp L.length)=>(zah .u8 (zyd L pre)).length) (fun pre=>zah .u8 (zyd L pre)) (fun _ _=>True)) _) (OwnFrom.and (by rw[hz];exact z27 (by omega)) (ownFrom_below (by omega) (by omega))))
  (fun _ _ _ _ _ hs _ _=>hs)
  ⟨⟨_,b2,qq6 _ _ _ _,trivial⟩,KB.refl _ _ _,qq8 _ _⟩
  (fun x=>{tmps:= #[.slice A L.length c,undef,.pointer (some ⟨w.heap.size,0,none⟩),.pointer (some ⟨w.heap.size+1,0,none⟩),.pointer (some ⟨w.heap.size+1+1,0,none⟩),slV A c x.1.1 x.1.2,undef,undef,undef,.slice A L.length c,.int .i64 (L.length:Int),.bool (decide ((65536:Int)<(L.length:Int))),.slice A L.length c,.func (.func 206) #[] #[.pointer (some ⟨w.heap.size+1+1+1,0,none⟩)],slV A c x.1.1 x.1.2,undef,undef,undef,undef,undef,undef,undef,undef,undef,undef,undef,undef,undef,undef,undef,undef,undef,undef,undef,undef,undef,undef,undef,undef,undef,undef,undef,undef,undef,undef,undef,undef],defers:=[]}) ?assign ?body ?done ?stop
 case assign=>
  intro l x W K hK
  gi_wp2
  exact hK
 case body=>
  rintro l pre x W ⟨⟨v,hv,hrow,-⟩,hK,hB⟩ hlt;have hx:=x.2;have hzW:w.heap.size+4<=W.heap.size:=by have:=hB.size;omega
  have hrW:=zpk (hK.reads hrd hAo) hc hx.1 hx.2;have hpl:=ztl (l:=L) (a:=x.1.1) hx.2;have hsn:=z7t L pre x;have hp65:(seg L x.1.1 x.1.2).length<=65536:=by omega
  have hw:=zvh HL.out (f:=x.1.1) (t:=x.1.2);have hxs:=qcy HL.out hl pre;have HRS:=qrf (fun W' (k:KB (w.heap.size+4) (w.heap.size+2) W0 W')=>zpk (k.reads hrd hAo) hc hx.1 hx.2);unfold slV;rw[<-hpl];generalize(if c=x.1.1 then A else A.map (·.add x.1.1))=AS at*;generalize seg L x.1.1 x.1.2=p at*;generalize c-x.1.1=cp;generalize zyd L pre=xs at*;have hxs2:xs.length<=78643800000:=by omega
  have hbr:BRow (w.heap.size+4) (w.heap.size+1+1) xs W:=⟨v,hv,hrow⟩;have HS:=qrf hsn;have HK:=qrf hK;have HB:=qrf hB;have HW:=qrf hw;have HRd:=qrf (hrW.more hzW);have IR:=qrf (z7q (c:=cp) HRd.out (by omega));clear hsn hK hB hw hrW hv hrow hx hpl hxs hrd hAo b0 b1 b2 b3 hB0 h
  gi_wp2_with fail
  refine⟨trivial,?_⟩;refine(CallsIn.inRound l (callsIn_wide.2 IR.out)).mono ?_;rintro e w1 ⟨rfl,n1⟩;have hbr1:=hbr.later n1;have HN1:=qrf n1;have hz1:w.heap.size+4<=w1.heap.size:=qlw hzW n1.size;clear IR n1;by_cases h4:4<=st p
  ·have d4:decide (4<=st p)=true:=decide_eq_true h4
   rw[d4]
   gi_wp2_with fail
   obtain⟨N,hN⟩:∃N:Nat,(2*(p.length:Int))=(N:Int)/\N=2*p.length:=⟨2*p.length,by omega,rfl⟩;rw[hN.1];have hNb:N<=131072:=by omega
   have hpos1:=zue N;have hln1:=zas (n:=N) (by omega);have hp0:0<p.length:=qlz (by omega) (zgi p).1;have hEP:Hid (encP p=vp N++vp (p.getD 0 0)):=qrf (by unfold encP;rw[if_pos h4,hN.2]);have hg0:p.getD 0 0<=18446744073709551615:=by rw[qnp,qlx hp0];exact HW.out _ (qml hp0)
   have hpos2:=zue (p.getD 0 0);have hln2:=zas (n:=p.getD 0 0) (by omega);clear hN;refine zgk (KB (w.heap.size+4) (w.heap.size+4)) 4 [(0,0),(1,1),(2,2),(2,3),(2,4)] (KB.refl _ _) KB.trans (by kernel_rfl) (fun _ _ h=>h) (by kernel_rfl) (by kernel_rfl) (by kernel_rfl) (by kernel_rfl) ?_;have nd1:=qr1 w1;generalize w1.drew=d1 at nd1⊢;obtain⟨Av1,cv1,hv1,ho1⟩:=(hbr1.later nd1).opened;have zd1:w.heap.size+4<=d1.heap.size:=qlw hz1 nd1.size;have P1:=qrf (zc9 none 0 0 [] N d1 qrs (by omega) (by omega));refine zco rfl rfl (v:=?_) (fun W' hW=>?_) ?_;rotate_left
   ·have hcl:=(hW.cell (p:=⟨w.heap.size+1+1,0,none⟩) (by show w.heap.size+1+1<_;omega) (by show w.heap.size+1+1≠_;omega)).trans hv1.cell
    go_simp<;> with_reducible rfl
   simp only[Act.put,qoi,qn8,qoj];refine zb2 rfl rfl (v:=?_) (fun W'=>?_) ?_;rotate_left
   ·go_simp<;> with_reducible rfl
   simp only[Act.put,qoi,qn8,qoj];refine zbl rfl rfl (fun K hK=>?_);go_simp
   with_reducible refine P1.out.mono ?_
   rintro e w1 ⟨A1,n1,c1,rfl,o1,b1⟩;refine hK _ _ (.inr (.inr (qsr b1 zd1))) ?_;clear hK P1;rw[qmx] at o1;obtain rfl:n1=(vp N).length:=by have:=o1.len;rwa[zaa] at this
   obtain⟨ad1,rfl,-⟩:=o1.reads.2 hpos1;refine zbl rfl rfl (fun K hK=>?_);refine zkr elB (.tmp 21) (.tmp 23) rfl (W:=w1) (B:=w.heap.size+4) (ho1.later b1) o1.reads hpos1 rfl rfl (qq8 _ _) (ql6 _) (qlw zd1 b1.size) (zct _ _) (by rw[zaa];omega) (by rw[zaa];simp only[maxLen];omega) ?_;intro A1' c1' w1' _ _ o1' g1' _;refine hK _ _ (.inr (.inr (KB.grown (ho1.later b1) (ql6 _) (qlw zd1 b1.size) g1'))) ?_;clear hK;rw[<-zdw] at o1';obtain⟨hx1,hbr1,st1⟩:=zn3 hv1 ho1 zd1 (by omega) b1 o1' g1';have x1:=hx1.cell;have y1:=hx1.frozen;refine zbl rfl rfl (fun K hK=>?_);go_simp
   refine hK _ _ (.inr (.inl rfl)) ?_;clear hK;refine zfd ?_;generalize World.setCell w1' _ _=s1 at hbr1 st1⊢;have zs1:w.heap.size+4<=s1.heap.size:=qlw zd1 st1.ko.size;clear hx1 x1 y1 o1' g1' o1 b1 hv1 ho1;obtain⟨ap,rfl,hap,hcp⟩:=(HRS.out s1 (HK.out.trans ((qsr HN1.out hzW).trans ((qsr nd1 hz1).trans st1.kb)))).num hp0;have hcp:s1.cell? ap=some (.int .u64 ((p.getD 0 0:Nat):Int)):=hcp;generalize p.getD 0 0=x0 at*
   gi_wp2_with fail
   refine zgk (KB (w.heap.size+4) (w.heap.size+4)) 6 [(0,0),(1,1),(1,2),(0,3),(2,4),(2,5),(2,6)] (KB.refl _ _) KB.trans (by kernel_rfl) (fun _ _ h=>h) (by kernel_rfl) (by kernel_rfl) (by kernel_rfl) (by kernel_rfl) ?_;have nd2:=qr1 s1;generalize s1.drew=d2 at nd2⊢;obtain⟨Av2,cv2,hv2,ho2⟩:=(hbr1.later nd2).opened;rw[qmv] at hv2 ho2;have zd2:w.heap.size+4<=d2.heap.size:=qlw zs1 nd2.size;have P2:=qrf (zc9 none 0 0 [] x0 d2 qrs (by omega) (by omega));have hcp2:d2.cell? ap=some (.int .u64 (x0:Int)):=(nd2.cell (p:=ap) (qlz hap zs1)).trans hcp;refine zco rfl rfl (v:=?_) (fun W' hW=>?_) ?_;rotate_left
   ·have hcl:=(hW.cell (p:=⟨w.heap.size+1+1,0,none⟩) (by show w.heap.size+1+1<_;omega) (by show w.heap.size+1+1≠_;omega)).trans hv2.cell
    go_simp<;> with_reducible rfl
   simp only[Act.put,qoi,qn8,qoj];refine zb2 rfl rfl (v:=?_) (fun W'=>?_) ?_;rotate_left
   ·go_simp<;> with_reducible rfl
   simp only[Act.put,qoi,qn8,qoj];refine zb2 rfl rfl (v:=?_) (fun W'=>?_) ?_;rotate_left
   ·go_simp<;> with_reducible rfl
   simp only[Act.put,qoi,qn8,qoj];refine zco rfl rfl (v:=?_) (fun W' hW=>?_) ?_;rotate_left
   ·have hcl:=(hW.cell (p:=ap) hap (by omega)).trans hcp2
    go_simp<;> with_reducible rfl
   simp only[Act.put,qoi,qn8,qoj];refine zbl rfl rfl (fun K hK=>?_);go_simp
   with_reducible refine P2.out.mono ?_
   rintro e w2 ⟨A2,n2,c2,rfl,o2,b2⟩;refine hK _ _ (.inr (.inr (qsr b2 zd2))) ?_;clear hK P2;rw[qmx] at o2;obtain rfl:n2=(vp x0).length:=by have:=o2.len;rwa[zaa] at this
   obtain⟨ad2,rfl,-⟩:=o2.reads.2 hpos2;refine zbl rfl rfl (fun K hK=>?_);refine zkr elB (.tmp 25) (.tmp 29) rfl (W:=w2) (B:=w.heap.size+4) (ho2.later b2) o2.reads hpos2 rfl rfl (qq8 _ _) (ql6 _) (qlw zd2 b2.size) (zct _ _) (by simp only[zaa,qmv];omega) (by simp only[zaa,qmv,maxLen];omega) ?_;intro A2' c2' w2' _ _ o2' g2' _;refine hK _ _ (.inr (.inr (KB.grown (ho2.later b2) (ql6 _) (qlw zd2 b2.size) g2'))) ?_;clear hK;rw[<-zdw] at o2';obtain⟨hx2,hbr2,st2⟩:=zn3 hv2 ho2 zd2 (by omega) b2 o2' g2';have x2:=hx2.cell;have y2:=hx2.frozen;refine zbl rfl rfl (fun K hK=>?_);go_simp
   refine hK _ _ (.inr (.inl rfl)) ?_;clear hK;refine zfd ?_;generalize World.setCell w2' _ _=s2 at hbr2 st2⊢;have zs2:w.heap.size+4<=s2.heap.size:=qlw zd2 st2.ko.size;clear hx2 x2 y2 o2' g2' o2 b2 hv2 ho2
   gi_wp2
   have ST:=(qss HN1.out hzW (by omega)).trans ((qss nd1 hz1 (by omega)).trans (st1.trans ((qss nd2 zs1 (by omega)).trans st2)));obtain⟨v',hv',ho'⟩:=hbr2;exact⟨ST.ko.from _,ST.kb,⟨v',hv',by rw[HS.out,hEP.out,<-qmi];exact ho',trivial⟩,HK.out.trans ST.kb,HB.out.trans ST.be⟩
  ·have d4:decide (4<=st p)=false:=decide_eq_false h4
   rw[d4];obtain⟨N,hN⟩:∃N:Nat,(2*(p.length:Int))=(N:Int)/\N=2*p.length:=⟨2*p.length,by omega,rfl⟩;rw[hN.1];have hNb:N<=131072:=by omega
   have hwr:IntKind.u64.wrap ((N:Int)+1)=((N+1:Nat):Int):=by rw[qrj];omega
   have hpos3:=zue (N+1);have hln3:=zas (n:=N+1) (by omega);have hEP:Hid (encP p=vp (N+1)++restB p):=qrf (by unfold encP restB;rw[if_neg h4,hN.2]);clear hN;have hrb:0<(restB p).length/\(restB p).length<=600000:=by have a:=zo2 p HW.out;have m:=qp5 a hp65;unfold restB;rw[qm9,zbe];omega
   have LR:=qrf (zyb (c:=cp) ((HRS.out w1 (HK.out.trans (qsr HN1.out hzW))).more hz1) HW.out hp65);generalize restB p=rb at*
   gi_wp2_with fail
   refine⟨trivial,?_⟩;refine(CallsIn.inRound l (callsIn_wide.2 LR.out)).mono ?_;rintro e w2 ⟨A2,n2,c2,rfl,o2,b2⟩;obtain rfl:n2=rb.length:=by have:=o2.len;rwa[zaa] at this
   obtain⟨ad2,rfl,-⟩:=o2.reads.2 hrb.1;clear LR;obtain⟨Aw,cw,hvw,how⟩:=hbr1.opened;have hvw2:Boxed w2 (w.heap.size+1+1) 24 _:=(b2.block _ hvw.lt).trans hvw;have how2:=how.later b2;have hz2:w.heap.size+4<=w2.heap.size:=qlw hz1 b2.size
   gi_wp2_with fail
   refine zgk (KB (w.heap.size+4) (w.heap.size+4)) 5 [(0,0),(1,1),(1,2),(2,3),(2,4),(2,5)] (KB.refl _ _) KB.trans (by kernel_rfl) (fun _ _ h=>h) (by kernel_rfl) (by kernel_rfl) (by kernel_rfl) (by kernel_rfl) ?_;have nd3:=qr1 w2;generalize w2.drew=d3 at nd3⊢;have hv3:=(nd3.block _ hvw2.lt).trans hvw2;have hv3:Boxed d3 (w.heap.size+1+1) 24 _:=hv3;have ho3:=how2.later nd3;have zd3:w.heap.size+4<=d3.heap.size:=qlw hz2 nd3.size;have P3:=qrf (zc9 none 0 0 [] (N+1) d3 qrs (by omega) (by omega));refine zco rfl rfl (v:=?_) (fun W' hW=>?_) ?_;rotate_left
   ·have hcl:=(hW.cell (p:=⟨w.heap.size+1+1,0,none⟩) (by show w.heap.size+1+1<_;omega) (by show w.heap.size+1+1≠_;omega)).trans hv3.cell
    go_simp<;> with_reducible rfl
   simp only[Act.put,qoi,qn8,qoj];refine zb2 rfl rfl (v:=?_) (fun W'=>?_) ?_;rotate_left
   ·go_simp<;> with_reducible rfl
   simp only[Act.put,qoi,qn8,qoj];refine zb2 rfl rfl (v:=?_) (fun W'=>?_) ?_;rotate_left
   ·go_simp<;> with_reducible rfl
   simp only[Act.put,qoi,qn8,qoj];refine zbl rfl rfl (fun K hK=>?_);go_simp
   rw[show((N:Int)+1)=((N+1:Nat):Int) from rfl]
   with_reducible refine P3.out.mono ?_
   rintro e w3 ⟨A3,n3,c3,rfl,o3,b3⟩;refine hK _ _ (.inr (.inr (qsr b3 zd3))) ?_;clear hK P3;rw[qmx] at o3;obtain rfl:n3=(vp (N+1)).length:=by have:=o3.len;rwa[zaa] at this
   obtain⟨ad3,rfl,-⟩:=o3.reads.2 hpos3;refine zbl rfl rfl (fun K hK=>?_);refine zkr elB (.tmp 38) (.tmp 41) rfl (W:=w3) (B:=w.heap.size+4) (ho3.later b3) o3.reads hpos3 rfl rfl (qq8 _ _) (ql6 _) (qlw zd3 b3.size) (zct _ _) (by rw[zaa];omega) (by rw[zaa];simp only[maxLen];omega) ?_;intro A3' c3' w3' _ _ o3' g3' _;refine hK _ _ (.inr (.inr (KB.grown (ho3.later b3) (ql6 _) (qlw zd3 b3.size) g3'))) ?_;clear hK;rw[<-zdw] at o3';obtain⟨hx3,hbr3,st3⟩:=zn3 hv3 ho3 zd3 (by omega) b3 o3' g3';have x3:=hx3.cell;have y3:=hx3.frozen;have q3:=((o2.later nd3).later b3).kept g3' (z7s o2 how);have q3:=q3.kept (grownBy_setCell' w3' (w.heap.size+1+1) (.slice A3' ((zah .u8 xs).length+(vp (N+1)).length) c3')) (zyc q3 (by omega));refine zbl rfl rfl (fun K hK=>?_);go_simp
   refine hK _ _ (.inr (.inl rfl)) ?_;clear hK;refine zfd ?_;generalize World.setCell w3' _ _=s3 at hbr3 st3 q3⊢;have zs3:w.heap.size+4<=s3.heap.size:=qlw zd3 st3.ko.size;clear hx3 x3 y3 o3' g3' o3 b3 hv3 ho3;obtain⟨Ay,cy,hvy,hoy⟩:=hbr3.opened;have hcy:=hvy.cell;have hfy:=hvy.frozen;rw[qmv] at hoy hvy hcy;obtain⟨ad',e',-,hcs⟩:=q3.reads.2 hrb.1;cases e';obtain⟨i5,hi5,hi0,hi1,hi2⟩:=info_parts elB.hi
   gi_wp2_with (gi_at_builtin;refine wpListIn_append_own _ rfl _ _ 24 rfl (w.heap.size+4) 5 i5 (.int .u8 0) 1 1 (by kernel_rfl) hi5 hi0 hi1 hi2 rfl (by decide) _ _ _ rfl hoy ad2 rb.length c2 (zah .u8 rb) rfl (by rw[zaa,qmd]) hcs (zct _ _) (by simp only[zaa,qmv,maxLen];omega) (by simp only[zaa,qmv];omega) zs3 ?_;intro v' w4 hown' hgrow _;have o4:=qcw hown';rw[qmi] at o4;obtain⟨A4,c4,rfl,-,-⟩:=o4.slice;obtain⟨hx4,hbr4,st4⟩:=zn3 hvy hoy zs3 (by omega) (qrz s3) o4 hgrow;have x4:=hx4.cell;have y4:=hx4.frozen)
   have ST:=(qss HN1.out hzW (by omega)).trans ((qss b2 hz1 (by omega)).trans ((qss nd3 hz2 (by omega)).trans (st3.trans st4)));obtain⟨v',hv',ho'⟩:=hbr4;exact⟨ST.ko.from _,ST.kb,⟨v',hv',by rw[HS.out,hEP.out];exact ho',trivial⟩,HK.out.trans ST.kb,HB.out.trans ST.be⟩
 case done=>
  rintro D ys W hD hys ⟨⟨v,hv,hrow,-⟩,hKB,hB⟩ hK;have hall:=qcx hys;have hz0:=hB.size;have ho:Go.Hm.Own W (w.heap.size+4) 5 v (zah .u8 (zyd L ys)):=hrow;rw[hall] at ho;obtain⟨A2,c2,rfl,-,-⟩:=ho.slice;have b0':Boxed W w.heap.size 24 (.slice none 0 0):=(hKB.2 _ (by omega) (by omega)).trans b0;have b1':Boxed W (w.heap.size+1) 4 (.bool false):=(hKB.2 _ (by omega) (by omega)).trans b1;have x2:=hv.cell;have x0:=b0'.cell;have x1:=b1'.cell;have y0:=b0'.frozen;have y1:=b1'.frozen;clear hrow hAo hrd h b0 b1 b2 b3
  gi_wp2
  refine⟨by simp,.inl ⟨_,_,rfl,run_takeDeferred (((KeepsOthers.setCell W _ _).trans (KeepsOthers.setCell _ _ _)).same D _ hK rfl),?_⟩⟩;obtain⟨U,hU⟩:∃v,v=Value.slice A2 (zah .u8 (z0p L)).length c2:=⟨_,rfl⟩;rw[<-hU] at ho⊢;have hne0:some w.heap.size≠some D:=by simp;omega
  have hne1:some (w.heap.size+1)≠some D:=by simp;omega
  have s0:=(((b0'.set U).kept (grownBy_setCell' _ (w.heap.size+1) (.bool true)) (by simp)).kept (grownBy_putObj' _ D (.deferred none)) hne0).cell;have s1:=(((b1'.kept (grownBy_setCell' W w.heap.size U) (by simp)).set (.bool true)).kept (grownBy_putObj' _ D (.deferred none)) hne1).cell;have o1:=ho.kept (grownBy_setCell' W w.heap.size U) (zyc ho (by omega));have o2:=o1.kept (grownBy_setCell' _ (w.heap.size+1) (.bool true)) (zyc o1 (by omega));have o3:Go.Hm.Own (((W.setCell ⟨w.heap.size,0,none⟩ U).setCell ⟨w.heap.size+1,0,none⟩ (.bool true)).putObj D (.deferred none)) (w.heap.size+4) 5 U (zah .u8 (z0p L)):=ownsRow_putObj o2 (.deferred none) (((KeepsOthers.setCell W _ _).trans (KeepsOthers.setCell _ _ _)).same D _ hK rfl) rfl;have o4:=o3.base_le (b':=w.heap.size) (by omega);have hBw:Below w.heap.size w W:=hB0.trans (qri hB (by omega));have hBf:Below w.heap.size w (((W.setCell ⟨w.heap.size,0,none⟩ U).setCell ⟨w.heap.size+1,0,none⟩ (.bool true)).putObj D (.deferred none)):=
   ((hBw.setCell (p:=⟨w.heap.size,0,none⟩) (ql6 _) U).setCell (p:=⟨w.heap.size+1,0,none⟩) (by simp) (.bool true)).trans (belowK_b (w:=w) (ql6 _) _ D _ _ (by omega) (((KeepsOthers.setCell W _ _).trans (KeepsOthers.setCell _ _ _)).same D _ hK rfl) rfl rfl)
  refine⟨.tuple #[U,.bool true],?_,?_⟩
  ·simp[results,go_sem,s0,s1]
  ·rw[hU] at o4⊢
   exact⟨A2,_,c2,rfl,o4,by rw[<-hU];exact hBf⟩
 case stop=>
  rintro D c pre W _ _ h _;exact h.elim
open Go.RowKit Go.Hm
theorem zfn:∀(k n:Nat),n<=k-> ∀x∈vp n,x<256:=by
 intro k;induction k with
 |zero=>
  intro n hn x hx;rw[zgd (by omega)] at hx;simp at hx;omega
 |succ k ih=>
  intro n hn x hx;by_cases h:n<128
  ·rw[zgd h] at hx
   simp at hx;omega
  ·rw[zge (by omega)] at hx
   rcases qnu.1 hx with rfl|hx
   ·omega
   ·exact ih _ (by omega) x hx
theorem z7u{p:List Nat}(hw:∀x∈p,x<=18446744073709551615):∀x∈encP p,x<256:=by
 intro x hx;have:=zo2 p hw;unfold encP at hx;split at hx
 ·rcases qnd.1 hx with hx|hx
  ·exact zfn _ _ (ql6 _) x hx
  ·exact zfn _ _ (ql6 _) x hx
 ·rcases qnd.1 hx with hx|hx
  ·exact zfn _ _ (ql6 _) x hx
  ·rcases qnu.1 hx with rfl|hx
   ·omega
   ·exact zgf _ _ x hx
theorem zvi{l:List Nat}(hw:∀x∈l,x<=18446744073709551615):∀x∈z0p l,x<256:=by intro x hx;unfold z0p at hx;obtain⟨p,hp,hx⟩:=qov.1 hx;exact z7u (zya hw hp).1 x hx
def DecPost(b:List Nat)(n:Int)(w:World)(e:Ending)(w':World):Prop:=∃o,IsDec b n o/\OptW o w e w'
theorem z7v{w:World}{A:Option Addr}{n c:Nat}{L:List Nat}(h:Reads w w.heap.size 1 A n (zah .u64 L))(hc:n<=c)(hL:∀x∈L,x<=18446744073709551615)(hn:n<=65536):
 Calls Tryz.prog 172 #[.slice A n c] w (OptB (some (z0p L)) w):=by
 obtain rfl:n=L.length:=h.len;exact z28 h hc hL hn
theorem IsDec.few{b:List Nat}{n:Int}{o:Option (List Nat)}(h:IsDec b n o):(o.getD []).length<=65536:=by
 cases o with
 |none=>simp
 |some l=>exact((h l).1 rfl).2.1
theorem DecPost.u{b:List Nat}{n:Int}{w w':World}{e:Ending}(h:DecPost b n w e w'):∃o A m c,IsDec b n o/\e= .returned (.tuple #[.slice A m c,.bool o.isSome])/\m<=65536/\Go.Hm.Own w' w.heap.size 138 (.slice A m c) (zah .u64 (o.getD []))/\New w w':=by obtain⟨o,hI,h⟩:=h;obtain⟨A,m,c,e,k,b⟩:=OptW.u h;have l:=k.len;rw[zaa] at l;exact⟨o,A,m,c,hI,e,by have:=hI.few;omega,k,b⟩
theorem zif:∀ps:List (List Nat),(∀p∈ps,0<p.length/\(encP p).length<=600000)->(ps.flatMap encP).length<=ps.flatten.length*600000
 | [],_=>by simp
 |p::ps,h=>by
  have:=zif ps fun q hq=>h q (by simp[hq])
  have:=h p (by simp);rw[qpe,qpw,qmv,qmv];omega
theorem ztm{l:List Nat}(hw:∀x∈l,x<=18446744073709551615)(hl:l.length<=65536):(z0p l).length<=l.length*600000:=by
 have:=zif (pcs l) fun p hp=>⟨(qi2 l p hp).1,z0r (zya hw hp).1 (qlw (zya hw hp).2 hl)⟩
 rwa[z0o] at this
theorem z9q{l:List Int}(h:∀x∈l,zjg x):∀x∈blockD l,x<256:=by
 intro x hx;have hw:=zo2 _ (ztc h);unfold blockD at hx;rcases qnd.1 hx with hx|hx
 ·exact zfn _ _ (ql6 _) x hx
 ·rcases qnu.1 hx with rfl|hx
  ·omega
  ·exact zgf _ _ x hx
theorem zza{l:List Int}{b:List Nat}(h:zvb l=some b):∀x∈b,x<256:=by
 unfold zvb at h;split at h
 ·cases h
 ·split at h
  ·injection h with h
   subst h;intro x hx;cases hx
  ·injection h with h
   subst h;intro x hx;rcases qnd.1 hx with hx|hx
   ·exact zfn _ _ (ql6 _) x hx
   ·unfold zc1 at hx
    obtain⟨k,hk,hx⟩:=qov.1 hx;exact z9q (z0f (zk3 l) k) x hx
end Go.Proofs.Y
