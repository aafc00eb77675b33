/- Merged. -/
import Derived.Test.YtmgfkpnghlmheaaGreatBun19
import Derived.Test.YtmgfkpnghlmheaaGreatBun34
set_option maxHeartbeats 4000000
namespace Go.Proofs.Y
open Go.RowKit Go.Hm Go.Shelf
attribute [local go_sem] Oper.semAt_some
structure BStep(n0 B:Nat)(W W':World):Prop where
 ko:KeepsOthers W W'
 kb:KB n0 B W W'
 be:Below B W W'
theorem BStep.trans{n0 B:Nat}{a b c:World}(h:BStep n0 B a b)(k:BStep n0 B b c):BStep n0 B a c:=⟨h.ko.trans k.ko,h.kb.trans k.kb,h.be.trans k.be⟩
theorem zue{W w1:World}(h:New W w1):KeepsOthers W w1:=⟨h.size,fun k _ hk _=>(h.block k (Array.getElem?_eq_some_iff.1 hk).1).trans hk⟩
theorem BStep.new{n0 B:Nat}{W w1:World}(h:New W w1)(hn:n0<=W.heap.size)(hB:B<n0):BStep n0 B W w1:=⟨zue h,KB.new h hn,Below.mono h (by omega)⟩
def BRow(n0 B:Nat)(xs:List Nat)(W:World):Prop:=∃v,Boxed W B 31 v/\Go.Hm.Own W n0 5 v (za2 .u8 xs)
theorem zm0{W w1 w2:World}{n0 B:Nat}{v v':Value}{xs ys:List Nat}(hv:Boxed W B 31 v)(ho:Go.Hm.Own W n0 5 v (za2 .u8 xs))(hn:n0<=W.heap.size)(hB:B<n0)(h1:New W w1)
 (o2:Go.Hm.Own w2 n0 5 v' (za2 .u8 ys))(g:w1.grownBy w2 v.ownBlock):Boxed w2 B 31 v/\BRow n0 B ys (w2.setCell ⟨B,0,none⟩ v')/\BStep n0 B W (w2.setCell ⟨B,0,none⟩ v'):=by
 have hte:31≠5:=by decide
 have hv1:Boxed w1 B 31 v:=(h1.block B hv.lt).trans hv;have ho1:Go.Hm.Own w1 n0 5 v (za2 .u8 xs):=ho.later h1;have hv2:Boxed w2 B 31 v:=hv1.kept g (hv1.not_row hte ho1);have hlt:=ho1.lt;refine⟨hv2,⟨v',hv2.set v',o2.kept (grownBy_setCell' w2 B v') (.inr (hv2.not_row hte o2).symm)⟩,?_,?_,?_⟩
 ·refine((zue h1).trans (KeepsOthers.of_grownBy g fun j o ej hj=>?_)).trans (KeepsOthers.setCell _ _ _)
  rcases ho1.2 with⟨rfl,_⟩|⟨q,cap,cur,rfl,_,hgb,_⟩
  ·simp[Value.ownBlock] at ej
  ·obtain rfl:q=j:=by simpa[Value.ownBlock] using ej
   rw[hgb] at hj;cases hj;rfl
 ·refine⟨?_,fun i i1 i2=>?_⟩
  ·have a:=h1.size
   have b:=g.size;have d:=(KeepsWalks.setCell w2 ⟨B,0,none⟩ v').size;omega
  ·refine(Below.heap_setCell _ _ _ i i2).trans ((g.block i (by have:=h1.size;omega) ?_).trans (h1.block i (by omega)))
   intro e;have:=(hlt i e.symm).1;omega
 ·have hb1:Below B W w1:=Below.mono h1 (by omega)
  have hs1:=h1.size;have hb2:Below B W w2:=hb1.grown g (by omega) (fun k e=>by have:=(hlt k e).1;omega);exact hb2.setCell (p:=⟨B,0,none⟩) (Nat.le_refl _) v'
theorem BRow.later{n0 B:Nat}{xs:List Nat}{W w1:World}(h:BRow n0 B xs W)(n:New W w1):BRow n0 B xs w1:=by obtain⟨v,hv,ho⟩:=h;exact⟨v,(n.block B hv.lt).trans hv,ho.later n⟩
theorem BRow.opened{n0 B:Nat}{xs:List Nat}{W:World}(h:BRow n0 B xs W):∃A c,Boxed W B 31 (.slice A xs.length c)/\Go.Hm.Own W n0 5 (.slice A xs.length c) (za2 .u8 xs):=by obtain⟨v,hv,ho⟩:=h;obtain⟨A,c,rfl,-,-⟩:=ho.slice;rw[zaa] at*;exact⟨A,c,hv,ho⟩
theorem KB.grown{n0 bo base:Nat}{W W':World}{v:Value}{e:TypeId}{xs:List Value}(ho:Go.Hm.Own W base e v xs)(h:n0<=base)(hn:n0<=W.heap.size)(g:W.grownBy W' v.ownBlock):KB n0 bo W W':=
 ⟨g.size,fun i i1 _=>g.block i (by omega) (fun e=>by have:=(ho.lt i e.symm).1;omega)⟩
theorem qa7{W:World}{base:Nat}{e:TypeId}{v:Value}{xs ys:List Nat}{k:IntKind}(h:W.ownsRow base e 1 v ((za2 k xs).length+ys.length) (za2 k xs++za2 k ys)):Go.Hm.Own W base e v (za2 k (xs++ys)):=by unfold Go.Hm.Own;rw[zds,List.length_append,zaa k ys];exact h
theorem z5r{W1 W2:World}{base:Nat}{e e':TypeId}{u v:Value}{xs ys:List Value}(h2:Go.Hm.Own W2 W1.heap.size e u xs)(h1:Go.Hm.Own W1 base e' v ys):u.ownBlock=none\/u.ownBlock≠v.ownBlock:=by
 rcases hu:u.ownBlock with _|k
 ·exact .inl rfl
 ·refine .inr fun e=>?_
  have a:=(h2.lt k hu).1;have b:=(h1.lt k e.symm).2;omega
theorem zxd{W:World}{base B:Nat}{e:TypeId}{u:Value}{xs:List Value}(h:Go.Hm.Own W base e u xs)(hB:B<base):u.ownBlock=none\/u.ownBlock≠some B:=
 .inr fun e=>by have:=(h.lt B e).1;omega
theorem z15{β:Type}{n0 bo:Nat}{W0:World}(h0:n0<=W0.heap.size):OwnFrom n0 (fun(_:β) W=>KB n0 bo W0 W):=
 fun _ A B row hs hg hr=>⟨Nat.le_trans hs.1 hg.size,fun k h1 h2=>(hg.block k (Nat.lt_of_lt_of_le h1 (Nat.le_trans h0 hs.1)) (fun e=>by have:=(hr k e.symm).1;omega)).trans (hs.2 k h1 h2)⟩
theorem zzr{p:List Nat}(hw:∀x∈p,x<=18446744073709551615)(hl:p.length<=65536):(encP p).length<=600000:=by
 have a:=zj5 p hw;have e1:=zap (n:=2*p.length) (by omega);have e2:=zap (n:=2*p.length+1) (by omega);have e3:(vp (p.getD 0 0)).length<=10:=by
  refine zap ?_;rw[List.getD_eq_getElem?_getD];cases h:p[0]? with
  |none=>simp
  |some x=>
   have:=hw x (List.mem_of_getElem? h);simp;omega
 have m:=Nat.mul_le_mul a hl;unfold encP;split
 ·rw[List.length_append];omega
 ·rw[List.length_append,List.length_cons,zbk];omega
def zxe{n:Nat}(L:List Nat)(pre:List (Sp n)):List Nat:=pre.flatMap fun x=>encP (seg L x.1.1 x.1.2)
theorem z5s{n:Nat}(L:List Nat)(pre:List (Sp n))(x:Sp n):zxe L (pre++[x])=zxe L pre++encP (seg L x.1.1 x.1.2):=by simp[zxe]
theorem qa8{L:List Nat}{ys:List (Sp L.length)}(h:ys.map Subtype.val=zck L 0 0):zxe L ys=encL L:=by unfold zxe encL;rw[<-z1w,<-h,List.map_map,List.flatMap_map];rfl
theorem zuf{L:List Nat}(hL:∀x∈L,x<=18446744073709551615){f t:Nat}:∀x∈seg L f t,x<=18446744073709551615:=fun x hx=>hL x (List.mem_of_mem_drop (List.mem_of_mem_take hx))
theorem qa9{n:Nat}{L:List Nat}(hL:∀x∈L,x<=18446744073709551615)(hl:L.length<=65536)(pre:List (Sp n)):(zxe L pre).length<=pre.length*600000:=by
 induction pre with
 |nil=>simp[zxe]
 |cons x pre ih=>
  have a:=zzr (p:=seg L x.1.1 x.1.2) (zuf hL) (by unfold seg;rw[List.length_take,List.length_drop];omega);have e:zxe L (x::pre)=encP (seg L x.1.1 x.1.2)++zxe L pre:=rfl;rw[e,List.length_append,List.length_cons];omega
set_option maxRecDepth 100000 in
theorem zqr{w:World}{A:Option Addr}{c:Nat}{L:List Nat}(h:Reads w w.heap.size 1 A L.length (za2 .u64 L))(hc:L.length<=c)(hL:∀x∈L,x<=18446744073709551615)(hl:L.length<=65536):
 Calls Tryz.prog 206 #[.slice A L.length c] w (OptB (some (encL L)) w):=by
 have hfew:=z13 (L:=L) L.length 0 0 (by omega) (Nat.le_refl _) (Nat.zero_le _);have HL:=Hz hL;clear hL;refine(callsIn_wide (n:=6)).1 ?_;refine callsIn_of_wp_marks Tryz.func206 rfl trivial ?_ rfl;simp only[Tryz.ntmps206,List.size_toArray,List.length_cons,List.length_nil,Nat.reduceAdd,Nat.reduceSub,Array.replicate_succ,Array.replicate_zero,List.push_toArray,List.append_toArray,List.nil_append,List.cons_append]
 gi_wp2_with fail
 refine⟨trivial,?_⟩;refine(callsIn_wide.2 (z12 A L.length c _)).mono ?_;rintro e w' ⟨rfl,rfl⟩
 gi_wp2_with fail
 obtain⟨W0,hW0⟩:∃W,W=(((w.alloc (.cells #[.slice none 0 0] 31)).alloc (.cells #[.bool false] 4)).alloc (.cells #[.slice none 0 0] 31)).alloc (.cells #[.slice A L.length c] 146):=⟨_,rfl⟩;have hz:W0.heap.size=w.heap.size+4:=by rw[hW0];simp
 have hB0:Below w.heap.size w W0:=by rw[hW0];exact((((Below.refl _ w).alloc (Nat.le_refl _) _).alloc (by simp) _).alloc (by simp;omega) _).alloc (by simp;omega) _
 have b0:Boxed W0 w.heap.size 31 (.slice none 0 0):=by rw[hW0];exact(((Boxed.new w _ _).alloc _).alloc _).alloc _
 have b1:Boxed W0 (w.heap.size+1) 4 (.bool false):=by have:=((Boxed.new (w.alloc (.cells #[.slice none 0 0] 31)) 4 (.bool false)).alloc (.cells #[.slice none 0 0] 31)).alloc (.cells #[.slice A L.length c] 146);rw[World.size_alloc,<-hW0] at this;exact this
 have b2:Boxed W0 (w.heap.size+2) 31 (.slice none 0 0):=by have:=(Boxed.new ((w.alloc (.cells #[.slice none 0 0] 31)).alloc (.cells #[.bool false] 4)) 31 (.slice none 0 0)).alloc (.cells #[.slice A L.length c] 146);rw[World.size_alloc,World.size_alloc,<-hW0] at this;exact this
 have b3:Boxed W0 (w.heap.size+3) 146 (.slice A L.length c):=by have:=Boxed.new (((w.alloc (.cells #[.slice none 0 0] 31)).alloc (.cells #[.bool false] 4)).alloc (.cells #[.slice none 0 0] 31)) 146 (.slice A L.length c);rw[World.size_alloc,World.size_alloc,World.size_alloc,<-hW0] at this;exact this
 have hrd:Reads W0 (w.heap.size+4) 1 A L.length (za2 .u64 L):=(h.keep fun p hp=>hB0.cell hp).more (by omega);have hAo:0<L.length-> ∀ad,A=some ad->ad.block≠w.heap.size+2:=by intro h0 ad e;obtain⟨ad',e',hb,-⟩:=h.2 h0;rw[e] at e';cases e';omega
 rw[<-hW0];clear hW0;refine wpIn_rangeFunc_ownG rfl (by omega) (gf:=238) (lb:= #[.pointer (some ⟨w.heap.size+1+1+1,0,none⟩)]) rfl trivial (enters_of Tryz.func238 (by kernel_rfl) rfl)
  (zuc (n0:=w.heap.size+4) (bo:=w.heap.size+2) (by omega) hc (by omega) (by omega) (by omega) (by omega) hAo b3.cell hrd) KB.trans (fun W l o o' h1 h2 h3 h4=>KB.of_below (belowK_b (w:=W0) (by omega) W l o o' h1 h2 h3 h4)) (Below.refl _ _) (fun _=>rfl)
  (fun pre W=>(∃v,Boxed W (w.heap.size+2) 31 v/\W.ownsRow (w.heap.size+4) 5 1 v (za2 .u8 (zxe L pre)).length (za2 .u8 (zxe L pre))/\True)/\KB (w.heap.size+4) (w.heap.size+2) W0 W/\Below (w.heap.size+2) W0 W)
  (fun _ _ _=>False)
  (OwnFrom.and (Go.Own.from (holdsRow_own (w.heap.size+4) (w.heap.size+2) 31 5 1 (fun pre:List (Sp L.length)=>(za2 .u8 (zxe L pre)).length) (fun pre=>za2 .u8 (zxe L pre)) (fun _ _=>True)) _) (OwnFrom.and (by rw[hz];exact z15 (by omega)) (ownFrom_below (by omega) (by omega))))
  (fun _ _ _ _ _ hs _ _=>hs)
  ⟨⟨_,b2,World.ownsRow_nil _ _ _ _,trivial⟩,KB.refl _ _ _,Below.refl _ _⟩
  (fun x=>{tmps:= #[.slice A L.length c,undef,.pointer (some ⟨w.heap.size,0,none⟩),.pointer (some ⟨w.heap.size+1,0,none⟩),.pointer (some ⟨w.heap.size+1+1,0,none⟩),slV A c x.1.1 x.1.2,undef,undef,undef,.slice A L.length c,.int .i64 (L.length:Int),.bool (decide ((65536:Int)<(L.length:Int))),.slice A L.length c,.func (.func 238) #[] #[.pointer (some ⟨w.heap.size+1+1+1,0,none⟩)],slV A c x.1.1 x.1.2,undef,undef,undef,undef,undef,undef,undef,undef,undef,undef,undef,undef,undef,undef,undef,undef,undef,undef,undef,undef,undef,undef,undef,undef,undef,undef,undef,undef,undef,undef,undef,undef],defers:=[]}) ?assign ?body ?done ?stop
 case assign=>
  intro l x W K hK
  gi_wp2
  exact hK
 case body=>
  rintro l pre x W ⟨⟨v,hv,hrow,-⟩,hK,hB⟩ hlt;have hx:=x.2;have hzW:w.heap.size+4<=W.heap.size:=by have:=hB.size;omega
  have hrW:=zn9 (hK.reads hrd hAo) hc hx.1 hx.2;have hpl:=zsl (l:=L) (a:=x.1.1) hx.2;have hsn:=z5s L pre x;have hp65:(seg L x.1.1 x.1.2).length<=65536:=by omega
  have hw:=zuf HL.out (f:=x.1.1) (t:=x.1.2);have hxs:=qa9 HL.out hl pre;have HRS:=Hz (fun W' (k:KB (w.heap.size+4) (w.heap.size+2) W0 W')=>zn9 (k.reads hrd hAo) hc hx.1 hx.2);unfold slV;rw[<-hpl];generalize(if c=x.1.1 then A else A.map (·.add x.1.1))=AS at*;generalize seg L x.1.1 x.1.2=p at*;generalize c-x.1.1=cp;generalize zxe L pre=xs at*;have hxs2:xs.length<=78643800000:=by omega
  have hbr:BRow (w.heap.size+4) (w.heap.size+1+1) xs W:=⟨v,hv,hrow⟩;have HS:=Hz hsn;have HK:=Hz hK;have HB:=Hz hB;have HW:=Hz hw;have HRd:=Hz (hrW.more hzW);have IR:=Hz (z5o (c:=cp) HRd.out (by omega));clear hsn hK hB hw hrW hv hrow hx hpl hxs hrd hAo b0 b1 b2 b3 hB0 h
  gi_wp2_with fail
  refine⟨trivial,?_⟩;refine(CallsIn.inRound l (callsIn_wide.2 IR.out)).mono ?_;rintro e w1 ⟨rfl,n1⟩;have hbr1:=hbr.later n1;have HN1:=Hz n1;have hz1:w.heap.size+4<=w1.heap.size:=Nat.le_trans hzW n1.size;clear IR n1;by_cases h4:4<=st p
  ·have d4:decide (4<=st p)=true:=decide_eq_true h4
   rw[d4]
   gi_wp2_with fail
   obtain⟨N,hN⟩:∃N:Nat,(2*(p.length:Int))=(N:Int)/\N=2*p.length:=⟨2*p.length,by omega,rfl⟩;rw[hN.1];have hNb:N<=131072:=by omega
   have hpos1:=zlw N;have hln1:=zap (n:=N) (by omega);have hp0:0<p.length:=Nat.lt_of_lt_of_le (by omega) (zfd p).1;have hEP:Hid (encP p=vp N++vp (p.getD 0 0)):=Hz (by unfold encP;rw[if_pos h4,hN.2]);have hg0:p.getD 0 0<=18446744073709551615:=by rw[List.getD_eq_getElem?_getD,List.getElem?_eq_getElem hp0];exact HW.out _ (List.getElem_mem hp0)
   have hpos2:=zlw (p.getD 0 0);have hln2:=zap (n:=p.getD 0 0) (by omega);clear hN;refine zf1 (KB (w.heap.size+4) (w.heap.size+4)) 4 [(0,0),(1,1),(2,2),(2,3),(2,4)] (KB.refl _ _) KB.trans (by kernel_rfl) (fun _ _ h=>h) (by kernel_rfl) (by kernel_rfl) (by kernel_rfl) (by kernel_rfl) ?_;have nd1:=New.drew w1;generalize w1.drew=d1 at nd1⊢;obtain⟨Av1,cv1,hv1,ho1⟩:=(hbr1.later nd1).opened;have zd1:w.heap.size+4<=d1.heap.size:=Nat.le_trans hz1 nd1.size;have P1:=Hz (zcz none 0 0 [] N d1 Reads.none_ (by omega) (by omega));refine zd7 rfl rfl (v:=?_) (fun W' hW=>?_) ?_;rotate_left
   ·have hcl:=(hW.cell (p:=⟨w.heap.size+1+1,0,none⟩) (by show w.heap.size+1+1<_;omega) (by show w.heap.size+1+1≠_;omega)).trans hv1.cell
    go_simp<;> with_reducible rfl
   simp only[Act.put,List.setIfInBounds_toArray,List.set_cons_zero,List.set_cons_succ];refine zcv rfl rfl (v:=?_) (fun W'=>?_) ?_;rotate_left
   ·go_simp<;> with_reducible rfl
   simp only[Act.put,List.setIfInBounds_toArray,List.set_cons_zero,List.set_cons_succ];refine zbl rfl rfl (fun K hK=>?_);go_simp
   with_reducible refine P1.out.mono ?_
   rintro e w1 ⟨A1,n1,c1,rfl,o1,b1⟩;refine hK _ _ (.inr (.inr (KB.new b1 zd1))) ?_;clear hK P1;rw[List.nil_append] at o1;obtain rfl:n1=(vp N).length:=by have:=o1.len;rwa[zaa] at this
   obtain⟨ad1,rfl,-⟩:=o1.reads.2 hpos1;refine zbl rfl rfl (fun K hK=>?_);refine zkk elB (.tmp 21) (.tmp 23) rfl (W:=w1) (B:=w.heap.size+4) (ho1.later b1) o1.reads hpos1 rfl rfl (Below.refl _ _) (Nat.le_refl _) (Nat.le_trans zd1 b1.size) (zcs _ _) (by rw[zaa];omega) (by rw[zaa];simp only[maxLen];omega) ?_;intro A1' c1' w1' _ _ o1' g1' _;refine hK _ _ (.inr (.inr (KB.grown (ho1.later b1) (Nat.le_refl _) (Nat.le_trans zd1 b1.size) g1'))) ?_;clear hK;rw[<-zds] at o1';obtain⟨hx1,hbr1,st1⟩:=zm0 hv1 ho1 zd1 (by omega) b1 o1' g1';have x1:=hx1.cell;have y1:=hx1.frozen;refine zbl rfl rfl (fun K hK=>?_);go_simp
   refine hK _ _ (.inr (.inl rfl)) ?_;clear hK;refine zht ?_;generalize World.setCell w1' _ _=s1 at hbr1 st1⊢;have zs1:w.heap.size+4<=s1.heap.size:=Nat.le_trans zd1 st1.ko.size;clear hx1 x1 y1 o1' g1' o1 b1 hv1 ho1;obtain⟨ap,rfl,hap,hcp⟩:=(HRS.out s1 (HK.out.trans ((KB.new HN1.out hzW).trans ((KB.new nd1 hz1).trans st1.kb)))).num hp0;have hcp:s1.cell? ap=some (.int .u64 ((p.getD 0 0:Nat):Int)):=hcp;generalize p.getD 0 0=x0 at*
   gi_wp2_with fail
   refine zf1 (KB (w.heap.size+4) (w.heap.size+4)) 6 [(0,0),(1,1),(1,2),(0,3),(2,4),(2,5),(2,6)] (KB.refl _ _) KB.trans (by kernel_rfl) (fun _ _ h=>h) (by kernel_rfl) (by kernel_rfl) (by kernel_rfl) (by kernel_rfl) ?_;have nd2:=New.drew s1;generalize s1.drew=d2 at nd2⊢;obtain⟨Av2,cv2,hv2,ho2⟩:=(hbr1.later nd2).opened;rw[List.length_append] at hv2 ho2;have zd2:w.heap.size+4<=d2.heap.size:=Nat.le_trans zs1 nd2.size;have P2:=Hz (zcz none 0 0 [] x0 d2 Reads.none_ (by omega) (by omega));have hcp2:d2.cell? ap=some (.int .u64 (x0:Int)):=(nd2.cell (p:=ap) (Nat.lt_of_lt_of_le hap zs1)).trans hcp;refine zd7 rfl rfl (v:=?_) (fun W' hW=>?_) ?_;rotate_left
   ·have hcl:=(hW.cell (p:=⟨w.heap.size+1+1,0,none⟩) (by show w.heap.size+1+1<_;omega) (by show w.heap.size+1+1≠_;omega)).trans hv2.cell
    go_simp<;> with_reducible rfl
   simp only[Act.put,List.setIfInBounds_toArray,List.set_cons_zero,List.set_cons_succ];refine zcv rfl rfl (v:=?_) (fun W'=>?_) ?_;rotate_left
   ·go_simp<;> with_reducible rfl
   simp only[Act.put,List.setIfInBounds_toArray,List.set_cons_zero,List.set_cons_succ];refine zcv rfl rfl (v:=?_) (fun W'=>?_) ?_;rotate_left
   ·go_simp<;> with_reducible rfl
   simp only[Act.put,List.setIfInBounds_toArray,List.set_cons_zero,List.set_cons_succ];refine zd7 rfl rfl (v:=?_) (fun W' hW=>?_) ?_;rotate_left
   ·have hcl:=(hW.cell (p:=ap) hap (by omega)).trans hcp2
    go_simp<;> with_reducible rfl
   simp only[Act.put,List.setIfInBounds_toArray,List.set_cons_zero,List.set_cons_succ];refine zbl rfl rfl (fun K hK=>?_);go_simp
   with_reducible refine P2.out.mono ?_
   rintro e w2 ⟨A2,n2,c2,rfl,o2,b2⟩;refine hK _ _ (.inr (.inr (KB.new b2 zd2))) ?_;clear hK P2;rw[List.nil_append] at o2;obtain rfl:n2=(vp x0).length:=by have:=o2.len;rwa[zaa] at this
   obtain⟨ad2,rfl,-⟩:=o2.reads.2 hpos2;refine zbl rfl rfl (fun K hK=>?_);refine zkk elB (.tmp 25) (.tmp 29) rfl (W:=w2) (B:=w.heap.size+4) (ho2.later b2) o2.reads hpos2 rfl rfl (Below.refl _ _) (Nat.le_refl _) (Nat.le_trans zd2 b2.size) (zcs _ _) (by simp only[zaa,List.length_append];omega) (by simp only[zaa,List.length_append,maxLen];omega) ?_;intro A2' c2' w2' _ _ o2' g2' _;refine hK _ _ (.inr (.inr (KB.grown (ho2.later b2) (Nat.le_refl _) (Nat.le_trans zd2 b2.size) g2'))) ?_;clear hK;rw[<-zds] at o2';obtain⟨hx2,hbr2,st2⟩:=zm0 hv2 ho2 zd2 (by omega) b2 o2' g2';have x2:=hx2.cell;have y2:=hx2.frozen;refine zbl rfl rfl (fun K hK=>?_);go_simp
   refine hK _ _ (.inr (.inl rfl)) ?_;clear hK;refine zht ?_;generalize World.setCell w2' _ _=s2 at hbr2 st2⊢;have zs2:w.heap.size+4<=s2.heap.size:=Nat.le_trans zd2 st2.ko.size;clear hx2 x2 y2 o2' g2' o2 b2 hv2 ho2
   gi_wp2
   have ST:=(BStep.new HN1.out hzW (by omega)).trans ((BStep.new nd1 hz1 (by omega)).trans (st1.trans ((BStep.new nd2 zs1 (by omega)).trans st2)));obtain⟨v',hv',ho'⟩:=hbr2;exact⟨ST.ko.from _,ST.kb,⟨v',hv',by rw[HS.out,hEP.out,<-List.append_assoc];exact ho',trivial⟩,HK.out.trans ST.kb,HB.out.trans ST.be⟩
  ·have d4:decide (4<=st p)=false:=decide_eq_false h4
   rw[d4];obtain⟨N,hN⟩:∃N:Nat,(2*(p.length:Int))=(N:Int)/\N=2*p.length:=⟨2*p.length,by omega,rfl⟩;rw[hN.1];have hNb:N<=131072:=by omega
   have hwr:IntKind.u64.wrap ((N:Int)+1)=((N+1:Nat):Int):=by rw[IntKind.wrap_u64];omega
   have hpos3:=zlw (N+1);have hln3:=zap (n:=N+1) (by omega);have hEP:Hid (encP p=vp (N+1)++restB p):=Hz (by unfold encP restB;rw[if_neg h4,hN.2]);clear hN;have hrb:0<(restB p).length/\(restB p).length<=600000:=by have a:=zj5 p HW.out;have m:=Nat.mul_le_mul a hp65;unfold restB;rw[List.length_cons,zbk];omega
   have LR:=Hz (zxc (c:=cp) ((HRS.out w1 (HK.out.trans (KB.new HN1.out hzW))).more hz1) HW.out hp65);generalize restB p=rb at*
   gi_wp2_with fail
   refine⟨trivial,?_⟩;refine(CallsIn.inRound l (callsIn_wide.2 LR.out)).mono ?_;rintro e w2 ⟨A2,n2,c2,rfl,o2,b2⟩;obtain rfl:n2=rb.length:=by have:=o2.len;rwa[zaa] at this
   obtain⟨ad2,rfl,-⟩:=o2.reads.2 hrb.1;clear LR;obtain⟨Aw,cw,hvw,how⟩:=hbr1.opened;have hvw2:Boxed w2 (w.heap.size+1+1) 31 _:=(b2.block _ hvw.lt).trans hvw;have how2:=how.later b2;have hz2:w.heap.size+4<=w2.heap.size:=Nat.le_trans hz1 b2.size
   gi_wp2_with fail
   refine zf1 (KB (w.heap.size+4) (w.heap.size+4)) 5 [(0,0),(1,1),(1,2),(2,3),(2,4),(2,5)] (KB.refl _ _) KB.trans (by kernel_rfl) (fun _ _ h=>h) (by kernel_rfl) (by kernel_rfl) (by kernel_rfl) (by kernel_rfl) ?_;have nd3:=New.drew w2;generalize w2.drew=d3 at nd3⊢;have hv3:=(nd3.block _ hvw2.lt).trans hvw2;have hv3:Boxed d3 (w.heap.size+1+1) 31 _:=hv3;have ho3:=how2.later nd3;have zd3:w.heap.size+4<=d3.heap.size:=Nat.le_trans hz2 nd3.size;have P3:=Hz (zcz none 0 0 [] (N+1) d3 Reads.none_ (by omega) (by omega));refine zd7 rfl rfl (v:=?_) (fun W' hW=>?_) ?_;rotate_left
   ·have hcl:=(hW.cell (p:=⟨w.heap.size+1+1,0,none⟩) (by show w.heap.size+1+1<_;omega) (by show w.heap.size+1+1≠_;omega)).trans hv3.cell
    go_simp<;> with_reducible rfl
   simp only[Act.put,List.setIfInBounds_toArray,List.set_cons_zero,List.set_cons_succ];refine zcv rfl rfl (v:=?_) (fun W'=>?_) ?_;rotate_left
   ·go_simp<;> with_reducible rfl
   simp only[Act.put,List.setIfInBounds_toArray,List.set_cons_zero,List.set_cons_succ];refine zcv rfl rfl (v:=?_) (fun W'=>?_) ?_;rotate_left
   ·go_simp<;> with_reducible rfl
   simp only[Act.put,List.setIfInBounds_toArray,List.set_cons_zero,List.set_cons_succ];refine zbl rfl rfl (fun K hK=>?_);go_simp
   rw[show((N:Int)+1)=((N+1:Nat):Int) from rfl]
   with_reducible refine P3.out.mono ?_
   rintro e w3 ⟨A3,n3,c3,rfl,o3,b3⟩;refine hK _ _ (.inr (.inr (KB.new b3 zd3))) ?_;clear hK P3;rw[List.nil_append] at o3;obtain rfl:n3=(vp (N+1)).length:=by have:=o3.len;rwa[zaa] at this
   obtain⟨ad3,rfl,-⟩:=o3.reads.2 hpos3;refine zbl rfl rfl (fun K hK=>?_);refine zkk elB (.tmp 38) (.tmp 41) rfl (W:=w3) (B:=w.heap.size+4) (ho3.later b3) o3.reads hpos3 rfl rfl (Below.refl _ _) (Nat.le_refl _) (Nat.le_trans zd3 b3.size) (zcs _ _) (by rw[zaa];omega) (by rw[zaa];simp only[maxLen];omega) ?_;intro A3' c3' w3' _ _ o3' g3' _;refine hK _ _ (.inr (.inr (KB.grown (ho3.later b3) (Nat.le_refl _) (Nat.le_trans zd3 b3.size) g3'))) ?_;clear hK;rw[<-zds] at o3';obtain⟨hx3,hbr3,st3⟩:=zm0 hv3 ho3 zd3 (by omega) b3 o3' g3';have x3:=hx3.cell;have y3:=hx3.frozen;have q3:=((o2.later nd3).later b3).kept g3' (z5r o2 how);have q3:=q3.kept (grownBy_setCell' w3' (w.heap.size+1+1) (.slice A3' ((za2 .u8 xs).length+(vp (N+1)).length) c3')) (zxd q3 (by omega));refine zbl rfl rfl (fun K hK=>?_);go_simp
   refine hK _ _ (.inr (.inl rfl)) ?_;clear hK;refine zht ?_;generalize World.setCell w3' _ _=s3 at hbr3 st3 q3⊢;have zs3:w.heap.size+4<=s3.heap.size:=Nat.le_trans zd3 st3.ko.size;clear hx3 x3 y3 o3' g3' o3 b3 hv3 ho3;obtain⟨Ay,cy,hvy,hoy⟩:=hbr3.opened;have hcy:=hvy.cell;have hfy:=hvy.frozen;rw[List.length_append] at hoy hvy hcy;obtain⟨ad',e',-,hcs⟩:=q3.reads.2 hrb.1;cases e';obtain⟨i5,hi5,hi0,hi1,hi2⟩:=info_parts elB.hi
   gi_wp2_with (gi_at_builtin;refine wpListIn_append_own _ rfl _ _ 31 rfl (w.heap.size+4) 5 i5 (.int .u8 0) 1 1 (by kernel_rfl) hi5 hi0 hi1 hi2 rfl (by decide) _ _ _ rfl hoy ad2 rb.length c2 (za2 .u8 rb) rfl (by rw[zaa,Nat.mul_one]) hcs (zcs _ _) (by simp only[zaa,List.length_append,maxLen];omega) (by simp only[zaa,List.length_append];omega) zs3 ?_;intro v' w4 hown' hgrow _;have o4:=qa7 hown';rw[List.append_assoc] at o4;obtain⟨A4,c4,rfl,-,-⟩:=o4.slice;obtain⟨hx4,hbr4,st4⟩:=zm0 hvy hoy zs3 (by omega) (New.refl s3) o4 hgrow;have x4:=hx4.cell;have y4:=hx4.frozen)
   have ST:=(BStep.new HN1.out hzW (by omega)).trans ((BStep.new b2 hz1 (by omega)).trans ((BStep.new nd3 hz2 (by omega)).trans (st3.trans st4)));obtain⟨v',hv',ho'⟩:=hbr4;exact⟨ST.ko.from _,ST.kb,⟨v',hv',by rw[HS.out,hEP.out];exact ho',trivial⟩,HK.out.trans ST.kb,HB.out.trans ST.be⟩
 case done=>
  rintro D ys W hD hys ⟨⟨v,hv,hrow,-⟩,hKB,hB⟩ hK;have hall:=qa8 hys;have hz0:=hB.size;have ho:Go.Hm.Own W (w.heap.size+4) 5 v (za2 .u8 (zxe L ys)):=hrow;rw[hall] at ho;obtain⟨A2,c2,rfl,-,-⟩:=ho.slice;have b0':Boxed W w.heap.size 31 (.slice none 0 0):=(hKB.2 _ (by omega) (by omega)).trans b0;have b1':Boxed W (w.heap.size+1) 4 (.bool false):=(hKB.2 _ (by omega) (by omega)).trans b1;have x2:=hv.cell;have x0:=b0'.cell;have x1:=b1'.cell;have y0:=b0'.frozen;have y1:=b1'.frozen;clear hrow hAo hrd h b0 b1 b2 b3
  gi_wp2
  refine⟨by simp,.inl ⟨_,_,rfl,run_takeDeferred (((KeepsOthers.setCell W _ _).trans (KeepsOthers.setCell _ _ _)).same D _ hK rfl),?_⟩⟩;obtain⟨U,hU⟩:∃v,v=Value.slice A2 (za2 .u8 (encL L)).length c2:=⟨_,rfl⟩;rw[<-hU] at ho⊢;have hne0:some w.heap.size≠some D:=by simp;omega
  have hne1:some (w.heap.size+1)≠some D:=by simp;omega
  have s0:=(((b0'.set U).kept (grownBy_setCell' _ (w.heap.size+1) (.bool true)) (by simp)).kept (grownBy_putObj' _ D (.deferred none)) hne0).cell;have s1:=(((b1'.kept (grownBy_setCell' W w.heap.size U) (by simp)).set (.bool true)).kept (grownBy_putObj' _ D (.deferred none)) hne1).cell;have o1:=ho.kept (grownBy_setCell' W w.heap.size U) (zxd ho (by omega));have o2:=o1.kept (grownBy_setCell' _ (w.heap.size+1) (.bool true)) (zxd o1 (by omega));have o3:Go.Hm.Own (((W.setCell ⟨w.heap.size,0,none⟩ U).setCell ⟨w.heap.size+1,0,none⟩ (.bool true)).putObj D (.deferred none)) (w.heap.size+4) 5 U (za2 .u8 (encL L)):=ownsRow_putObj o2 (.deferred none) (((KeepsOthers.setCell W _ _).trans (KeepsOthers.setCell _ _ _)).same D _ hK rfl) rfl;have o4:=o3.base_le (b':=w.heap.size) (by omega);have hBw:Below w.heap.size w W:=hB0.trans (Below.mono hB (by omega));have hBf:Below w.heap.size w (((W.setCell ⟨w.heap.size,0,none⟩ U).setCell ⟨w.heap.size+1,0,none⟩ (.bool true)).putObj D (.deferred none)):=
   ((hBw.setCell (p:=⟨w.heap.size,0,none⟩) (Nat.le_refl _) U).setCell (p:=⟨w.heap.size+1,0,none⟩) (by simp) (.bool true)).trans (belowK_b (w:=w) (Nat.le_refl _) _ D _ _ (by omega) (((KeepsOthers.setCell W _ _).trans (KeepsOthers.setCell _ _ _)).same D _ hK rfl) rfl rfl)
  refine⟨.tuple #[U,.bool true],?_,?_⟩
  ·simp[results,go_sem,s0,s1]
  ·rw[hU] at o4⊢
   exact⟨A2,_,c2,rfl,o4,by rw[<-hU];exact hBf⟩
 case stop=>
  rintro D c pre W _ _ h _;exact h.elim
open Go.RowKit Go.Hm
theorem ze2:∀(k n:Nat),n<=k-> ∀x∈vp n,x<256:=by
 intro k;induction k with
 |zero=>
  intro n hn x hx;rw[ze4 (by omega)] at hx;simp at hx;omega
 |succ k ih=>
  intro n hn x hx;by_cases h:n<128
  ·rw[ze4 h] at hx
   simp at hx;omega
  ·rw[zfz (by omega)] at hx
   rcases List.mem_cons.1 hx with rfl|hx
   ·omega
   ·exact ih _ (by omega) x hx
theorem z5t{p:List Nat}(hw:∀x∈p,x<=18446744073709551615):∀x∈encP p,x<256:=by
 intro x hx;have:=zj5 p hw;unfold encP at hx;split at hx
 ·rcases List.mem_append.1 hx with hx|hx
  ·exact ze2 _ _ (Nat.le_refl _) x hx
  ·exact ze2 _ _ (Nat.le_refl _) x hx
 ·rcases List.mem_append.1 hx with hx|hx
  ·exact ze2 _ _ (Nat.le_refl _) x hx
  ·rcases List.mem_cons.1 hx with rfl|hx
   ·omega
   ·exact zlx _ _ x hx
theorem zob{l:List Nat}(hw:∀x∈l,x<=18446744073709551615):∀x∈encL l,x<256:=by intro x hx;unfold encL at hx;obtain⟨p,hp,hx⟩:=List.mem_flatMap.1 hx;exact z5t (zsi hw hp).1 x hx
theorem zlf{w:World}{A B:Option Addr}{n m c e:Nat}{l k:List Nat}(h:Reads w w.heap.size 1 A n (za2 .u8 l))(hk:Reads w w.heap.size 1 B m (za2 .u8 k))(h8:∀x∈l,x<256)(k8:∀x∈k,x<256):
 Calls Tryz.prog 226 #[.slice A n c,.slice B m e] w (zdk (.bool (decide (l=k))) w):=by
 have BB:=Hz (zhe h8 k8);have q1:=zd9 (c:=c) h;have q2:=zd9 (c:=e) hk;clear h8 k8 h hk;go_enter Tryz.func226,Tryz.ntmps226
 go_wp2
 go_ret
 exact⟨by simp[BB.out],rfl⟩
theorem z5u{most:Nat}{S:St}(hS:S.ok):∀x∈(rpS most S).1,x<=18446744073709551615:=by
 intro x hx;unfold rpS at hx;dsimp only at hx;split at hx
 ·split at hx
  ·rename_i l hl
   unfold zbh at hl;split at hl
   ·rename_i hg
    injection hl with hl;subst hl;have a:=z4i _ _ _ x hx;have b:2^((zbf (lenS (2*(most:Int)+1) S).2).1:Int).toNat<=2^64:=Nat.pow_le_pow_right (by omega) (by omega);omega
   ·cases hl
  ·simp at hx
 ·have a:=zjm (zba (m:=2*(most:Int)+1) hS)
  have:=(List.mem_replicate.1 hx).2;omega
theorem z5v{m:Int}{c:Nat}{r:List Nat}(hS:St.ok (some (c::r))):((lenS m (some (c::r))).2.getD []).length<=r.length:=by
 rcases zbp m _ hS with e|⟨N,r',e,-,-,e2⟩
 ·rw[e];simp
 ·rw[e2]
  injection e with e;have a:=congrArg List.length e;have b:=zlw N;rw[List.length_append,List.length_cons] at a;simp;omega
theorem z5w{S:St}(hS:S.ok):((zh0 S).2.getD []).length<=(S.getD []).length:=by
 rcases zgz S hS with e|⟨N,r',rfl,-,e2⟩
 ·rw[e];simp
 ·rw[e2];simp
theorem zg3{n:Int}(S:St):((zbr n S).2.getD []).length<=(S.getD []).length:=by
 rcases zcd n S with e|⟨l,rfl,-,-,e2⟩
 ·rw[e];simp
 ·rw[e2];simp
theorem z16(S:St):((zbf S).2.getD []).length<=(S.getD []).length:=by
 match S with
 |none=>simp[zbf]
 |some []=>simp[zbf]
 |some (c::r)=>simp[zbf]
theorem qba{most c:Nat}{r:List Nat}(hS:St.ok (some (c::r))):((rpS most (some (c::r))).2.getD []).length<=r.length:=by
 have h1:=z5v (m:=2*(most:Int)+1) hS;have h2:=zba (m:=2*(most:Int)+1) hS;unfold rpS;dsimp only;split
 ·split
  ·have a:=z16 (lenS (2*(most:Int)+1) (some (c::r))).2
   exact Nat.le_trans (Nat.le_trans (zg3 _) a) h1
  ·simp
 ·exact Nat.le_trans (z5w h2) h1
theorem zzs{n k:Nat}{out:List Nat}{S:St}(h:∀c r,S≠some (c::r)):decS n k out S=(out,S):=by
 cases k with
 |zero=>rfl
 |succ k=>
  match S,h with
  |none,_=>rfl
  |some [],_=>rfl
  |some (c::r),h=>exact absurd rfl (h c r)
open Go.RowKit Go.Hm
def zxf(w:World)(g:Nat):Nat:=match w.cell? ⟨g,0,none⟩ with
 |some (.slice _ n _)=>n
 |_=>0
theorem zqs{w:World}{g:Nat}{S:St}(h:CurS w g S):zxf w g=(S.getD []).length:=by obtain⟨A,c,hB,-⟩:=h;have:=hB.cell 0;simp at this;unfold zxf;rw[this]
def DecPost(b:List Nat)(n:Int)(w:World)(e:Ending)(w':World):Prop:=∃o,IsDec b n o/\OptW o w e w'
theorem isDec_none{b:List Nat}{n:Int}(h:∀l:List Nat,(l.length:Int)=n->l.length<=65536->(∀x∈l,x<=18446744073709551615)->encL l=b->False):IsDec b n none:=
 fun l=>⟨fun e=>(by cases e),fun⟨h1,h2,h3,h4⟩=>(h l h1 h2 h3 h4).elim⟩
theorem z17{b l:List Nat}(h1:l.length<=65536)(h2:∀x∈l,x<=18446744073709551615)(h3:encL l=b):IsDec b (l.length:Int) (some l):=
 fun m=>⟨fun e=>by injection e with e;subst e;exact⟨rfl,h1,h2,h3⟩,fun⟨_,k2,k3,k4⟩=>by rw[zzn h1 k2 h2 k3 (h3.trans k4.symm)]⟩
theorem zqt{w:World}{A:Option Addr}{c m:Nat}{b:List Nat}{n:Int}(hn:n<0\/65536<n):Calls Tryz.prog 208 #[.slice A m c,.int .i64 n] w (DecPost b n w):=by
 have hI:Hid (IsDec b n none):=Hz (isDec_none fun l h1 h2 _ _=>by omega);by_cases h0:n<0
 ·go_enter Tryz.func208,Tryz.ntmps208
  go_wp2
  go_ret2
  exact⟨none,hI.out,rfl,Below.refl _ _⟩
 ·have h1:65536<n:=by omega
  go_enter Tryz.func208,Tryz.ntmps208
  go_wp2
  go_ret2
  exact⟨none,hI.out,rfl,Below.refl _ _⟩
theorem zqu{w:World}{A:Option Addr}{c:Nat}{b:List Nat}{n:Nat}(h:Reads w w.heap.size 1 A b.length (za2 .u8 b))(h8:∀x∈b,x<256)(hb:b.length<=140737488355200)(hn:n<=65536):
 Calls Tryz.prog 208 #[.slice A b.length c,.int .i64 (n:Int)] w (DecPost b (n:Int) w):=by
 have OV:=Hz (zfh (c:=c) h (by omega) h8);obtain⟨D,hD⟩:∃D,D=decS n b.length [] (some b):=⟨_,rfl⟩;have HD:=Hz hD;have HE:Hid (∀l:List Nat,(l.length:Int)=(n:Int)->(∀x∈l,x<=18446744073709551615)->encL l=b->D=(l,some [])):=Hz fun l h1 h2 h3=>by rw[hD,<-h3];exact zsj h2 hn (by omega) (Nat.le_refl _)
 clear hD;have H8:=Hz h8;have HR:=Hz h;clear h h8;go_enter Tryz.func208,Tryz.ntmps208
 go_wp2_with fail
 refine OV.out.mono ?_;rintro e w1 ⟨g,rfl,hg,hcur,b1⟩;have s1:=CurS.of hcur;clear hcur OV;go_wp2_with fail
 go_loopw [7] (fun v wr=>∃(Ao:Option Addr) (co k:Nat) (out:List Nat) (S:St),v= .slice Ao out.length co/\Go.Hm.Own wr w.heap.size 87 (.slice Ao out.length co) (za2 .u64 out)/\CurS wr g S/\Below w.heap.size w wr/\out.length<=n/\Hid (∀x∈out,x<=18446744073709551615)/\(S.getD []).length<=k/\Hid (decS n k out S=D)) (fun _ wr=>zxf wr g)
 case atStart=>exact⟨none,0,b.length,[],some b,rfl,Own.nil_,s1,b1,Nat.zero_le _,Hz (by simp),Nat.le_refl _,Hz HD.out.symm⟩
 case round=>
  obtain⟨Ao,co,k,out,S,rfl,hown,hs,hbl,hol,hw,hk,hdec⟩:=hrel;have hok:=hs.ok;have hml:=zqs hs;have BD:=Hz (zzi hs);have LF:=Hz (zua hs)
  match S,hs,hok,hk,hdec,hml,BD,LF with
  |some (x::r),hs,hok,hk,hdec,hml,BD,LF=>
   simp only[Option.getD_some,List.length_cons] at hk hml;obtain⟨k,rfl⟩:∃j,k=j+1:=⟨k-1,by omega⟩;have RP:=Hz (zsk (most:=n-out.length) hs (by omega));have hrl:=qfn (n-out.length) _ hok;have hrw:=z5u (most:=n-out.length) hok;have hls:=qba (most:=n-out.length) hok;have hd:=hdec.out;rw[decS] at hd;have hD':=Hz hd;clear hd hdec;generalize rpS (n-out.length) (some (x::r))=R at*;obtain⟨y,S2⟩:=R;dsimp only at*;have hsub:(n:Int)-(out.length:Int)=((n-out.length:Nat):Int):=by omega
   have HS:=Hz hs;clear hs hok;go_wp2_with fail
   refine BD.out.mono ?_;rintro e w2 ⟨rfl,rfl⟩;go_wp2_with fail
   refine LF.out.mono ?_;rintro e w2 ⟨rfl,rfl⟩;clear BD LF;go_wp2_with fail
   refine RP.out.mono ?_;rintro e w3 ⟨A3,n3,c3,rfl,e3,o3,s3,g3⟩;subst e3;clear RP;obtain⟨cs,hB⟩:=HS.out.blk;have hown3:=hown.keepT g3 hB (by decide);have hbl3:Below w.heap.size w w3:=hbl.grown g3 hbl.size (fun k e=>by injection e with e;omega);have hz3:=hbl3.size;have G3:=Hz g3;have S3:=Hz s3;clear g3 s3 hB HS hown hbl;go_wp2_with (first
    |(refine zau elW rfl (.tmp 26) (.tmp 32) rfl (W:=w) (B:=w.heap.size) hown3 o3.reads rfl rfl hbl3 (Nat.le_refl _) hz3 (by omega) (by simp only[maxLen];omega) ?_
      intro A4 c4 w4 _ _ o4 g4 b4 _))
   have s4:=S3.out.push hown3 g4 (by decide) (by decide);go_roundw
   case rel=>exact⟨A4,c4,k,out++y,S2,by simp,by simpa using o4,s4,b4,by rw[List.length_append];omega,Hz (fun z hz=>by rcases List.mem_append.1 hz with hz|hz;exact hw.out z hz;exact hrw z hz),by omega,hD'⟩
   case measure=>rw[zqs s4];omega
  |some [],hs,hok,hk,hdec,hml,BD,LF=>
   have hd:=hdec.out;rw[zzs (by simp)] at hd;have HNo:Hid ((out.length:Int)=(n:Int)->encL out=b->False)->Hid (IsDec b (n:Int) none):=fun hh=>Hz (isDec_none fun l h1 _ h3 h4=>by have e:=HE.out l h1 h3 h4;rw[<-hd] at e;injection e with e1 _;subst e1;exact hh.out h1 h4)
   clear hd hdec HE HD hs;by_cases hno:out.length=n
   ·subst hno
    have EN:=Hz (zqr (c:=co) hown.reads hown.cap.1 hw.out hn);go_wp2_with fail
    refine BD.out.mono ?_;rintro e w2 ⟨rfl,rfl⟩;go_wp2_with fail
    refine LF.out.mono ?_;rintro e w2 ⟨rfl,rfl⟩;go_wp2_with fail
    refine BD.out.mono ?_;rintro e w2 ⟨rfl,rfl⟩;go_wp2_with fail
    refine EN.out.mono ?_;rintro e w5 ⟨A5,n5,c5,rfl,o5,b5⟩;clear BD LF EN;have hbl5:Below w.heap.size w w5:=hbl.trans (Below.mono b5 hbl.size);have EQ:=Hz (zlf (c:=c5) (e:=c) o5.reads ((HR.out.below hbl5).more hbl5.size) (zob hw.out) H8.out);have hown5:=hown.later b5;by_cases heq:encL out=b
    ·have dq:decide (encL out=b)=true:=decide_eq_true heq
     rw[dq] at EQ;go_wp2_with fail
     refine EQ.out.mono ?_;rintro e w6 ⟨rfl,rfl⟩;go_wp2
     go_ret2
     exact⟨some out,z17 hn hw.out heq,_,_,_,rfl,hown5,hbl5⟩
    ·have dq:decide (encL out=b)=false:=decide_eq_false heq
     rw[dq] at EQ;have hI:=HNo (Hz fun _ e=>heq e);go_wp2_with fail
     refine EQ.out.mono ?_;rintro e w6 ⟨rfl,rfl⟩;go_wp2
     go_ret2
     exact⟨none,hI.out,rfl,hbl5⟩
   ·have hI:=HNo (Hz fun e _=>hno (by omega))
    go_wp2_with fail
    refine BD.out.mono ?_;rintro e w2 ⟨rfl,rfl⟩;go_wp2_with fail
    refine LF.out.mono ?_;rintro e w2 ⟨rfl,rfl⟩;go_wp2_with fail
    refine BD.out.mono ?_;rintro e w2 ⟨rfl,rfl⟩;go_wp2
    go_ret2
    exact⟨none,hI.out,rfl,hbl⟩
  |none,hs,hok,hk,hdec,hml,BD,LF=>
   have hd:=hdec.out;rw[zzs (by simp)] at hd;have hI:Hid (IsDec b (n:Int) none):=Hz (isDec_none fun l h1 _ h3 h4=>by have e:=HE.out l h1 h3 h4;rw[<-hd] at e;injection e with _ e2;cases e2)
   clear hd hdec HE HD hs;go_wp2_with fail
   refine BD.out.mono ?_;rintro e w2 ⟨rfl,rfl⟩;go_wp2_with fail
   refine BD.out.mono ?_;rintro e w2 ⟨rfl,rfl⟩;go_wp2
   go_ret2
   exact⟨none,hI.out,rfl,hbl⟩
open Go.RowKit Go.Hm
theorem z75{l:List Int}(h:∀x∈l,ze5 x):∀x∈blockD l,x<256:=by
 intro x hx;have hw:=zj5 _ (zkb h);unfold blockD at hx;rcases List.mem_append.1 hx with hx|hx
 ·exact ze2 _ _ (Nat.le_refl _) x hx
 ·rcases List.mem_cons.1 hx with rfl|hx
  ·omega
  ·exact zlx _ _ x hx
theorem zti{l:List Int}{b:List Nat}(h:zjz l=some b):∀x∈b,x<256:=by
 unfold zjz at h;split at h
 ·cases h
 ·split at h
  ·injection h with h
   subst h;intro x hx;cases hx
  ·injection h with h
   subst h;intro x hx;rcases List.mem_append.1 hx with hx|hx
   ·exact ze2 _ _ (Nat.le_refl _) x hx
   ·unfold zci at hx
    obtain⟨k,hk,hx⟩:=List.mem_flatMap.1 hx;exact z75 (zt2 (zia l) k) x hx
def qf6(b:List Nat)(n:Int)(w:World)(e:Ending)(w':World):Prop:=∃o,IsDel b n o/\OptI o w e w'
theorem zvv{b P:List Nat}{n:Nat}{Q:List Int}{S:St}(h:IsDel b (n:Int) (if S=some []/\zjz Q=some b then some Q else none))(h1:S=some [])(h2:zjz Q=some P)(h3:P=b):IsDel b (n:Int) (some Q):=by rw[if_pos ⟨h1,by rw[h2,h3]⟩] at h;exact h
theorem zpe{b:List Nat}{n:Nat}{Q:List Int}{S:St}(h:IsDel b (n:Int) (if S=some []/\zjz Q=some b then some Q else none))(h1: ¬(S=some []/\zjz Q=some b)):IsDel b (n:Int) none:=by rw[if_neg h1] at h;exact h
set_option maxRecDepth 100000 in
theorem zit{w:World}{A:Option Addr}{c:Nat}{b:List Nat}{n:Int}(h:Reads w w.heap.size 1 A b.length (za2 .u8 b))(h8:∀x∈b,x<256)(hb:b.length<=140737488355200):
 Calls Tryz.prog 215 #[.slice A b.length c,.int .i64 n] w (qf6 b n w):=by
 by_cases hfar:n<0\/65536<n
 ·have hI:=Hz (zt5 (b:=b) hfar)
  clear h h8;by_cases h0:n<0
  ·clear hfar
   go_enter Tryz.func215,Tryz.ntmps215
   go_wp2
   go_ret2
   exact⟨none,hI.out,rfl,Below.refl _ _⟩
  ·have h1:65536<n:=by omega
   clear hfar;go_enter Tryz.func215,Tryz.ntmps215
   go_wp2
   go_ret2
   exact⟨none,hI.out,rfl,Below.refl _ _⟩
 obtain⟨n,rfl⟩:=Int.eq_ofNat_of_zero_le (show 0<=n by omega);have i1: ¬(n:Int)<0:=by omega
 have i2: ¬(65536:Int)<(n:Int):=by omega
 have OV:=Hz (zfh (c:=c) h (by omega) h8);have HI:=Hz (zzc (n:=n) h8);have HIN:=Hz (zzb (n:=n) h8);have HLE:=qaj n b;have HZ:Hid (n=0->zjo n b=([],some b)):=Hz (fun e=>by rw[e];rfl);have HP:Hid (0<n->zjo n b=zp3 n (some b)):=Hz (fun e=>by unfold zjo;rw[if_neg (by omega)]);have HR:=Hz h;have H8:=Hz h8;clear h h8 hfar;by_cases h0:n=0
 ·have hz:=HZ.out h0
  rw[hz] at HI HIN;have i3: ¬(0:Int)<(n:Int):=by omega
  have EN:=Hz (fun W=>zfb (w:=W) (A:=none) (n:=0) (c:=0) (l:=[]) Reads.none_ (by simp) (by omega));have HN:=Hz h0;clear HZ HP hz HLE h0;go_enter Tryz.func215,Tryz.ntmps215
  go_wp2_with fail
  refine OV.out.mono ?_;rintro e w1 ⟨g,rfl,hg,hcur,b1⟩;have s1:=CurS.of hcur;have EB:=Hz (zgi s1);clear hcur OV s1 hg;by_cases hend:b=[]
  ·have hE:zp2 (some b)=true:=by rw[hend];rfl
   rw[hE] at EB;have e0:zjz []=some []:=rfl;have HY:=Hz (zvv HI.out (by rw[hend]) e0 hend.symm);have HEND:=Hz hend;clear hend hE;go_wp2_with fail
   refine EB.out.mono ?_;rintro e w2 ⟨rfl,rfl⟩;go_wp2_with fail
   refine(EN.out _).mono ?_;rintro e w3 ⟨A3,n3,c3,rfl,o3,b3⟩;have b03:=New.trans b1 b3;obtain rfl:n3=0:=by have:=o3.len;rwa[zaa] at this
   have EQ:=Hz (zlf (c:=c3) (e:=c) o3.reads ((HR.out.below b03).more b03.size) (by simp) H8.out);have dq:decide ([]=b)=true:=decide_eq_true HEND.out.symm;rw[dq] at EQ;clear EB EN b1 b3 o3 dq;go_wp2_with fail
   refine EQ.out.mono ?_;rintro e w4 ⟨rfl,rfl⟩;go_wp2
   go_ret2
   exact⟨some [],HY.out,none,0,0,rfl,Own.nil_,b03⟩
  ·have hE:zp2 (some b)=false:=by unfold zp2;rw[decide_eq_false_iff_not];intro e;injection e with e;exact hend e
   rw[hE] at EB;have HY:=Hz (zpe HI.out (fun q=>by have:=q.1;injection this with this;exact hend this));clear hend hE;go_wp2_with fail
   refine EB.out.mono ?_;rintro e w2 ⟨rfl,rfl⟩;go_wp2
   go_ret2
   exact⟨none,HY.out,rfl,b1⟩
 ·have hp:=HP.out (by omega)
  rw[hp] at HI HIN HLE;have i3:(0:Int)<(n:Int):=by omega
  have i4:0<n:=by omega
  have i5:n<=65536:=by omega
  clear HZ HP hp h0;have RN:=Hz (fun(W:World) (g:Nat) (s:CurS W g (some b))=>zpd s i4 i5);generalize zp3 n (some b)=p at*;obtain⟨P,S⟩:=p;dsimp only at*;go_enter Tryz.func215,Tryz.ntmps215
  go_wp2_with fail
  refine OV.out.mono ?_;rintro e w1 ⟨g,rfl,hg,hcur,b1⟩;have s1:=CurS.of hcur;have RN1:=Hz (RN.out _ _ s1);clear hcur OV s1 RN;go_wp2_with fail
  refine RN1.out.mono ?_;rintro e w2 ⟨A2,n2,c2,rfl,rfl,o2,s2,g2⟩;have b2:New w w2:=Far.below b1 g2 hg (Nat.le_refl _);have EB:=Hz (zgi s2);have hz1:=b1.size;have o2:=o2.base_le (b':=w.heap.size) hz1;clear RN1 b1 g2;by_cases hend:S=some []
  ·have hE:zp2 S=true:=by rw[hend];rfl
   rw[hE] at EB;have EN:=Hz (zfb (c:=c2) o2.reads HIN.out (by omega));have HEL:=Hz (fun d (e:zjz P=some d)=>And.intro (zti e) (zhp HIN.out e));have HY:=Hz (fun d (e:zjz P=some d) (q:d=b)=>zvv HI.out hend e q);have HNo:=Hz (fun(q:zjz P≠some b)=>zpe HI.out (fun z=>q z.2));clear hend hE HI HIN;generalize zjz P=E at*;go_wp2_with fail
   refine EB.out.mono ?_;rintro e w3 ⟨rfl,rfl⟩;go_wp2_with fail
   refine EN.out.mono ?_;intro e w3 h3;cases E with
   |none=>
    obtain⟨rfl,b3⟩:=h3;have HN:=Hz (HNo.out (by simp));clear EB EN;go_wp2
    go_ret2
    exact⟨none,HN.out,rfl,New.trans b2 b3⟩
   |some d=>
    obtain⟨A3,n3,c3,rfl,o3,b3⟩:=h3;have b03:=New.trans b2 b3;obtain rfl:n3=d.length:=by have:=o3.len;rwa[zaa] at this
    have EQ:=Hz (zlf (c:=c3) (e:=c) o3.reads ((HR.out.below b03).more b03.size) (HEL.out d rfl).1 H8.out);have o4:=o2.later b3;clear EB EN b2 b3 o3 o2;by_cases hdb:d=b
    ·have dq:decide (d=b)=true:=decide_eq_true hdb
     rw[dq] at EQ;have HY2:=Hz (HY.out d rfl hdb);clear hdb dq;go_wp2_with fail
     refine EQ.out.mono ?_;rintro e w4 ⟨rfl,rfl⟩;go_wp2
     go_ret2
     exact⟨some P,HY2.out,_,_,_,rfl,o4,b03⟩
    ·have dq:decide (d=b)=false:=decide_eq_false hdb
     rw[dq] at EQ;have HN:=Hz (HNo.out (by intro e;injection e with e;exact hdb e));clear hdb dq;go_wp2_with fail
     refine EQ.out.mono ?_;rintro e w4 ⟨rfl,rfl⟩;go_wp2
     go_ret2
     exact⟨none,HN.out,rfl,b03⟩
  ·have hE:zp2 S=false:=by unfold zp2;rw[decide_eq_false_iff_not];exact hend
   rw[hE] at EB;have HY:=Hz (zpe HI.out (fun q=>hend q.1));clear hend hE;go_wp2_with fail
   refine EB.out.mono ?_;rintro e w3 ⟨rfl,rfl⟩;go_wp2
   go_ret2
   exact⟨none,HY.out,rfl,b2⟩
end Go.Proofs.Y
