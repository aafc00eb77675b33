/- Texts merged and made short: Lin, FilZ, FilWf. -/
import Derived.Test.YtmgfkpnghlmheaaGreatBun1
import Derived.Test.YtmgfkpnghlmheaaGreatBun35
import Derived.Test.YtmgfkpnghlmheaaGreatBun36
import Derived.Test.YtmgfkpnghlmheaaGreatBun47
set_option maxHeartbeats 200000
namespace Go.Proofs.YtmgfkpnghlmheaaGreat
open Go.RowKit Go.Hm
theorem qdf{p:List Nat}(hw:∀x∈p,x≤18446744073709551615)(hl:p.length≤65536):(encP p).length≤22+8*p.length:=by
 have a:=zjg p hw;have e1:=zaj (n:=2*p.length) (by omega);have e2:=zaj (n:=2*p.length+1) (by omega)
 have e3:(vp (p.getD 0 0)).length≤10:=by
  refine zaj ?_;rw[List.getD_eq_getElem?_getD]
  cases h:p[0]? with
  |none=>simp
  |some x=>
   have:=hw x (List.mem_of_getElem? h);simp;omega
 have m:=Nat.mul_le_mul_right p.length a;unfold encP;split
 ·rw[List.length_append];omega
 ·rw[List.length_append,List.length_cons,zbh];omega
theorem zh7:∀ps:List (List Nat),(∀p∈ps,0<p.length∧(encP p).length≤22+8*p.length)→(ps.flatMap encP).length≤30*ps.flatten.length
 | [],_=>by simp
 |p::ps,h=>by
  have:=zh7 ps fun q hq=>h q (by simp[hq])
  have:=h p (by simp);rw[List.flatMap_cons,List.flatten_cons,List.length_append,List.length_append];omega
theorem z0w{l:List Nat}(hw:∀x∈l,x≤18446744073709551615)(hl:l.length≤65536):(encL l).length≤30*l.length:=by
 have:=zh7 (pcs l) fun p hp=>⟨(z47 l p hp).1,qdf (zlf hw hp).1 (Nat.le_trans (zlf hw hp).2 hl)⟩
 rwa[zkk] at this
theorem ztm{l:List Int}{b:List Nat}(hl:∀x∈l,zex x)(h:zji l=some b):b.length≤10+268*l.length:=by
 have h0:=zf7 h;unfold zji at h;rw[if_neg (by omega)] at h;split at h
 ·injection h with h
  subst h;simp
 ·injection h with h
  subst h;have h1:=zaj (zjh (hl _ (zgy (show 0<l.length by omega))));have h2:=zf6 (zgw l) (nblk (l.length-1)) (by rw[zeb];exact Nat.le_refl _)
  have h3:nblk (l.length-1)≤l.length:=by unfold nblk;omega
  rw[List.length_append];omega
theorem z84{t:Int}{l:List zab}(h:∀c∈l,zac c t false=true):(plB t l).length≤21*l.length+fsum (zbb l):=by
 unfold plB;split
 ·rw[zbh];omega
 ·have key:∀l:List zab,(∀c∈l,zac c t false=true)→(l.flatMap (plE t)).length≤21*l.length+fsum (zbb l):=by
   intro l
   induction l with
   |nil=>intro _;simp
   |cons c l ih=>
    intro h
    have a:=ih fun d hd=>h d (by simp[hd])
    have b:=zr5 (h c (by simp))
    have e:fsum (zbb (c::l))=c.2.2.1.length+fsum (zbb l):=by unfold zbb;rw[List.map_cons,zft]
    rw[List.flatMap_cons,List.length_append,List.length_cons,e];omega
  exact key l h
theorem z85:∀l:List zab,∀k,k≤l.length→fsum (zbb (ze8 (l.take k)).1)≤fsum (zbb (l.take k))
 |l,0,_=>by simp[ze8]
 |l,k+1,hk=>by
  have ih:=z85 l k (by omega);rw[zad l k zfo (by omega),zfq]
  have e:fsum (zbb (l.take k++[l.getD k zfo]))=fsum (zbb (l.take k))+(l.getD k zfo).2.2.1.length:=by
   unfold zbb;rw[List.map_append,zes];simp[fsum]
  rw[e];unfold zfp;split
  ·dsimp only;omega
  ·have e2:fsum (zbb ((ze8 (l.take k)).1++[l.getD k zfo]))=fsum (zbb (ze8 (l.take k)).1)+(l.getD k zfo).2.2.1.length:=by
    unfold zbb;rw[List.map_append,zes];simp[fsum]
   dsimp only;rw[e2];omega
theorem z86{t:Int}{l:List zab}{b:List Nat}(h:zhu t l=some b):b.length≤20+51*l.length+fsum (zbb l):=by
 unfold zhu at h;split at h
 ·cases h
 ·rename_i V hV
  split at h
  ·rename_i hl
   injection h with h;have p1:=(zjt l).len;have e1:=zif l;have hs:=z85 l l.length (Nat.le_refl _);rw[List.take_length] at hs
   have v1:V.length≤21*(ze8 l).1.length+fsum (zbb (ze8 l).1):=by rw[←(plO_iff.1 hV).2];exact z84 (plOk_iff.1 (plO_iff.1 hV).1).2
   have v2:V.length≤4300000000:=by rw[←(plO_iff.1 hV).2];exact zse (plO_iff.1 hV).1
   have el:=z0w (zih hl) (by omega);have a:=zaj (n:=(ze8 l).1.length) (by omega);have b:=zaj (n:=V.length) (by omega);rw[←h];simp only[List.length_append];omega
  ·cases h
theorem qdg{t e:Int}{l:List zab}{b:List Nat}(hd:∀c∈l,zai c)(h:zdl t e l=some b):b.length≤30+536*l.length+fsum (zbb l):=by
 have hok:=zln h;have hl:=(plOk_iff.1 hok).1.2.2;unfold zdl at h;split at h
 ·have:=z84 (plOk_iff.1 hok).2
  rw[←(plO_iff.1 h).2];omega
 ·split at h
  ·have:=z86 h
   omega
  ·try rw[if_pos hok] at h
   split at h
   ·injection h with h
    have:=z0w (zim hd) (by unfold zeg;rw[List.length_map];exact hl);rw[show(zeg l).length=l.length by unfold zeg;rw[List.length_map]] at this;rw[←h];omega
   ·split at h
    ·split at h
     ·rename_i ht
      obtain⟨d1,d2⟩:=ztb hok ht;unfold encPts at h;split at h
      ·rename_i x y hx hy
       have a1:=ztm d1 hx;have a2:=ztm d2 hy;have a4:=zf8 d1 hx;rw[zgi] at a1 a2
       have x1:(xsV l).length=l.length:=by unfold xsV;rw[List.length_map]
       have y1:(ysV l).length=l.length:=by unfold ysV;rw[List.length_map]
       have a3:=zaj (n:=x.length) (by omega);injection h with h;rw[←h,List.length_append,List.length_append];omega
      ·cases h
     ·have:=ztm (zz8 hd) h
      rw[show(ze5 l).length=l.length by unfold ze5;rw[List.length_map]] at this;omega
    ·unfold zuh at h
     split at h
     ·rename_i hf
      obtain⟨f1,f2,f3⟩:=(zel _).1 hf;have:=zsg [] (zbb l) f2;rw[show(zbb l).length=l.length by unfold zbb;rw[List.length_map]] at this;injection h with h;rw[←h];omega
     ·cases h
theorem qdh{t e:Int}{l:List zab}(hok:zhs t l=true)(hs:fsum (zbb l)≤16777216):∃b,zdl t e l=some b:=by
 obtain⟨⟨h0,h1,h2⟩,h3⟩:=plOk_iff.1 hok;have hP:∃b,plO t l=some b:=⟨_,plO_iff.2 ⟨hok,rfl⟩⟩;unfold zdl;split
 ·exact hP
 ·split
  ·have hE:zhs t (ze8 l).1=true:=plOk_iff.2 ⟨⟨h0,h1,Nat.le_trans (zif l) h2⟩,fun c hc=>h3 c ((zhr l c).1 hc)⟩
   unfold zhu;rw[plO_iff.2 ⟨hE,rfl⟩];dsimp only;rw[if_pos h2];exact⟨_,rfl⟩
  ·try rw[if_pos hok]
   split
   ·exact⟨_,rfl⟩
   ·split
    ·split
     ·obtain⟨a,ha⟩:=zky (l:=zjd 0 (xsV l)) (by rw[zgi];unfold xsV;rw[List.length_map];exact h2)
      obtain⟨b,hb⟩:=zky (l:=zjd 0 (ysV l)) (by rw[zgi];unfold ysV;rw[List.length_map];exact h2);unfold encPts;rw[ha,hb];exact⟨_,rfl⟩
     ·exact zky (by unfold ze5;rw[List.length_map];exact h2)
    ·unfold zuh
     rw[if_pos ((zel _).2 ⟨by unfold zbb;rw[List.length_map];exact h2,fun s hs=>by obtain⟨c,hc,rfl⟩:=List.mem_map.1 hs;exact zfi (h3 c hc),hs⟩)];exact⟨_,rfl⟩
theorem qdi(l:List zab):fsum (zbb (zb1 l))≤fsum (zbb l):=by
 unfold zb1
 induction l with
 |nil=>simp[zbb,fsum]
 |cons c l ih=>
  have e:fsum (zbb (c::l))=c.2.2.1.length+fsum (zbb l):=by unfold zbb;rw[List.map_cons,zft]
  rw[List.filter_cons];split
  ·have e2:fsum (zbb (c::l.filter fun c=> !c.1))=c.2.2.1.length+fsum (zbb (l.filter fun c=> !c.1)):=by unfold zbb;rw[List.map_cons,zft]
   rw[e,e2];omega
  ·rw[e]
   omega
theorem qgk{t:Int}{nu:Bool}{e:Int}{l:List zab}(ht:0≤t∧t≤3)(he:zoi t e)(hl:l.length≤65536)(hr:∀c∈l,zac c t nu=true)(hd:∀c∈l,zai c)(hs:fsum (zbb l)≤16777216):
 (pgE t nu e l).1=0∧(pgE t nu e l).2.length≤60+538*l.length+fsum (zbb l):=by
 have hok:=zxe ht hl hr;have hvl:=znc l;have hvs:=qdi l
 have hv:∃b,zdl t (encOf t e l) (zb1 l)=some b:=by
  unfold encOf;split
  ·exact(zok hok).2
  ·rename_i hne
   rcases he with h|h
   ·exact absurd h hne
   ·exact qdh hok (by omega)
 obtain⟨d,hv⟩:=hv;have hdl:=qdg (zio hd) hv
 have hsp:(zb3 l).length≤l.length+1:=by unfold zb3;rw[zbh,zem];omega
 have hvp:=zaj (n:=l.length) (by omega);unfold pgE
 rw[if_neg (by
  rintro(h|⟨h1,h2⟩)
  ·exact h ht
  ·rcases he with h|h
   ·exact h1 h
   ·rw[h] at h2;cases h2),if_neg (by omega),if_pos (List.all_eq_true.2 hr),hv]
 refine⟨rfl,?_⟩;simp only[List.length_cons,List.length_append];split
 ·omega
 ·simp only[List.length_nil]
  omega
open Go.RowKit Go.Hm
def Wt(l:List zab):Nat:=598*l.length+fsum (zbb l)
theorem qec(a b:List zab):Wt (a++b)=Wt a+Wt b:=by
 unfold Wt zbb;rw[List.map_append,zes,List.length_append];omega
theorem z87:∀L:List (List zab),Wt L.flatten=(L.map Wt).sum
 | []=>by simp[Wt,zbb,fsum]
 |l::L=>by rw[List.flatten_cons,qec,z87 L,List.map_cons,List.sum_cons]
theorem zh2{α β:Type}(f:α→β→Nat)(cs:List β):∀l:List α,(l.map fun s=>(cs.map fun c=>f s c).sum).sum=(cs.map fun c=>(l.map fun s=>f s c).sum).sum
 | []=>by
   have:∀cs:List β,(cs.map fun _=>(0:Nat)).sum=0:=by
    intro cs
    induction cs with
    |nil=>rfl
    |cons c cs ih=>simpa using ih
   simpa using(this cs).symm
 |s::l=>by
  have key:∀cs:List β,(cs.map fun c=>f s c).sum+(cs.map fun c=>(l.map fun s=>f s c).sum).sum=(cs.map fun c=>((s::l).map fun s=>f s c).sum).sum:=by
   intro cs
   induction cs with
   |nil=>rfl
   |cons c cs ih=>
    simp only[List.map_cons,List.sum_cons] at ih⊢;omega
  rw[List.map_cons,List.sum_cons,zh2 f cs l,key cs]
section
variable{L:List za0}{E:List Int}{D:List (List zab)}{pr:Int}
theorem z88{c:Nat}:∀(l:List (Int × Int)),(∀q∈l,(pgF L E D c q).length≤Wt (zao D c q))→(l.map (pgF L E D c)).flatten.length≤Wt (l.map (zao D c)).flatten
 | [],_=>by simp
 |q::l,h=>by
  have h1:=h q (by simp)
  have h2:=z88 l fun q' hq'=>h q' (by simp[hq'])
  rw[List.map_cons,List.map_cons,List.flatten_cons,List.flatten_cons,List.length_append,qec];omega
theorem qh8{l:List (Int × Int)}:∀(cs:List Nat),(∀c∈cs,∀q∈l,(pgF L E D c q).length≤Wt (zao D c q))→(zk8 L E D l cs).flatten.flatten.length≤(cs.map fun c=>Wt (l.map (zao D c)).flatten).sum
 | [],_=>by simp[zk8]
 |c::cs,h=>by
  have h1:=z88 l (h c (by simp))
  have h2:=qh8 cs fun c' hc'=>h c' (by simp[hc'])
  have e:zk8 L E D l (c::cs)=l.map (pgF L E D c)::zk8 L E D l cs:=rfl;rw[e,List.flatten_cons,List.flatten_append,List.length_append,List.map_cons,List.sum_cons];omega
theorem qh9:∀(S:List (Int × Int)),(∀s∈S,∀c,c<L.length→∀q∈zbq s.1 s.2 pr,(pgF L E D c q).length≤Wt (zao D c q))→
 (zh9 L E D pr S).flatten.flatten.flatten.length≤(S.map fun s=>((List.range L.length).map fun c=>Wt ((zbq s.1 s.2 pr).map (zao D c)).flatten).sum).sum
 | [],_=>by simp[zh9]
 |s::S,h=>by
  have h1:=qh8 (L:=L) (E:=E) (D:=D) (l:=zbq s.1 s.2 pr) (List.range L.length) fun c hc=>h s (by simp) c (List.mem_range.1 hc)
  have h2:=qh9 S fun s' hs'=>h s' (by simp[hs'])
  have e:zh9 L E D pr (s::S)=zk8 L E D (zbq s.1 s.2 pr) (List.range L.length)::zh9 L E D pr S:=rfl;rw[e,List.flatten_cons,List.flatten_append,List.flatten_append,List.length_append,List.map_cons,List.sum_cons];omega
end
theorem zwc(f:List zab→Nat)(D:List (List zab)):((List.range D.length).map fun c=>f (D.getD c [])).sum=(D.map f).sum:=by
 have e:(List.range D.length).map (fun c=>f (D.getD c []))=D.map f:=by
  apply List.ext_getElem (by simp);intro i h1 h2
  have hi:i<D.length:=by simpa using h1
  simp[List.getD_eq_getElem?_getD,hi]
 rw[e]
theorem qgl{L:List za0}{r:Int}{E:List Int}{D:List (List zab)}{gr pr:Int}(h:WrOk L r D gr pr)(hp:∀s∈zbq 0 r gr,∀c,c<L.length→∀q∈zbq s.1 s.2 pr,(pgF L E D c q).length≤Wt (zao D c q)):
 (zh9 L E D pr (zbq 0 r gr)).flatten.flatten.flatten.length≤(D.map Wt).sum:=by
 have h1:=qh9 (L:=L) (E:=E) (D:=D) (pr:=pr) (zbq 0 r gr) hp;have h2:=zh2 (fun(s:Int × Int) (c:Nat)=>Wt ((zbq s.1 s.2 pr).map (zao D c)).flatten) (List.range L.length) (zbq 0 r gr)
 have h3:((List.range L.length).map fun c=>((zbq 0 r gr).map fun s=>Wt ((zbq s.1 s.2 pr).map (zao D c)).flatten).sum)=(List.range L.length).map fun c=>Wt (D.getD c []):=by
  apply List.map_congr_left;intro c hc;have hb:=zl2 h (List.mem_range.1 hc);have e:=z87 ((zbq 0 r gr).map fun s=>((zbq s.1 s.2 pr).map (zao D c)).flatten);rw[hb,List.map_map] at e;exact e.symm
 have h4:=zwc Wt D;rw[h.len] at h4;rw[h2,h3,h4] at h1;exact h1
theorem qed(D:List (List zab))(c:Nat)(q:Int × Int):fsum (zbb (zao D c q))≤fsum (zbb (D.getD c [])):=by
 have key:∀(l:List zab) (a b:Nat),fsum (zbb ((l.drop a).take b))≤fsum (zbb l):=by
  intro l a b
  have e1:l=l.take a++((l.drop a).take b++(l.drop a).drop b):=by rw[List.take_append_drop,List.take_append_drop]
  have e2:fsum (zbb l)=fsum (zbb (l.take a))+(fsum (zbb ((l.drop a).take b))+fsum (zbb ((l.drop a).drop b))):=by
   conv=>lhs;rw[e1]
   unfold zbb;rw[List.map_append,List.map_append,zes,zes]
  omega
 exact key _ _ _
theorem qia{L:List za0}{r:Int}{E:List Int}{D:List (List zab)}{gr pr:Int}(h:WrOk L r D gr pr)(hE:∀c,c<L.length→zoi (L.getD c zdj).2.1 (E.getD c 0))(hr:∀c,c<L.length→∀y∈D.getD c [],zac y (L.getD c zdj).2.1 (L.getD c zdj).2.2=true)
 (hs:∀c,c<L.length→fsum (zbb (D.getD c []))≤16777216){s q:Int × Int}{c:Nat}(h1:s∈zbq 0 r gr)(h2:c<L.length)(h3:q∈zbq s.1 s.2 pr):
 (zf0 L E D c q).1=0∧(pgF L E D c q).length≤Wt (zao D c q):=by
 obtain⟨n,rfl⟩:=Int.eq_ofNat_of_zero_le h.rows.1;have hn:=h.rows.2
 have hlc:(D.getD c []).length=n:=by
  have:=h.all _ (zan [] (show c<D.length by rw[h.len];exact h2));omega
 obtain⟨a,b,rfl,k1,k2,k3⟩:=zf2 (f:=0) h1;obtain⟨x,y,rfl,k4,k5,k6⟩:=zf2 h3;have hcl:=zk9 (D:=D) (c:=c) (show x≤y by omega) (by rw[hlc];omega);have htc:=h.cols.2.1 _ (zan zdj h2)
 have hri:∀z∈zao D c ((x:Int),(y:Int)),zac z (L.getD c zdj).2.1 (L.getD c zdj).2.2=true:=fun z hz=>hr c h2 z (by
  unfold zao at hz
  exact List.mem_of_mem_drop (List.mem_of_mem_take hz))
 obtain⟨p1,p2⟩:=qgk (nu:=(L.getD c zdj).2.2) ⟨htc.2.2.1,htc.2.2.2⟩ (hE c h2) (by omega) hri (ztj h.data c ((x:Int),(y:Int))) (Nat.le_trans (qed D c ((x:Int),(y:Int))) (hs c h2));refine⟨p1,?_⟩;unfold Wt;unfold pgF zf0;omega
open Go.RowKit Go.Hm
theorem zpt{K:Nat}:∀(cs:List za0) (C:List (List zax)),(∀t,∀l∈C,∀p∈l,(zeu t p).length≤K)→(∀l∈C,l.length≤65536)→(zbr cs C).length≤(C.map fun l=>10+l.length*K).sum
 | [],C,_,_=>by simp[zbr]
 |c::cs,[],_,_=>by simp[zbr]
 |c::cs,l::C,h,hm=>by
  have h1:=zrs (t:=c.2.1) (K:=K) (m:=l.length) (fun p hp=>h _ l (by simp) p hp) (Nat.le_refl _) (hm l (by simp));have h2:=zpt cs C (fun t l' hl'=>h t l' (by simp[hl'])) (fun l' hl'=>hm l' (by simp[hl']));rw[zbr,List.length_append,List.map_cons,List.sum_cons];omega
theorem zrt{cols:List za0}{K:Nat}:∀G:List za4,(∀t,∀g∈G,∀l∈g.2,∀p∈l,(zeu t p).length≤K)→(∀g∈G,∀l∈g.2,l.length≤65536)→(∀g∈G,g.1.toNat<18446744073709551616)→
 (G.flatMap (zco cols)).length≤(G.map fun g=>10+(g.2.map fun l=>10+l.length*K).sum).sum
 | [],_,_,_=>by simp
 |g::G,h,hm,hg=>by
  have h1:=zpt cols g.2 (fun t l hl=>h t g (by simp) l hl) (hm g (by simp));have h2:=zrt (cols:=cols) G (fun t q hq=>h t q (by simp[hq])) (fun q hq=>hm q (by simp[hq])) (fun q hq=>hg q (by simp[hq]));have h4:=zaj (n:=g.1.toNat) (hg g (by simp))
  have h5:(zco cols g).length=(vp g.1.toNat).length+(zbr cols g.2).length:=by unfold zco;rw[List.length_append]
  rw[List.flatMap_cons,List.length_append,List.map_cons,List.sum_cons];omega
theorem map_le_sum{α:Type}{f g:α→Nat}:∀(l:List α),(∀x∈l,f x≤g x)→(l.map f).sum≤(l.map g).sum
 | [],_=>by simp
 |x::l,h=>by
  have h1:=h x (by simp)
  have h2:=map_le_sum (f:=f) (g:=g) l fun y hy=>h y (by simp[hy])
  simp only[List.map_cons,List.sum_cons];omega
theorem z0x:∀(l:List (List zab)),(∀x∈l,1≤x.length)→l.length≤l.flatten.length
 | [],_=>by simp
 |x::l,h=>by
  have h1:=h x (by simp)
  have h2:=z0x l fun y hy=>h y (by simp[hy])
  rw[List.flatten_cons,List.length_append,List.length_cons];omega
theorem zeo{α:Type}(f g:α→Nat):∀l:List α,(l.map fun x=>f x+g x).sum=(l.map f).sum+(l.map g).sum
 | []=>rfl
 |x::l=>by
  have:=zeo f g l;simp only[List.map_cons,List.sum_cons];omega
theorem ztn{α:Type}(f:α→Nat)(K:Nat):∀l:List α,(l.map fun x=>f x*K).sum=(l.map f).sum*K
 | []=>by simp
 |x::l=>by
  have:=ztn f K l;simp only[List.map_cons,List.sum_cons,Nat.add_mul];omega
theorem zla{α:Type}(k:Nat):∀l:List α,(l.map fun _=>k).sum=l.length*k
 | []=>by simp
 |x::l=>by
  have:=zla k l;simp only[List.map_cons,List.sum_cons,List.length_cons,Nat.succ_mul];omega
theorem z89{L:List za0}{r:Int}{E:List Int}{D:List (List zab)}{gr pr:Int}{K:Nat}(h:WrOk L r D gr pr)(hK:∀t,∀g∈(zbu L r E D gr pr).groups,∀l∈g.2,∀p∈l,(zeu t p).length≤K):
 (zd9 (zbu L r E D gr pr)).length≤50000000+(D.map List.length).sum*K:=by
 obtain⟨n,rfl⟩:=Int.eq_ofNat_of_zero_le h.rows.1;have hn:=h.rows.2;have hL:=h.cols.1
 have hlc:∀c,c<L.length→(D.getD c []).length=n:=fun c hc=>by
  have:=h.all _ (zan [] (show c<D.length by rw[h.len];exact hc));omega
 have hG:=zrt (cols:=L) (K:=K) (zbu L n E D gr pr).groups hK (fun g hg l hl=>by
  obtain⟨s,hs,rfl⟩:=List.mem_map.1 hg;obtain⟨c,hc,rfl⟩:=List.mem_map.1 hl;rw[List.length_map]
  exact zkq _ _ _) (fun g hg=>by
  obtain⟨s,hs,rfl⟩:=List.mem_map.1 hg;obtain⟨a,b,rfl,k1,k2,k3⟩:=zf2 (f:=0) hs;unfold zbz;dsimp only
  omega)
 have hS:=zkq 0 (n:Int) gr
 have e1:((zbu L n E D gr pr).groups.map fun g=>10+(g.2.map fun l=>10+l.length*K).sum).sum≤((zbq 0 (n:Int) gr).map fun s=>10+((List.range L.length).map fun c=>10+((zbq s.1 s.2 pr).map (zao D c)).flatten.length*K).sum).sum:=by
  show(((zbq 0 (n:Int) gr).map (zbz L E D pr)).map _).sum≤_;rw[List.map_map]
  refine map_le_sum _ fun s hs=>?_
  show 10+(((List.range L.length).map fun c=>(zbq s.1 s.2 pr).map (zbt L E D c)).map fun l=>10+l.length*K).sum≤_;rw[List.map_map];refine Nat.add_le_add_left (map_le_sum _ fun c hc=>?_) _;show 10+((zbq s.1 s.2 pr).map (zbt L E D c)).length*K≤_;refine Nat.add_le_add_left (Nat.mul_le_mul_right _ ?_) _;rw[List.length_map]
  have:=z0x ((zbq s.1 s.2 pr).map (zao D c)) (fun x hx=>by
   obtain⟨q,hq,rfl⟩:=List.mem_map.1 hx;obtain⟨a,b,rfl,k1,k2,k3⟩:=zf2 (f:=0) hs;obtain⟨x,y,rfl,k4,k5,k6⟩:=zf2 hq;have hcl:=zk9 (D:=D) (c:=c) (show x≤y by omega) (by rw[hlc c (List.mem_range.1 hc)];omega)
   omega)
  rwa[List.length_map] at this
 have e2:((zbq 0 (n:Int) gr).map fun s=>10+((List.range L.length).map fun c=>10+((zbq s.1 s.2 pr).map (zao D c)).flatten.length*K).sum).sum=(zbq 0 (n:Int) gr).length*10+((zbq 0 (n:Int) gr).length*(L.length*10)+(D.map List.length).sum*K):=by
  rw[zeo (fun _=>10),zla]
  congr 1
  have e3:((zbq 0 (n:Int) gr).map fun s=>((List.range L.length).map fun c=>10+((zbq s.1 s.2 pr).map (zao D c)).flatten.length*K).sum)=(zbq 0 (n:Int) gr).map fun s=>L.length*10+((List.range L.length).map fun c=>((zbq s.1 s.2 pr).map (zao D c)).flatten.length).sum*K:=by
   apply List.map_congr_left;intro s _;rw[zeo (fun _=>10),zla,List.length_range,ztn]
  rw[e3,zeo (fun _=>L.length*10),zla,ztn]
  congr 2
  rw[zh2 (fun(s:Int × Int) (c:Nat)=>((zbq s.1 s.2 pr).map (zao D c)).flatten.length) (List.range L.length) (zbq 0 (n:Int) gr)]
  have h3:((List.range L.length).map fun c=>((zbq 0 (n:Int) gr).map fun s=>((zbq s.1 s.2 pr).map (zao D c)).flatten.length).sum)=(List.range L.length).map fun c=>(D.getD c []).length:=by
   apply List.map_congr_left;intro c hc;have hb:=zl2 h (List.mem_range.1 hc)
   conv=>rhs;rw[←hb,List.length_flatten,List.map_map]
   rfl
  rw[h3];have h4:=zwc List.length D;rw[h.len] at h4;exact h4
 have hpc:=zz1 h.cols;have h2:=zaj (n:=(n:Int).toNat) (by omega);have h3:=zaj (n:=((zbq 0 (n:Int) gr).map (zbz L E D pr)).length) (by rw[List.length_map];omega);have h5:(zbq 0 (n:Int) gr).length*(L.length*10)≤65536*(64*10):=Nat.mul_le_mul hS (by omega);unfold zd9;simp only[List.length_append];have e6:(putC [] (zbu L (n:Int) E D gr pr).cols).length≤8000:=hpc;have e7:(vp (zbu L (n:Int) E D gr pr).rows.toNat).length≤10:=h2;have e8:(vp (zbu L (n:Int) E D gr pr).groups.length).length≤10:=h3;have e9:(zbu L (n:Int) E D gr pr).cols=L:=rfl;rw[e9] at*;omega
theorem zru{α:Type}{f:α→Nat}:∀{l:List α} {x:α},x∈l→f x≤(l.map f).sum
 | [],_,h=>by cases h
 |y::l,x,h=>by
  rw[List.map_cons,List.sum_cons];rcases List.mem_cons.1 h with rfl|h
  ·omega
  ·have:=zru (f:=f) h
   omega
theorem z9a{g p:Int}{E:List Int}{L:List za0}(h:zcn g p E L=0):E.length=L.length∧∀c,c<L.length→zoi (L.getD c zdj).2.1 (E.getD c 0):=by
 unfold zcn at h;split at h
 ·omega
 ·rename_i h1
  split at h
  ·rename_i h2
   have h1:=Decidable.not_not.1 h1;exact⟨h1.2.2.2.2,fun c hc=>h2 c (by omega)⟩
  ·omega
theorem zwd{L:List za0}{r:Int}{DD:List zdo}(h:zdz L r DD=0):∀c,c<L.length→∀y∈(DD.map (·.2.2)).getD c [],zac y (L.getD c zdj).2.1 (L.getD c zdj).2.2=true:=by
 intro c hc y hy;have hl:=(zhf h).1
 have hr:zh1 DD L=true:=by
  unfold zdz at h;split at h
  ·rename_i q;exact absurd h q
  ·split at h
   ·rename_i q;exact absurd h q
   ·split at h
    ·assumption
    ·omega
 rw[zbj (fun d:zdo=>d.2.2) DD dZ [] (by omega)] at hy;have:=zj3 hl hr (k:=c) (by omega);exact List.all_eq_true.1 this y hy
theorem z9b{L:List za0}{r:Int}{DD:List zdo}{gr pr:Int}{E:List Int}(h:WrOk L r (DD.map (·.2.2)) gr pr)(h0:zdz L r DD=0)(h1:zcn gr pr E L=0)(hw:((DD.map (·.2.2)).map Wt).sum≤16777216)(hc:((DD.map (·.2.2)).map List.length).sum≤7000):
 ∃b,writeO L r DD gr pr E=(0,b):=by
 have hr:=zwd h0;have hE:=(z9a h1).2;have hlen:=h.len
 have hcol:∀c,c<L.length→Wt ((DD.map (·.2.2)).getD c [])≤16777216:=fun c hc=>Nat.le_trans (zru (f:=Wt) (zan [] (show c<(DD.map (·.2.2)).length by omega))) hw
 have hs:∀c,c<L.length→fsum (zbb ((DD.map (·.2.2)).getD c []))≤16777216:=fun c hc=>by
  have:=hcol c hc;unfold Wt at this;omega
 have hp:=fun s q c h1 h2 h3=> @qia L r E (DD.map (·.2.2)) gr pr h hE hr hs s q c h1 h2 h3
 have hpl:∀s∈zbq 0 r gr,∀c,c<L.length→∀q∈zbq s.1 s.2 pr,(zf0 L E (DD.map (·.2.2)) c q).2.length≤16777216:=fun s hs2 c hc2 q hq=>by
  have h2:=(hp s q c hs2 hc2 hq).2;have h3:=hcol c hc2;have h4:=qed (DD.map (·.2.2)) c q
  have h5:(zao (DD.map (·.2.2)) c q).length≤((DD.map (·.2.2)).getD c []).length:=by
   unfold zao;rw[List.length_take,List.length_drop];omega
  unfold Wt at h2 h3;unfold pgF at h2;omega
 refine z0v h h0 h1 hr (fun s hs2 c hc2 q hq=>⟨(hp s q c hs2 hc2 hq).1,by have:=hpl s hs2 c hc2 q hq;omega⟩) ?_ ?_
 ·have:=qgl (E:=E) h (fun s hs2 c hc2 q hq=>(hp s q c hs2 hc2 hq).2)
  omega
 ·have:=z89 (E:=E) (K:=140020) h (fun t g hg l hl p hpp=>by
   obtain⟨s,hs2,rfl⟩:=List.mem_map.1 hg;obtain⟨c,hc2,rfl⟩:=List.mem_map.1 hl;obtain⟨q,hq,rfl⟩:=List.mem_map.1 hpp;have h6:=hpl s hs2 c (List.mem_range.1 hc2) q hq
   have h7:(zao (DD.map (·.2.2)) c q).length≤65536:=by
    have h8:=h.all _ (zan [] (show c<(DD.map (·.2.2)).length by have:=List.mem_range.1 hc2;omega));have h9:=h.rows;unfold zao;rw[List.length_take,List.length_drop];omega
   refine zo0 ?_ ?_
   ·unfold zbt
    dsimp only;omega
   ·unfold zbt
    dsimp only
    omega)
  have h10:((DD.map (·.2.2)).map List.length).sum*140020≤7000*140020:=Nat.mul_le_mul_right _ hc;omega
end Go.Proofs.YtmgfkpnghlmheaaGreat
