/- Merged. -/
import Derived.Test.YtmgfkpnghlmheaaGreatBun47
set_option maxHeartbeats 200000
namespace Go.Proofs.Y
open Go Go.RowKit Go.Hm
def zr4(C:List (List (List (List Nat))))(k j q:Nat):List (List Nat):=(C.take k).flatten.flatten++(((C.getD k []).take j).flatten++((C.getD k []).getD j []).take q)
section
variable{C:List (List (List (List Nat)))}{k j q:Nat}
theorem z3l(hk:k<C.length)(hj:j<(C.getD k []).length):∃R,C.flatten.flatten=zr4 C k j q++R:=by
 have h1:C=C.take k++(C.getD k []::C.drop (k+1)):=by
  conv=>lhs;rw[<-List.take_append_drop k C]
  congr 1
  rw[List.getD_eq_getElem?_getD,List.getElem?_eq_getElem hk];exact List.drop_eq_getElem_cons hk
 have h2:C.getD k []=(C.getD k []).take j++((C.getD k []).getD j []::(C.getD k []).drop (j+1)):=by
  conv=>lhs;rw[<-List.take_append_drop j (C.getD k [])]
  congr 1
  rw[List.getD_eq_getElem?_getD (l:=C.getD k []),List.getElem?_eq_getElem hj];exact List.drop_eq_getElem_cons hj
 unfold zr4;generalize C.getD k []=X at*;generalize X.getD j []=Y at*;refine⟨Y.drop q++(X.drop (j+1)).flatten++(C.drop (k+1)).flatten.flatten,?_⟩;conv=>lhs;rw[h1,h2]
 simp only[List.flatten_append,List.flatten_cons,List.append_assoc];rw[<-List.append_assoc (Y.take q) (Y.drop q),List.take_append_drop]
theorem z3m(hk:k<C.length)(hj:j<(C.getD k []).length):(zr4 C k j q).flatten.length<=C.flatten.flatten.flatten.length:=by obtain⟨R,e⟩:=z3l (q:=q) hk hj;rw[e,List.flatten_append,List.length_append];omega
end
structure Written(L:List za2)(r:Int)(D:List (List zab))(b:List Nat)(F:FootS)(C:List (List (List (List Nat))))(own:List Nat):Prop where
 foot:zbj F
 data:zel F
 cols:F.cols=L
 rows:F.rows=r
 opened:openO b=some (F,own)
 pages:zir F.groups (b.drop 4)=C
 whole:b=zfd C.flatten.flatten.flatten own
 own_:own=zdz F
 few:own.length<=1073741824
 table:z0g F C.flatten.flatten=some D
 bytes:∀x∈b,x<256
 short:b.length<=2147483660
 size:szG F.groups+own.length+12=b.length
structure PageAt(b:List Nat)(F:FootS)(C:List (List (List (List Nat)))):Prop where
 groups:C.length=F.groups.length
 chunks:∀k,k<F.groups.length->(C.getD k []).length=F.cols.length/\(F.groups.getD k zak).2.length=F.cols.length
 pages:∀k j,k<F.groups.length->j<F.cols.length->((C.getD k []).getD j []).length=(zav F.groups k j).length
 page:∀k j q,k<F.groups.length->j<F.cols.length->q<(zav F.groups k j).length->
  zph b F (k:Int) (j:Int) (q:Int)=some (((C.getD k []).getD j []).getD q [])/\((((C.getD k []).getD j []).getD q []).length:Int)=((zav F.groups k j).getD q zbp).1
 few:C.flatten.flatten.length<=4194304
 bytes:C.flatten.flatten.flatten.length<=2147483660
theorem Written.at_{L:List za2}{r:Int}{D:List (List zab)}{b:List Nat}{F:FootS}{C:List (List (List (List Nat)))}{own:List Nat}(h:Written L r D b F C own):PageAt b F C:=by
 have hs:4+szG F.groups<=b.length:=by have:=h.size;omega
 have hp:=h.pages;refine⟨by rw[<-hp,zk4],fun k hk=>⟨?_,(zco h.foot hk).2.1⟩,fun k j hk hj=>?_,fun k j q hk hj hq=>?_,?_,?_⟩
 ·rw[<-hp,zis _ _ k hk,znp]
  exact(zco h.foot hk).2.1
 ·have hj2:j<(F.groups.getD k zak).2.length:=by rw[(zco h.foot hk).2.1];exact hj
  rw[<-hp,zis _ _ k hk,Go.Hm.cutC_at _ _ j hj2,zno];rfl
 ·have hj2:j<(F.groups.getD k zak).2.length:=by rw[(zco h.foot hk).2.1];exact hj
  rw[<-hp];refine⟨z0w h.foot (by omega) hk hj hq,?_⟩;obtain⟨a1,a2,a3⟩:=zv6 hs hk hj2 hq;have hz:=znq h.foot _ (zan zak hk) _ (zan [] hj2) _ (show(zav F.groups k j).getD q zbp∈zav F.groups k j from zan zbp hq);rw[a3,List.length_take,List.length_drop];omega
 ·have:=zr2 h.foot b
  unfold zlg at this;rwa[hp] at this
 ·have h1:=congrArg List.length h.whole
  rw[ziu] at h1;have:=h.short;omega
structure PageBy(b:List Nat)(L:List za2)(r:Int)(Gs:List GrD)(C:List (List (List (List Nat)))):Prop where
 groups:C.length=Gs.length
 chunks:∀k,k<Gs.length->(C.getD k []).length=L.length/\(Gs.getD k grZ).2.2.2.length=L.length
 pages:∀k j,k<Gs.length->j<L.length->((C.getD k []).getD j []).length=((Gs.getD k grZ).2.2.2.getD j chZ).2.2.length
 page:∀k j q,k<Gs.length->j<L.length->q<((Gs.getD k grZ).2.2.2.getD j chZ).2.2.length->
  zph b (za5 L r Gs) (k:Int) (j:Int) (q:Int)=some (((C.getD k []).getD j []).getD q [])/\((((C.getD k []).getD j []).getD q []).length:Int)=(((Gs.getD k grZ).2.2.2.getD j chZ).2.2.getD q zbp).1
 few:C.flatten.flatten.length<=4194304
 bytes:C.flatten.flatten.flatten.length<=2147483660
theorem PageAt.by_{b:List Nat}{L:List za2}{r:Int}{Gs:List GrD}{C:List (List (List (List Nat)))}(h:PageAt b (za5 L r Gs) C):PageBy b L r Gs C:=by
 obtain⟨h1,h2,h3,h4,h5,h6⟩:=h;unfold za5 at h1 h2 h3;dsimp only at h1 h2 h3;simp only[List.length_map] at h1 h2 h3;have hk2:∀k,k<Gs.length->(Gs.getD k grZ).2.2.2.length=L.length:=fun k hk=>by have:=(h2 k hk).2;rw[zba grP Gs grZ zak hk] at this;unfold grP at this;simpa using this
 have hpa:∀k j,k<Gs.length->j<L.length->zav (Gs.map grP) k j=((Gs.getD k grZ).2.2.2.getD j chZ).2.2:=fun k j hk hj=>by unfold zav;rw[zba grP Gs grZ zak hk];unfold grP;dsimp only;rw[zba (fun x:ChD=>x.2.2) _ chZ [] (by rw[hk2 k hk];exact hj)]
 refine⟨h1,fun k hk=>⟨(h2 k hk).1,hk2 k hk⟩,fun k j hk hj=>by rw[h3 k j hk hj,hpa k j hk hj],fun k j q hk hj hq=>?_,h5,h6⟩;have:=h4 k j q (by unfold za5;simpa using hk) hj (by unfold za5;dsimp only;rw[hpa k j hk hj];exact hq);have e:zav (za5 L r Gs).groups k j=((Gs.getD k grZ).2.2.2.getD j chZ).2.2:=hpa k j hk hj;rw[e] at this;exact this
structure PgSt(C:List (List (List (List Nat))))(k j q B:Nat)(S:List Nat)(A:Option Addr)(c:Nat)(X:List zjm)(w:World):Prop where
 str:S=headL_film++(zr4 C k j q).flatten
 row:Go.Hm.Own w B 31 (.slice A X.length c) (recs zjf X)
 pages:∀d∈X,TR w 5 d.1 d.2.2.length (za3 .u8 d.2.2)
 map:X.map byP=zr4 C k j q
theorem PgSt.later{C:List (List (List (List Nat)))}{k j q B:Nat}{S:List Nat}{A:Option Addr}{c:Nat}{X:List zjm}{w w':World}(h:PgSt C k j q B S A c X w)(hb:New w w'):PgSt C k j q B S A c X w':=
 ⟨h.str,h.row.later hb,fun d hd=>(h.pages d hd).below hb,h.map⟩
theorem PgSt.size{C:List (List (List (List Nat)))}{k j q B:Nat}{S:List Nat}{A:Option Addr}{c:Nat}{X:List zjm}{w:World}(h:PgSt C k j q B S A c X w)(hk:k<C.length)(hj:j<(C.getD k []).length):(zad S).size<=4+C.flatten.flatten.flatten.length:=by have h1:=z3m (q:=q) hk hj;rw[zbh,h.str,List.length_append];have:headL_film.length=4:=rfl;omega
theorem PgSt.len{C:List (List (List (List Nat)))}{k j q B:Nat}{S:List Nat}{A:Option Addr}{c:Nat}{X:List zjm}{w:World}(h:PgSt C k j q B S A c X w):X.length=(zr4 C k j q).length:=by rw[<-h.map,List.length_map]
open Go.RowKit Go.Hm
def Wt(l:List zab):Nat:=598*l.length+fsum (zbi l)
theorem qeg(a b:List zab):Wt (a++b)=Wt a+Wt b:=by unfold Wt zbi;rw[List.map_append,zer,List.length_append];omega
theorem z87:∀L:List (List zab),Wt L.flatten=(L.map Wt).sum
 | []=>by simp[Wt,zbi,fsum]
 |l::L=>by rw[List.flatten_cons,qeg,z87 L,List.map_cons,List.sum_cons]
theorem zh3{α β:Type}(f:α->β->Nat)(cs:List β):∀l:List α,(l.map fun s=>(cs.map fun c=>f s c).sum).sum=(cs.map fun c=>(l.map fun s=>f s c).sum).sum
 | []=>by
   have:∀cs:List β,(cs.map fun _=>(0:Nat)).sum=0:=by
    intro cs;induction cs with
    |nil=>rfl
    |cons c cs ih=>simpa using ih
   simpa using(this cs).symm
 |s::l=>by
  have key:∀cs:List β,(cs.map fun c=>f s c).sum+(cs.map fun c=>(l.map fun s=>f s c).sum).sum=(cs.map fun c=>((s::l).map fun s=>f s c).sum).sum:=by
   intro cs;induction cs with
   |nil=>rfl
   |cons c cs ih=>
    simp only[List.map_cons,List.sum_cons] at ih⊢;omega
  rw[List.map_cons,List.sum_cons,zh3 f cs l,key cs]
section
variable{L:List za2}{E:List Int}{D:List (List zab)}{pr:Int}
theorem z88{c:Nat}:∀(l:List (Int × Int)),(∀q∈l,(pgF L E D c q).length<=Wt (zao D c q))->(l.map (pgF L E D c)).flatten.length<=Wt (l.map (zao D c)).flatten
 | [],_=>by simp
 |q::l,h=>by
  have h1:=h q (by simp);have h2:=z88 l fun q' hq'=>h q' (by simp[hq'])
  rw[List.map_cons,List.map_cons,List.flatten_cons,List.flatten_cons,List.length_append,qeg];omega
theorem qia{l:List (Int × Int)}:∀(cs:List Nat),(∀c∈cs,∀q∈l,(pgF L E D c q).length<=Wt (zao D c q))->(zli L E D l cs).flatten.flatten.length<=(cs.map fun c=>Wt (l.map (zao D c)).flatten).sum
 | [],_=>by simp[zli]
 |c::cs,h=>by
  have h1:=z88 l (h c (by simp));have h2:=qia cs fun c' hc'=>h c' (by simp[hc'])
  have e:zli L E D l (c::cs)=l.map (pgF L E D c)::zli L E D l cs:=rfl;rw[e,List.flatten_cons,List.flatten_append,List.length_append,List.map_cons,List.sum_cons];omega
theorem qib:∀(S:List (Int × Int)),(∀s∈S,∀c,c<L.length-> ∀q∈zbr s.1 s.2 pr,(pgF L E D c q).length<=Wt (zao D c q))->
 (zia L E D pr S).flatten.flatten.flatten.length<=(S.map fun s=>((List.range L.length).map fun c=>Wt ((zbr s.1 s.2 pr).map (zao D c)).flatten).sum).sum
 | [],_=>by simp[zia]
 |s::S,h=>by
  have h1:=qia (L:=L) (E:=E) (D:=D) (l:=zbr s.1 s.2 pr) (List.range L.length) fun c hc=>h s (by simp) c (List.mem_range.1 hc)
  have h2:=qib S fun s' hs'=>h s' (by simp[hs'])
  have e:zia L E D pr (s::S)=zli L E D (zbr s.1 s.2 pr) (List.range L.length)::zia L E D pr S:=rfl;rw[e,List.flatten_cons,List.flatten_append,List.flatten_append,List.length_append,List.map_cons,List.sum_cons];omega
end
theorem zwg(f:List zab->Nat)(D:List (List zab)):((List.range D.length).map fun c=>f (D.getD c [])).sum=(D.map f).sum:=by
 have e:(List.range D.length).map (fun c=>f (D.getD c []))=D.map f:=by
  apply List.ext_getElem (by simp);intro i h1 h2;have hi:i<D.length:=by simpa using h1
  simp[List.getD_eq_getElem?_getD,hi]
 rw[e]
theorem qgl{L:List za2}{r:Int}{E:List Int}{D:List (List zab)}{gr pr:Int}(h:WrOk L r D gr pr)(hp:∀s∈zbr 0 r gr,∀c,c<L.length-> ∀q∈zbr s.1 s.2 pr,(pgF L E D c q).length<=Wt (zao D c q)):
 (zia L E D pr (zbr 0 r gr)).flatten.flatten.flatten.length<=(D.map Wt).sum:=by
 have h1:=qib (L:=L) (E:=E) (D:=D) (pr:=pr) (zbr 0 r gr) hp;have h2:=zh3 (fun(s:Int × Int) (c:Nat)=>Wt ((zbr s.1 s.2 pr).map (zao D c)).flatten) (List.range L.length) (zbr 0 r gr);have h3:((List.range L.length).map fun c=>((zbr 0 r gr).map fun s=>Wt ((zbr s.1 s.2 pr).map (zao D c)).flatten).sum)=(List.range L.length).map fun c=>Wt (D.getD c []):=by apply List.map_congr_left;intro c hc;have hb:=zl9 h (List.mem_range.1 hc);have e:=z87 ((zbr 0 r gr).map fun s=>((zbr s.1 s.2 pr).map (zao D c)).flatten);rw[hb,List.map_map] at e;exact e.symm
 have h4:=zwg Wt D;rw[h.len] at h4;rw[h2,h3,h4] at h1;exact h1
theorem qeh(D:List (List zab))(c:Nat)(q:Int × Int):fsum (zbi (zao D c q))<=fsum (zbi (D.getD c [])):=by
 have key:∀(l:List zab) (a b:Nat),fsum (zbi ((l.drop a).take b))<=fsum (zbi l):=by
  intro l a b;have e1:l=l.take a++((l.drop a).take b++(l.drop a).drop b):=by rw[List.take_append_drop,List.take_append_drop]
  have e2:fsum (zbi l)=fsum (zbi (l.take a))+(fsum (zbi ((l.drop a).take b))+fsum (zbi ((l.drop a).drop b))):=by
   conv=>lhs;rw[e1]
   unfold zbi;rw[List.map_append,List.map_append,zer,zer]
  omega
 exact key _ _ _
theorem qic{L:List za2}{r:Int}{E:List Int}{D:List (List zab)}{gr pr:Int}(h:WrOk L r D gr pr)(hE:∀c,c<L.length->zot (L.getD c zc4).2.1 (E.getD c 0))(hr:∀c,c<L.length-> ∀y∈D.getD c [],zac y (L.getD c zc4).2.1 (L.getD c zc4).2.2=true)
 (hs:∀c,c<L.length->fsum (zbi (D.getD c []))<=16777216){s q:Int × Int}{c:Nat}(h1:s∈zbr 0 r gr)(h2:c<L.length)(h3:q∈zbr s.1 s.2 pr):
 (zfo L E D c q).1=0/\(pgF L E D c q).length<=Wt (zao D c q):=by
 obtain⟨n,rfl⟩:=Int.eq_ofNat_of_zero_le h.rows.1;have hn:=h.rows.2;have hlc:(D.getD c []).length=n:=by have:=h.all _ (zan [] (show c<D.length by rw[h.len];exact h2));omega
 obtain⟨a,b,rfl,k1,k2,k3⟩:=zf5 (f:=0) h1;obtain⟨x,y,rfl,k4,k5,k6⟩:=zf5 h3;have hcl:=zlj (D:=D) (c:=c) (show x<=y by omega) (by rw[hlc];omega);have htc:=h.cols.2.1 _ (zan zc4 h2);have hri:∀z∈zao D c ((x:Int),(y:Int)),zac z (L.getD c zc4).2.1 (L.getD c zc4).2.2=true:=fun z hz=>hr c h2 z (by unfold zao at hz;exact List.mem_of_mem_drop (List.mem_of_mem_take hz))
 obtain⟨p1,p2⟩:=qgk (nu:=(L.getD c zc4).2.2) ⟨htc.2.2.1,htc.2.2.2⟩ (hE c h2) (by omega) hri (ztp h.data c ((x:Int),(y:Int))) (Nat.le_trans (qeh D c ((x:Int),(y:Int))) (hs c h2));refine⟨p1,?_⟩;unfold Wt;unfold pgF zfo;omega
open Go.RowKit Go.Hm
theorem zp5{K:Nat}:∀(cs:List za2) (C:List (List zay)),(∀t,∀l∈C,∀p∈l,(zen t p).length<=K)->(∀l∈C,l.length<=65536)->(zbs cs C).length<=(C.map fun l=>10+l.length*K).sum
 | [],C,_,_=>by simp[zbs]
 |c::cs,[],_,_=>by simp[zbs]
 |c::cs,l::C,h,hm=>by
  have h1:=zr3 (t:=c.2.1) (K:=K) (m:=l.length) (fun p hp=>h _ l (by simp) p hp) (Nat.le_refl _) (hm l (by simp));have h2:=zp5 cs C (fun t l' hl'=>h t l' (by simp[hl'])) (fun l' hl'=>hm l' (by simp[hl']));rw[zbs,List.length_append,List.map_cons,List.sum_cons];omega
theorem zr5{cols:List za2}{K:Nat}:∀G:List za4,(∀t,∀g∈G,∀l∈g.2,∀p∈l,(zen t p).length<=K)->(∀g∈G,∀l∈g.2,l.length<=65536)->(∀g∈G,g.1.toNat<18446744073709551616)->
 (G.flatMap (zcm cols)).length<=(G.map fun g=>10+(g.2.map fun l=>10+l.length*K).sum).sum
 | [],_,_,_=>by simp
 |g::G,h,hm,hg=>by
  have h1:=zp5 cols g.2 (fun t l hl=>h t g (by simp) l hl) (hm g (by simp));have h2:=zr5 (cols:=cols) G (fun t q hq=>h t q (by simp[hq])) (fun q hq=>hm q (by simp[hq])) (fun q hq=>hg q (by simp[hq]));have h4:=zaj (n:=g.1.toNat) (hg g (by simp));have h5:(zcm cols g).length=(vp g.1.toNat).length+(zbs cols g.2).length:=by unfold zcm;rw[List.length_append]
  rw[List.flatMap_cons,List.length_append,List.map_cons,List.sum_cons];omega
theorem map_le_sum{α:Type}{f g:α->Nat}:∀(l:List α),(∀x∈l,f x<=g x)->(l.map f).sum<=(l.map g).sum
 | [],_=>by simp
 |x::l,h=>by
  have h1:=h x (by simp);have h2:=map_le_sum (f:=f) (g:=g) l fun y hy=>h y (by simp[hy])
  simp only[List.map_cons,List.sum_cons];omega
theorem z0y:∀(l:List (List zab)),(∀x∈l,1<=x.length)->l.length<=l.flatten.length
 | [],_=>by simp
 |x::l,h=>by
  have h1:=h x (by simp);have h2:=z0y l fun y hy=>h y (by simp[hy])
  rw[List.flatten_cons,List.length_append,List.length_cons];omega
theorem zfh{α:Type}(f g:α->Nat):∀l:List α,(l.map fun x=>f x+g x).sum=(l.map f).sum+(l.map g).sum
 | []=>rfl
 |x::l=>by
  have:=zfh f g l;simp only[List.map_cons,List.sum_cons];omega
theorem zyl{α:Type}(f:α->Nat)(K:Nat):∀l:List α,(l.map fun x=>f x*K).sum=(l.map f).sum*K
 | []=>by simp
 |x::l=>by
  have:=zyl f K l;simp only[List.map_cons,List.sum_cons,Nat.add_mul];omega
theorem zlk{α:Type}(k:Nat):∀l:List α,(l.map fun _=>k).sum=l.length*k
 | []=>by simp
 |x::l=>by
  have:=zlk k l;simp only[List.map_cons,List.sum_cons,List.length_cons,Nat.succ_mul];omega
theorem z89{L:List za2}{r:Int}{E:List Int}{D:List (List zab)}{gr pr:Int}{K:Nat}(h:WrOk L r D gr pr)(hK:∀t,∀g∈(zbv L r E D gr pr).groups,∀l∈g.2,∀p∈l,(zen t p).length<=K):
 (zdz (zbv L r E D gr pr)).length<=50000000+(D.map List.length).sum*K:=by
 obtain⟨n,rfl⟩:=Int.eq_ofNat_of_zero_le h.rows.1;have hn:=h.rows.2;have hL:=h.cols.1;have hlc:∀c,c<L.length->(D.getD c []).length=n:=fun c hc=>by have:=h.all _ (zan [] (show c<D.length by rw[h.len];exact hc));omega
 have hG:=zr5 (cols:=L) (K:=K) (zbv L n E D gr pr).groups hK (fun g hg l hl=>by
  obtain⟨s,hs,rfl⟩:=List.mem_map.1 hg;obtain⟨c,hc,rfl⟩:=List.mem_map.1 hl;rw[List.length_map];exact zkz _ _ _) (fun g hg=>by
  obtain⟨s,hs,rfl⟩:=List.mem_map.1 hg;obtain⟨a,b,rfl,k1,k2,k3⟩:=zf5 (f:=0) hs;unfold zb0;dsimp only;omega)
 have hS:=zkz 0 (n:Int) gr;have e1:((zbv L n E D gr pr).groups.map fun g=>10+(g.2.map fun l=>10+l.length*K).sum).sum<=((zbr 0 (n:Int) gr).map fun s=>10+((List.range L.length).map fun c=>10+((zbr s.1 s.2 pr).map (zao D c)).flatten.length*K).sum).sum:=by
  show(((zbr 0 (n:Int) gr).map (zb0 L E D pr)).map _).sum<=_;rw[List.map_map];refine map_le_sum _ fun s hs=>?_
  show 10+(((List.range L.length).map fun c=>(zbr s.1 s.2 pr).map (zbu L E D c)).map fun l=>10+l.length*K).sum<=_;rw[List.map_map];refine Nat.add_le_add_left (map_le_sum _ fun c hc=>?_) _;show 10+((zbr s.1 s.2 pr).map (zbu L E D c)).length*K<=_;refine Nat.add_le_add_left (Nat.mul_le_mul_right _ ?_) _;rw[List.length_map];have:=z0y ((zbr s.1 s.2 pr).map (zao D c)) (fun x hx=>by obtain⟨q,hq,rfl⟩:=List.mem_map.1 hx;obtain⟨a,b,rfl,k1,k2,k3⟩:=zf5 (f:=0) hs;obtain⟨x,y,rfl,k4,k5,k6⟩:=zf5 hq;have hcl:=zlj (D:=D) (c:=c) (show x<=y by omega) (by rw[hlc c (List.mem_range.1 hc)];omega);omega)
  rwa[List.length_map] at this
 have e2:((zbr 0 (n:Int) gr).map fun s=>10+((List.range L.length).map fun c=>10+((zbr s.1 s.2 pr).map (zao D c)).flatten.length*K).sum).sum=(zbr 0 (n:Int) gr).length*10+((zbr 0 (n:Int) gr).length*(L.length*10)+(D.map List.length).sum*K):=by
  rw[zfh (fun _=>10),zlk];congr 1
  have e3:((zbr 0 (n:Int) gr).map fun s=>((List.range L.length).map fun c=>10+((zbr s.1 s.2 pr).map (zao D c)).flatten.length*K).sum)=(zbr 0 (n:Int) gr).map fun s=>L.length*10+((List.range L.length).map fun c=>((zbr s.1 s.2 pr).map (zao D c)).flatten.length).sum*K:=by apply List.map_congr_left;intro s _;rw[zfh (fun _=>10),zlk,List.length_range,zyl]
  rw[e3,zfh (fun _=>L.length*10),zlk,zyl];congr 2
  rw[zh3 (fun(s:Int × Int) (c:Nat)=>((zbr s.1 s.2 pr).map (zao D c)).flatten.length) (List.range L.length) (zbr 0 (n:Int) gr)];have h3:((List.range L.length).map fun c=>((zbr 0 (n:Int) gr).map fun s=>((zbr s.1 s.2 pr).map (zao D c)).flatten.length).sum)=(List.range L.length).map fun c=>(D.getD c []).length:=by
   apply List.map_congr_left;intro c hc;have hb:=zl9 h (List.mem_range.1 hc);conv=>rhs;rw[<-hb,List.length_flatten,List.map_map]
   rfl
  rw[h3];have h4:=zwg List.length D;rw[h.len] at h4;exact h4
 have hpc:=zz2 h.cols;have h2:=zaj (n:=(n:Int).toNat) (by omega);have h3:=zaj (n:=((zbr 0 (n:Int) gr).map (zb0 L E D pr)).length) (by rw[List.length_map];omega);have h5:(zbr 0 (n:Int) gr).length*(L.length*10)<=65536*(64*10):=Nat.mul_le_mul hS (by omega);unfold zdz;simp only[List.length_append];have e6:(putC [] (zbv L (n:Int) E D gr pr).cols).length<=8000:=hpc;have e7:(vp (zbv L (n:Int) E D gr pr).rows.toNat).length<=10:=h2;have e8:(vp (zbv L (n:Int) E D gr pr).groups.length).length<=10:=h3;have e9:(zbv L (n:Int) E D gr pr).cols=L:=rfl;rw[e9] at*;omega
theorem z9a{g p:Int}{E:List Int}{L:List za2}(h:zdg g p E L=0):E.length=L.length/\ ∀c,c<L.length->zot (L.getD c zc4).2.1 (E.getD c 0):=by
 unfold zdg at h;split at h
 ·omega
 ·rename_i h1
  split at h
  ·rename_i h2
   have h1:=Decidable.not_not.1 h1;exact⟨h1.2.2.2.2,fun c hc=>h2 c (by omega)⟩
  ·omega
theorem z9b{L:List za2}{r:Int}{DD:List zdy}(h:tabCk L r DD=0):∀c,c<L.length-> ∀y∈(DD.map (·.2.2)).getD c [],zac y (L.getD c zc4).2.1 (L.getD c zc4).2.2=true:=by
 intro c hc y hy;have hl:=(zld h).1;have hr:zh2 DD L=true:=by
  unfold tabCk at h;split at h
  ·rename_i q;exact absurd h q
  ·split at h
   ·rename_i q;exact absurd h q
   ·split at h
    ·assumption
    ·omega
 rw[zba (fun d:zdy=>d.2.2) DD dZ [] (by omega)] at hy;have:=zka hl hr (k:=c) (by omega);exact List.all_eq_true.1 this y hy
open Go.RowKit Go.Hm
theorem z9c{α:Type}{f:α->Nat}{k:Nat}:∀(l:List α),(∀x∈l,f x<=k)->(l.map f).sum<=l.length*k
 | [],_=>by simp
 |x::l,h=>by
  have h1:=h x (by simp);have h2:=z9c (f:=f) l fun y hy=>h y (by simp[hy])
  simp only[List.map_cons,List.sum_cons,List.length_cons,Nat.succ_mul];omega
end Go.Proofs.Y
