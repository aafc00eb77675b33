/- Merged. -/
import Derived.Test.YtbahbnbpmfgimaaGreatDoorBun45
import Derived.Test.YtbahbnbpmfgimaaGreatDoorBun48
set_option maxHeartbeats 1000000
namespace Go.Proofs.Y
open Go.RowKit Go.Hm
structure WrOk(L:List zbc)(r:Int)(D:List (List zab))(gr pr:Int):Prop where
 cols:zpi L
 names:∀c∈L,∀z∈c.1,z<256
 len:D.length=L.length
 rows:0<=r/\r<=65536
 all:∀l∈D,((l.length:Nat):Int)=r
 data:∀l∈D,∀c∈l,zaq c
 conf:(1<=gr/\gr<=65536)/\1<=pr/\pr<=65536
theorem z9r{D:List (List zab)}(h:∀l∈D,∀c∈l,zaq c)(c:Nat)(s:Int × Int):∀y∈zb3 D c s,zaq y:=by
 intro y hy;unfold zb3 at hy;have hy:=List.mem_of_mem_drop (List.mem_of_mem_take hy);by_cases hc:c<D.length
 ·exact h _ (zai [] hc) y hy
 ·rw[List.getD_eq_getElem?_getD,List.getElem?_eq_none (by omega)] at hy
  cases hy
theorem z4b{t:Int}{l:List zab}(h:∀y∈l,zaq y):statData (zml t l):=by
 have hs:=znv t l;cases hb:(zml t l).2.1 with
 |true=>exact⟨h _ (hs.least hb).1.1,h _ (hs.most hb).1.1⟩
 |false=>
  obtain⟨e1,e2⟩:=hs.none hb;have h0:zaq za8:=by unfold zaq za8;simp
  exact⟨by rw[e1];exact h0,by rw[e2];exact h0⟩
theorem z4c{L:List zbc}{r:Int}{E:List Int}{D:List (List zab)}{gr pr:Int}(h:WrOk L r D gr pr):zfa (zem L r E D gr pr):=by refine⟨h.names,fun g hg l hl p hp=>?_⟩;obtain⟨s,_,rfl⟩:=List.mem_map.1 hg;obtain⟨c,_,rfl⟩:=List.mem_map.1 hl;obtain⟨q,_,rfl⟩:=List.mem_map.1 hp;exact z4b (z9r h.data c q)
theorem z4d{L:List zbc}{r:Int}{DD:List zex}{gr pr:Int}{E:List Int}{b:List Nat}(h:WrOk L r (DD.map (·.2.2)) gr pr)(hw:zgr L r DD gr pr E=(0,b))(h0:zgg L r DD=0)(h1:zej gr pr E L=0):
 zbq (zem L r E (DD.map (·.2.2)) gr pr)/\zfa (zem L r E (DD.map (·.2.2)) gr pr)/\b=zfi (zqg L E (DD.map (·.2.2)) pr (zdq 0 r gr)).flatten.flatten.flatten (zev (zem L r E (DD.map (·.2.2)) gr pr))/\
 (zev (zem L r E (DD.map (·.2.2)) gr pr)).length<=1073741824/\openO b=some (zem L r E (DD.map (·.2.2)) gr pr,zev (zem L r E (DD.map (·.2.2)) gr pr))/\
 zet (zem L r E (DD.map (·.2.2)) gr pr).groups (b.drop 4)=zqg L E (DD.map (·.2.2)) pr (zdq 0 r gr)/\(∀s∈zdq 0 r gr,∀c,c<L.length-> ∀q∈zdq s.1 s.2 pr,(zh7 L E (DD.map (·.2.2)) c q).1=0)/\(∀x∈b,x<256)/\b.length<=2147483660:=by
 unfold zgr at hw;rw[if_neg (by rw[h0];simp),if_neg (by rw[h1];simp)] at hw;generalize hD:DD.map (·.2.2)=D at*;split at hw
 ·cases hw
 ·rename_i x hx
  split at hw
  ·cases hw
  ·rename_i own ho
   split at hw
   ·cases hw
   ·rename_i hbig
    unfold zqu at ho;split at ho
    ·rename_i hF
     injection ho with ho;subst ho;injection hw with _ hb;have hok:=zyz _ x hx;obtain⟨k1,k2⟩:=zwk (zdq 0 r gr) hx;rw[List.nil_append] at k1;rw[k1] at hb hok;have hDa:=z4c (E:=E) h;have h8:=z37 hF hDa;have hcut:=fun R=>z9j (L:=L) (E:=E) (D:=D) (pr:=pr) (zdq 0 r gr) R
     have hop:openO b=some (zem L r E D gr pr,zev (zem L r E D gr pr)):=by rw[<-hb];exact zrr hF hDa (hcut []).2 h8 (by omega)
     have hcg:zet (zem L r E D gr pr).groups (b.drop 4)=zqg L E D pr (zdq 0 r gr):=by
      have e:b.drop 4=(zqg L E D pr (zdq 0 r gr)).flatten.flatten.flatten++(zev (zem L r E D gr pr)++(low (zev (zem L r E D gr pr)).length 4++tailL)):=by rw[<-hb];unfold zfi;exact List.drop_left' (show headL_film.length=4 from rfl)
      rw[e];exact(hcut _).1
     have hb8:∀z∈b,z<256:=by
      rw[<-hb];intro z hz;unfold zfi at hz;rcases List.mem_append.1 hz with hz|hz
      ·simp[headL_film] at hz;omega
      rcases List.mem_append.1 hz with hz|hz
      ·obtain⟨p,hp,hz⟩:=List.mem_flatten.1 hz
       obtain⟨ch,hch,hp⟩:=List.mem_flatten.1 hp;obtain⟨g,hg,hch⟩:=List.mem_flatten.1 hch;obtain⟨s,hs,rfl⟩:=List.mem_map.1 hg;obtain⟨c,hc,rfl⟩:=List.mem_map.1 hch;obtain⟨q,hq,rfl⟩:=List.mem_map.1 hp;exact qi0 (z9r h.data c q) (show pgE _ _ _ _=(0,pgF L E D c q) from Prod.ext (k2 s hs c (List.mem_range.1 hc) q hq) rfl) z hz
      rcases List.mem_append.1 hz with hz|hz
      ·exact h8 z hz
      rcases List.mem_append.1 hz with hz|hz
      ·exact zg0 _ _ z hz
      ·simp[tailL] at hz;omega
     refine⟨hF,hDa,hb.symm,by omega,hop,hcg,k2,hb8,?_⟩;rw[<-hb,zhc];omega
    ·cases ho
open Go.RowKit Go.Hm
section
variable{L:List zbc}{E:List Int}{D:List (List zab)}{pr:Int}
theorem qe1{c:Nat}:∀(l:List (Int × Int)) (y:List (List Nat) × Int),(∀q∈l,(zh7 L E D c q).1=0/\(zh7 L E D c q).2.length<=268435456)->y.2+((l.map (pgF L E D c)).flatten.length:Int)<=1073741824-> ∃x,chW L E D c (some y) l=some x/\x.2=y.2+((l.map (pgF L E D c)).flatten.length:Int)
 | [],y,_,_=>⟨y,rfl,by simp⟩
 |q::l,y,h,hz=>by
  have h0:=h q (by simp);rw[List.map_cons,List.flatten_cons,List.length_append] at hz;have e0:(pgF L E D c q).length=(zh7 L E D c q).2.length:=rfl;have e:chW L E D c (some y) (q::l)=chW L E D c (pgW L E D c (some y) q) l:=rfl;have e2:pgW L E D c (some y) q=some (y.1++[(zh7 L E D c q).2],y.2+(zh7 L E D c q).2.length):=by unfold pgW;dsimp only;rw[if_pos ⟨h0.1,h0.2,by omega⟩]
  obtain⟨x,h1,h2⟩:=qe1 l (y.1++[(zh7 L E D c q).2],y.2+(zh7 L E D c q).2.length) (fun q' hq'=>h q' (by simp[hq'])) (by dsimp only;omega);refine⟨x,by rw[e,e2,h1],?_⟩;rw[h2,List.map_cons,List.flatten_cons,List.length_append];dsimp only;omega
theorem qe2{s:Int × Int}:∀(k:Nat) (y:List (List Nat) × Int),(∀c,c<k-> ∀q∈zdq s.1 s.2 pr,(zh7 L E D c q).1=0/\(zh7 L E D c q).2.length<=268435456)->y.2+((ztv L E D (zdq s.1 s.2 pr) (List.range k)).flatten.flatten.length:Int)<=1073741824->
 ∃x,gpW L E D pr s (some y) k=some x/\x.2=y.2+((ztv L E D (zdq s.1 s.2 pr) (List.range k)).flatten.flatten.length:Int)
 |0,y,_,_=>⟨y,rfl,by simp[ztv]⟩
 |k+1,y,h,hz=>by
  have e:(ztv L E D (zdq s.1 s.2 pr) (List.range (k+1))).flatten.flatten.length=(ztv L E D (zdq s.1 s.2 pr) (List.range k)).flatten.flatten.length+((zdq s.1 s.2 pr).map (pgF L E D k)).flatten.length:=by rw[List.range_succ];simp[ztv]
  obtain⟨x,h1,h2⟩:=qe2 k y (fun c hc=>h c (by omega)) (by omega);obtain⟨z,h3,h4⟩:=qe1 (zdq s.1 s.2 pr) x (h k (by omega)) (by omega);exact⟨z,by rw[gpW,h1,h3],by omega⟩
theorem z9s:∀(l:List (Int × Int)) (y:List (List Nat) × Int),(∀s∈l,∀c,c<L.length-> ∀q∈zdq s.1 s.2 pr,(zh7 L E D c q).1=0/\(zh7 L E D c q).2.length<=268435456)->y.2+((zqg L E D pr l).flatten.flatten.flatten.length:Int)<=1073741824->
 ∃x,l.foldl (grW L E D pr) (some y)=some x
 | [],y,_,_=>⟨y,rfl⟩
 |s::l,y,h,hz=>by
  have e:(zqg L E D pr (s::l)).flatten.flatten.flatten.length=(ztv L E D (zdq s.1 s.2 pr) (List.range L.length)).flatten.flatten.length+(zqg L E D pr l).flatten.flatten.flatten.length:=by simp[zqg]
  obtain⟨x,h1,h2⟩:=qe2 L.length y (h s (by simp)) (by omega);obtain⟨z,h3⟩:=z9s l x (fun s' hs'=>h s' (by simp[hs'])) (by omega);exact⟨z,by rw[List.foldl_cons,grW,h1,h3]⟩
end
theorem zwn{f t:Nat}{s:Int}{q:Int × Int}(h:q∈zdq (f:Int) (t:Int) s):∃a b:Nat,q=((a:Int),(b:Int))/\f<=a/\a<b/\b<=t:=by
 unfold zdq at h;split at h
 ·cases h
 ·rename_i hc
  unfold zgn at h;obtain⟨i,hi,rfl⟩:=List.mem_map.1 h;rw[List.mem_range] at hi;have:=(zgo (f:=(f:Int).toNat) (t:=(t:Int).toNat) (s:=s.toNat) (by omega) i).1 hi;refine⟨_,_,rfl,?_,?_,?_⟩
  ·omega
  ·rw[Nat.succ_mul];omega
  ·omega
theorem zwo(l:List zab):∀(S:List (Int × Int)),(∀q∈S,∃a b:Nat,q=((a:Int),(b:Int))/\a<=b/\b<=l.length)->(S.map fun q=>q.2-q.1).sum=(((S.map fun q=>(l.drop q.1.toNat).take (q.2-q.1).toNat).flatten.length:Nat):Int)
 | [],_=>rfl
 |q::S,h=>by
  obtain⟨a,b,rfl,h1,h2⟩:=h _ (List.mem_cons_self);have ih:=zwo l S fun q hq=>h q (by simp[hq])
  rw[List.map_cons,List.sum_cons,ih,List.map_cons,List.flatten_cons,List.length_append,List.length_take,List.length_drop];dsimp only;omega
theorem z1a{f t:Nat}{s:Int}(h:f<=t)(ht:t<=65536)(hs:1<=s):((zdq (f:Int) (t:Int) s).map fun q=>q.2-q.1).sum=(t:Int)-(f:Int):=by
 rw[zwo (List.replicate t zqm) _ (fun q hq=>by obtain⟨a,b,e,_,h2,h3⟩:=z09 hq;exact⟨a,b,e,h2,by simpa using h3⟩),z9k _ h ht hs,List.length_take,List.length_drop,List.length_replicate]
 omega
theorem zwp{D:List (List zab)}{c a b:Nat}(h1:a<=b)(h2:b<=(D.getD c []).length):(zb3 D c ((a:Int),(b:Int))).length=b-a:=by unfold zb3;rw[List.length_take,List.length_drop];dsimp only;omega
theorem qdt{L:List zbc}{r:Int}{E:List Int}{D:List (List zab)}{gr pr:Int}(h:WrOk L r D gr pr)(hr:∀c,c<L.length-> ∀y∈D.getD c [],zae y (L.getD c zfr).2.1 (L.getD c zfr).2.2=true)
 (hp:∀s∈zdq 0 r gr,∀c,c<L.length-> ∀q∈zdq s.1 s.2 pr,(zh7 L E D c q).1=0/\(zh7 L E D c q).2.length<=268435456)(hz:(zqg L E D pr (zdq 0 r gr)).flatten.flatten.flatten.length<=1073741824):zbq (zem L r E D gr pr):=by
 obtain⟨n,rfl⟩:=Int.eq_ofNat_of_zero_le h.rows.1;have hn:=h.rows.2;have hlc:∀c,c<L.length->(D.getD c []).length=n:=fun c hc=>by have:=h.all _ (zai [] (show c<D.length by rw[h.len];exact hc));omega
 have hG:∀g∈(zem L n E D gr pr).groups,GroupOk L g:=by
  intro g hg;obtain⟨s,hs,rfl⟩:=List.mem_map.1 hg;obtain⟨a,b,rfl,h1,h2,h3⟩:=zwn (f:=0) hs;refine⟨by unfold zdt;dsimp only;omega,by unfold zdt;simp,fun c hc=>?_⟩;have e:(zdt L E D pr ((a:Int),(b:Int))).2.getD c []=(zdq (a:Int) (b:Int) pr).map (zd5 L E D c):=by
   unfold zdt;dsimp only;rw[zbk _ _ 0 [] (by rw[List.length_range];exact hc)];have:(List.range L.length).getD c 0=c:=by rw[List.getD_eq_getElem?_getD,List.getElem?_range hc];rfl
   rw[this]
  rw[e];constructor
  ·intro p hpm
   obtain⟨q,hq,rfl⟩:=List.mem_map.1 hpm;have hpq:=hp _ hs c hc q hq;obtain⟨x,y,rfl,k1,k2,k3⟩:=zwn hq;have hcl:=zwp (D:=D) (c:=c) (show x<=y by omega) (by rw[hlc c hc];omega);obtain⟨_,_,_,_,d,_,hb⟩:=z0k (show pgE _ _ _ _=(0,(zh7 L E D c ((x:Int),(y:Int))).2) from Prod.ext hpq.1 rfl);have hb1:1<=(zh7 L E D c ((x:Int),(y:Int))).2.length:=by rw[hb,List.length_cons];omega
   have hst:=znv (L.getD c zfr).2.1 (zb3 D c ((x:Int),(y:Int)));have hri:∀z∈zb3 D c ((x:Int),(y:Int)),zae z (L.getD c zfr).2.1 (L.getD c zfr).2.2=true:=fun z hz=>hr c hc z (by unfold zb3 at hz;exact List.mem_of_mem_drop (List.mem_of_mem_take hz))
   have htc:=h.cols.2.1 _ (zai zfr hc);have hn1:=hst.nulls;have hn2:=zis (zb3 D c ((x:Int),(y:Int)));refine pageB_most.2 ⟨⟨?_,?_,?_,?_⟩,?_⟩
   ·unfold zd5;dsimp only;omega
   ·unfold zd5;dsimp only;omega
   ·unfold zd5;dsimp only;omega
   ·unfold zd5;dsimp only;omega
   ·have hR:=hst.right (fun z hz=>zrx (hri z hz)) ⟨htc.2.2.1,htc.2.2.2⟩ (by omega)
    unfold zd5;dsimp only;rw[show zb9 (L.getD c ([],0,false)).2.1 (zml (L.getD c zfr).2.1 (zb3 D c ((x:Int),(y:Int))))=true from hR];simp only[Bool.true_and,Bool.and_eq_true,decide_eq_true_eq,beq_iff_eq,Bool.or_eq_true];refine⟨by omega,?_,?_⟩
    ·cases hb2:(zml (L.getD c zfr).2.1 (zb3 D c ((x:Int),(y:Int)))).2.1 with
     |true=>
      obtain⟨z,hz,hz0⟩:=hst.has.1 hb2;have:nullsL (zb3 D c ((x:Int),(y:Int)))<(zb3 D c ((x:Int),(y:Int))).length:=by unfold nullsL;exact List.length_filter_lt_length_iff_exists.2 ⟨z,hz,by simpa using hz0⟩
      rw[eq_comm,decide_eq_true_eq];omega
     |false=>
      rw[eq_comm,decide_eq_false_iff_not];intro hlt;have:nullsL (zb3 D c ((x:Int),(y:Int)))<(zb3 D c ((x:Int),(y:Int))).length:=by omega
      unfold nullsL at this;obtain⟨z,hz,hz0⟩:=List.length_filter_lt_length_iff_exists.1 this;have:=hst.has.2 ⟨z,hz,by simpa using hz0⟩;rw[hb2] at this;cases this
    ·show(L.getD c zfr).2.2=true\/_
     cases hnu:(L.getD c zfr).2.2 with
     |true=>exact .inl rfl
     |false=>
      right;have:nullsL (zb3 D c ((x:Int),(y:Int)))=0:=by unfold nullsL;rw[List.length_eq_zero_iff,List.filter_eq_nil_iff];intro z hz hz0;have hzr:=hri z hz;rw[hnu] at hzr;unfold zae at hzr;rw[if_pos hz0] at hzr;simp at hzr
      omega
  ·have e2:∀S:List (Int × Int),(∀q∈S,∃x y:Nat,q=((x:Int),(y:Int))/\x<=y/\y<=n)->zmc (S.map (zd5 L E D c))=(S.map fun q=>q.2-q.1).sum:=by
    intro S;induction S with
    |nil=>intro _;rfl
    |cons q S ih=>
     intro hS;obtain⟨x,y,rfl,k1,k2⟩:=hS _ (List.mem_cons_self);have hcl:=zwp (D:=D) (c:=c) k1 (by rw[hlc c hc];exact k2);rw[List.map_cons,zg8,ih fun q hq=>hS q (by simp[hq]),List.map_cons,List.sum_cons];unfold zd5;dsimp only;omega
   rw[e2 _ (fun q hq=>by obtain⟨x,y,e,k1,k2,k3⟩:=z09 hq;exact⟨x,y,e,k2,by omega⟩),z1a (by omega) (by omega) h.conf.2.1]
   rfl
 refine⟨h.cols,hG,?_,hn,?_⟩
 ·have:=z1a (f:=0) (t:=n) (s:=gr) (by omega) (by omega) h.conf.1.1
  show(((zdq 0 (n:Int) gr).map (zdt L E D pr)).map (·.1)).sum=(n:Int);rw[List.map_map];have e3:((fun x:za1=>x.1) ∘ zdt L E D pr)=fun q:Int × Int=>q.2-q.1:=rfl
  rw[e3];simpa using this
 ·have hc:=(z9j (L:=L) (E:=E) (D:=D) (pr:=pr) (zdq 0 (n:Int) gr) []).2
  have:=zyg (G:=(zem L n E D gr pr).groups) (fun g hg l hl p hpp=>by obtain⟨s,hs,rfl⟩:=List.mem_map.1 hg;obtain⟨c,_,rfl⟩:=List.mem_map.1 hl;obtain⟨q,_,rfl⟩:=List.mem_map.1 hpp;unfold zd5;dsimp only;omega)
  rw[<-this];have e4:(zem L n E D gr pr).groups=(zdq 0 (n:Int) gr).map (zdt L E D pr):=rfl;rw[e4,<-hc];omega
theorem qdu{L:List zbc}{r:Int}{DD:List zex}{gr pr:Int}{E:List Int}(h:WrOk L r (DD.map (·.2.2)) gr pr)(h0:zgg L r DD=0)(h1:zej gr pr E L=0)(hr:∀c,c<L.length-> ∀y∈(DD.map (·.2.2)).getD c [],zae y (L.getD c zfr).2.1 (L.getD c zfr).2.2=true)
 (hp:∀s∈zdq 0 r gr,∀c,c<L.length-> ∀q∈zdq s.1 s.2 pr,(zh7 L E (DD.map (·.2.2)) c q).1=0/\(zh7 L E (DD.map (·.2.2)) c q).2.length<=268435456)(hz:(zqg L E (DD.map (·.2.2)) pr (zdq 0 r gr)).flatten.flatten.flatten.length<=1073741824)
 (hf:(zev (zem L r E (DD.map (·.2.2)) gr pr)).length<=1073741824):∃b,zgr L r DD gr pr E=(0,b):=by
 have hF:=qdt h hr hp hz;obtain⟨x,hx⟩:=z9s (zdq 0 r gr) ([],0) hp (by dsimp only;omega);unfold zgr;rw[if_neg (by rw[h0];simp),if_neg (by rw[h1];simp)];have hx:z0z L E (DD.map (·.2.2)) pr (zdq 0 r gr)=some x:=hx;rw[hx];dsimp only;have he:zqu (zem L r E (DD.map (·.2.2)) gr pr)=some (zev (zem L r E (DD.map (·.2.2)) gr pr)):=by unfold zqu;rw[if_pos hF]
 rw[he];dsimp only;rw[if_neg (by omega)];exact⟨_,rfl⟩
open Go.RowKit Go.Hm
theorem z4e{t:Int}{K m:Nat}{l:List za2}(h:∀p∈l,(zfq t p).length<=K)(hm:l.length<=m)(h6:m<=65536):(zgq t l).length<=10+m*K:=by
 have key:∀l:List za2,(∀p∈l,(zfq t p).length<=K)->(l.flatMap (zfq t)).length<=l.length*K:=by
  intro l;induction l with
  |nil=>intro _;simp
  |cons p l ih=>
   intro h;have h1:=h p (by simp);have h2:=ih fun q hq=>h q (by simp[hq])
   rw[List.flatMap_cons,List.length_append,List.length_cons,Nat.succ_mul];omega
 have h1:=key l h;have h2:=zap (n:=l.length) (by omega);have h3:l.length*K<=m*K:=Nat.mul_le_mul_right _ hm;unfold zgq;rw[List.length_append];omega
theorem zp8{K m:Nat}(h6:m<=65536):∀(cs:List zbc) (C:List (List za2)),(∀t,∀l∈C,∀p∈l,(zfq t p).length<=K)->(∀l∈C,l.length<=m)->(zca cs C).length<=C.length*(10+m*K)
 | [],C,_,_=>by simp[zca]
 |c::cs,[],_,_=>by simp[zca]
 |c::cs,l::C,h,hm=>by
  have h1:=z4e (t:=c.2.1) (K:=K) (m:=m) (fun p hp=>h _ l (by simp) p hp) (hm l (by simp)) h6;have h2:=zp8 h6 cs C (fun t l' hl'=>h t l' (by simp[hl'])) (fun l' hl'=>hm l' (by simp[hl']));rw[zca,List.length_append,List.length_cons,Nat.succ_mul];omega
theorem z9t{F:FootS}{K m n:Nat}(h:∀t,∀g∈F.groups,∀l∈g.2,∀p∈l,(zfq t p).length<=K)(hn:∀g∈F.groups,g.2.length<=n)(hm:∀g∈F.groups,∀l∈g.2,l.length<=m)(h6:m<=65536)
 (hr:F.rows.toNat<18446744073709551616)(hg:F.groups.length<18446744073709551616:=by decide)(hg1:∀g∈F.groups,g.1.toNat<18446744073709551616:=by decide):(zev F).length<=(putC [] F.cols).length+20+F.groups.length*(10+n*(10+m*K)):=by
 have key:∀G:List za1,(∀g∈G,g∈F.groups)->(G.flatMap (zc3 F.cols)).length<=G.length*(10+n*(10+m*K)):=by
  intro G;induction G with
  |nil=>intro _;simp
  |cons g G ih=>
   intro hG;have hgF:=hG g (by simp);have h1:=zp8 h6 F.cols g.2 (fun t l hl=>h t g hgF l hl) (hm g hgF);have h2:=ih fun q hq=>hG q (by simp[hq])
   have h3:g.2.length*(10+m*K)<=n*(10+m*K):=Nat.mul_le_mul_right _ (hn g hgF);have h4:=zap (n:=g.1.toNat) (hg1 g hgF);have h5:(zc3 F.cols g).length=(vp g.1.toNat).length+(zca F.cols g.2).length:=by unfold zc3;rw[List.length_append]
   rw[List.flatMap_cons,List.length_append,List.length_cons,Nat.succ_mul];omega
 have h1:=key F.groups (fun g hg=>hg);have h2:=zap hr;have h3:=zap hg;unfold zev;simp only[List.length_append];omega
open Go Go.RowKit Go.Hm
theorem z1c{F:FootS}{b:List Nat}(h:zbq F)(hb:szG F.groups+4<=b.length){k j q:Nat}(hk:k<F.groups.length)(hj:j<F.cols.length)(hq:q<(zav F.groups k j).length):
 zwq b F (k:Int) (j:Int) (q:Int)=some ((((zet F.groups (b.drop 4)).getD k []).getD j []).getD q []):=by
 have hgl:(F.groups.getD k zak).2.length=F.cols.length:=(zcr h hk).2.1;have p4:=(zj7 h hk hj hq).2.2.2;have e:=z29 h hk hj (q:=q);have a1:=ztm hk;have a2:=qep F.groups (k+1);have a3:=ztl (C:=(F.groups.getD k zak).2) (j:=j) (by omega);have a4:=qeo (F.groups.getD k zak).2 (j+1);have a5:szL ((zav F.groups k j).take (q+1))=_:=z0o hq;have a6:=qen (zav F.groups k j) (q+1);have a7:szL ((F.groups.getD k zak).2.getD j [])=szL (zav F.groups k j):=rfl;unfold zwq;rw[z1b h hk hj hq,e];simp only[Int.toNat_natCast];rw[if_neg (by omega),if_neg (by omega)];congr 1
 rw[ziu _ _ _ hk,cutC_at _ _ _ (by omega)];rw[show(F.groups.getD k zak).2.getD j []=zav F.groups k j from rfl,zyf _ _ _ hq,List.drop_drop,List.drop_drop,List.drop_drop];congr 2
 omega
theorem qdx:zgr [] 0 [] 1 1 []=(0,[72,89,80,79,0,0,0,3,0,0,0,79,80,89,72]):=by
 have e1:zgg [] 0 []=0:=by decide
 have e2:zej 1 1 [] []=0:=by decide
 have e3:zdq 0 0 1=[]:=by decide
 have e4:zqu fz=some [0,0,0]:=by unfold zqu;rw[if_pos qi6,znw]
 unfold zgr;rw[if_neg (by rw[e1];simp),if_neg (by rw[e2];simp)];have e5:zem [] 0 [] (([]:List zex).map (·.2.2)) 1 1=fz:=by unfold zem;rw[e3];rfl
 rw[e3,e5,e4];rfl
open Go Go.RowKit Go.Hm
def znc(C:List (List (List (List Nat))))(k j q:Nat):List (List Nat):=(C.take k).flatten.flatten++(((C.getD k []).take j).flatten++((C.getD k []).getD j []).take q)
section
variable{C:List (List (List (List Nat)))}{k j q:Nat}
theorem z4f(hk:k<C.length)(hj:j<(C.getD k []).length):∃R,C.flatten.flatten=znc C k j q++R:=by
 have h1:C=C.take k++(C.getD k []::C.drop (k+1)):=by
  conv=>lhs;rw[<-List.take_append_drop k C]
  congr 1
  rw[List.getD_eq_getElem?_getD,List.getElem?_eq_getElem hk];exact List.drop_eq_getElem_cons hk
 have h2:C.getD k []=(C.getD k []).take j++((C.getD k []).getD j []::(C.getD k []).drop (j+1)):=by
  conv=>lhs;rw[<-List.take_append_drop j (C.getD k [])]
  congr 1
  rw[List.getD_eq_getElem?_getD (l:=C.getD k []),List.getElem?_eq_getElem hj];exact List.drop_eq_getElem_cons hj
 unfold znc;generalize C.getD k []=X at*;generalize X.getD j []=Y at*;refine⟨Y.drop q++(X.drop (j+1)).flatten++(C.drop (k+1)).flatten.flatten,?_⟩;conv=>lhs;rw[h1,h2]
 simp only[List.flatten_append,List.flatten_cons,List.append_assoc];rw[<-List.append_assoc (Y.take q) (Y.drop q),List.take_append_drop]
theorem z4g(hk:k<C.length)(hj:j<(C.getD k []).length):(znc C k j q).flatten.length<=C.flatten.flatten.flatten.length:=by obtain⟨R,e⟩:=z4f (q:=q) hk hj;rw[e,List.flatten_append,List.length_append];omega
end
theorem zwr{L:List zbc}{r:Int}{D:List zex}{gr pr:Int}{E:List Int}(h:(zgr L r D gr pr E).1=0):zgg L r D=0/\zej gr pr E L=0:=by
 unfold zgr at h;by_cases h1:zgg L r D=0
 ·rw[if_neg (by rw[h1];simp)] at h
  by_cases h2:zej gr pr E L=0
  ·exact⟨h1,h2⟩
  ·rw[if_pos h2] at h;exact absurd h h2
 ·rw[if_pos h1] at h;exact absurd h h1
structure Filed(L:List zbc)(r:Int)(b:List Nat)(F:FootS)(C:List (List (List (List Nat))))(own:List Nat):Prop where
 foot:zbq F
 data:zfa F
 cols:F.cols=L
 rows:F.rows=r
 opened:openO b=some (F,own)
 pages:zet F.groups (b.drop 4)=C
 whole:b=zfi C.flatten.flatten.flatten own
 own_:own=zev F
 few:own.length<=1073741824
 bytes:∀x∈b,x<256
 short:b.length<=2147483660
 size:szG F.groups+own.length+12=b.length
theorem qja{L:List zbc}{r:Int}{DD:List zex}{gr pr:Int}{E:List Int}{b:List Nat}(h:WrOk L r (DD.map (·.2.2)) gr pr)(hw:zgr L r DD gr pr E=(0,b)):
 Filed L r b (zem L r E (DD.map (·.2.2)) gr pr) (zqg L E (DD.map (·.2.2)) pr (zdq 0 r gr)) (zev (zem L r E (DD.map (·.2.2)) gr pr))/\ ∀s∈zdq 0 r gr,∀c,c<L.length-> ∀q∈zdq s.1 s.2 pr,(zh7 L E (DD.map (·.2.2)) c q).1=0:=by
 obtain⟨h0,h1⟩:=zwr (L:=L) (r:=r) (D:=DD) (gr:=gr) (pr:=pr) (E:=E) (by rw[hw]);obtain⟨t1,t2,t3,t4,t5,t6,hp,t8,t9⟩:=z4d h hw h0 h1;exact⟨⟨t1,t2,rfl,rfl,t5,t6,t3,rfl,t4,t8,t9,(zfs t8 (by omega) t5).2.2.2.2.1⟩,hp⟩
section
variable{w:World}{Ac:Option Addr}{cc:Nat}{L:List zbc}{r:Int}{Ad:Option Addr}{DD:List zex}{gr pr:Int}{E:List Int}{b:List Nat}
end
structure PageAt(b:List Nat)(F:FootS)(C:List (List (List (List Nat)))):Prop where
 groups:C.length=F.groups.length
 chunks:∀k,k<F.groups.length->(C.getD k []).length=F.cols.length/\(F.groups.getD k zak).2.length=F.cols.length
 pages:∀k j,k<F.groups.length->j<F.cols.length->((C.getD k []).getD j []).length=(zav F.groups k j).length
 page:∀k j q,k<F.groups.length->j<F.cols.length->q<(zav F.groups k j).length->
  zwq b F (k:Int) (j:Int) (q:Int)=some (((C.getD k []).getD j []).getD q [])/\((((C.getD k []).getD j []).getD q []).length:Int)=((zav F.groups k j).getD q zbr).1
 few:C.flatten.flatten.length<=4194304
 bytes:C.flatten.flatten.flatten.length<=2147483660
theorem Filed.at_{L:List zbc}{r:Int}{b:List Nat}{F:FootS}{C:List (List (List (List Nat)))}{own:List Nat}(h:Filed L r b F C own):PageAt b F C:=by
 have hs:4+szG F.groups<=b.length:=by have:=h.size;omega
 have hp:=h.pages;refine⟨by rw[<-hp,zjj],fun k hk=>⟨?_,(zcr h.foot hk).2.1⟩,fun k j hk hj=>?_,fun k j q hk hj hq=>?_,?_,?_⟩
 ·rw[<-hp,ziu _ _ k hk,zlf]
  exact(zcr h.foot hk).2.1
 ·have hj2:j<(F.groups.getD k zak).2.length:=by rw[(zcr h.foot hk).2.1];exact hj
  rw[<-hp,ziu _ _ k hk,Go.Hm.cutC_at _ _ j hj2,zji];rfl
 ·have hj2:j<(F.groups.getD k zak).2.length:=by rw[(zcr h.foot hk).2.1];exact hj
  rw[<-hp];refine⟨z1c h.foot (by omega) hk hj hq,?_⟩;obtain⟨a1,a2,a3⟩:=zv1 hs hk hj2 hq;have hz:=zlj h.foot _ (zai zak hk) _ (zai [] hj2) _ (show(zav F.groups k j).getD q zbr∈zav F.groups k j from zai zbr hq);rw[a3,List.length_take,List.length_drop];omega
 ·have:=z36 h.foot b
  unfold z9h at this;rwa[hp] at this
 ·have h1:=congrArg List.length h.whole
  rw[zhc] at h1;have:=h.short;omega
structure PageBy(b:List Nat)(L:List zbc)(r:Int)(Gs:List GrD)(C:List (List (List (List Nat)))):Prop where
 groups:C.length=Gs.length
 chunks:∀k,k<Gs.length->(C.getD k []).length=L.length/\(Gs.getD k grZ).2.2.2.length=L.length
 pages:∀k j,k<Gs.length->j<L.length->((C.getD k []).getD j []).length=((Gs.getD k grZ).2.2.2.getD j chZ).2.2.length
 page:∀k j q,k<Gs.length->j<L.length->q<((Gs.getD k grZ).2.2.2.getD j chZ).2.2.length->
  zwq b (zbt L r Gs) (k:Int) (j:Int) (q:Int)=some (((C.getD k []).getD j []).getD q [])/\((((C.getD k []).getD j []).getD q []).length:Int)=(((Gs.getD k grZ).2.2.2.getD j chZ).2.2.getD q zbr).1
 few:C.flatten.flatten.length<=4194304
 bytes:C.flatten.flatten.flatten.length<=2147483660
theorem PageAt.by_{b:List Nat}{L:List zbc}{r:Int}{Gs:List GrD}{C:List (List (List (List Nat)))}(h:PageAt b (zbt L r Gs) C):PageBy b L r Gs C:=by
 obtain⟨h1,h2,h3,h4,h5,h6⟩:=h;unfold zbt at h1 h2 h3;dsimp only at h1 h2 h3;simp only[List.length_map] at h1 h2 h3;have hk2:∀k,k<Gs.length->(Gs.getD k grZ).2.2.2.length=L.length:=fun k hk=>by have:=(h2 k hk).2;rw[zbk grP Gs grZ zak hk] at this;unfold grP at this;simpa using this
 have hpa:∀k j,k<Gs.length->j<L.length->zav (Gs.map grP) k j=((Gs.getD k grZ).2.2.2.getD j chZ).2.2:=fun k j hk hj=>by unfold zav;rw[zbk grP Gs grZ zak hk];unfold grP;dsimp only;rw[zbk (fun x:ChD=>x.2.2) _ chZ [] (by rw[hk2 k hk];exact hj)]
 refine⟨h1,fun k hk=>⟨(h2 k hk).1,hk2 k hk⟩,fun k j hk hj=>by rw[h3 k j hk hj,hpa k j hk hj],fun k j q hk hj hq=>?_,h5,h6⟩;have:=h4 k j q (by unfold zbt;simpa using hk) hj (by unfold zbt;dsimp only;rw[hpa k j hk hj];exact hq);have e:zav (zbt L r Gs).groups k j=((Gs.getD k grZ).2.2.2.getD j chZ).2.2:=hpa k j hk hj;rw[e] at this;exact this
structure PgSt(C:List (List (List (List Nat))))(k j q B:Nat)(S:List Nat)(A:Option Addr)(c:Nat)(X:List zix)(w:World):Prop where
 str:S=headL_film++(znc C k j q).flatten
 row:Go.Hm.Own w B 24 (.slice A X.length c) (recs zib X)
 pages:∀d∈X,TR w 5 d.1 d.2.2.length (zao .u8 d.2.2)
 map:X.map byP=znc C k j q
theorem PgSt.later{C:List (List (List (List Nat)))}{k j q B:Nat}{S:List Nat}{A:Option Addr}{c:Nat}{X:List zix}{w w':World}(h:PgSt C k j q B S A c X w)(hb:New w w'):PgSt C k j q B S A c X w':=
 ⟨h.str,h.row.later hb,fun d hd=>(h.pages d hd).below hb,h.map⟩
theorem PgSt.turn{C:List (List (List (List Nat)))}{k j q k' j' q' B:Nat}{S:List Nat}{A:Option Addr}{c:Nat}{X:List zix}{w:World}(h:PgSt C k j q B S A c X w)(e:znc C k j q=znc C k' j' q'):PgSt C k' j' q' B S A c X w:=
 ⟨by rw[<-e];exact h.str,h.row,h.pages,by rw[<-e];exact h.map⟩
theorem PgSt.size{C:List (List (List (List Nat)))}{k j q B:Nat}{S:List Nat}{A:Option Addr}{c:Nat}{X:List zix}{w:World}(h:PgSt C k j q B S A c X w)(hk:k<C.length)(hj:j<(C.getD k []).length):(zad S).size<=4+C.flatten.flatten.flatten.length:=by have h1:=z4g (q:=q) hk hj;rw[zbn,h.str,List.length_append];have:headL_film.length=4:=rfl;omega
theorem PgSt.len{C:List (List (List (List Nat)))}{k j q B:Nat}{S:List Nat}{A:Option Addr}{c:Nat}{X:List zix}{w:World}(h:PgSt C k j q B S A c X w):X.length=(znc C k j q).length:=by rw[<-h.map,List.length_map]
open Go Go.RowKit Go.Hm
theorem qhb{nu:Bool}(c:zab)(h:zae c 0 nu=true):(pgE 0 nu 0 [c]).1=0/\(pgE 0 nu 0 [c]).2.length<=20:=by
 have hr:∀y∈zdy [c],zae y 0 false=true:=zrf (nu:=nu) (fun y hy=>by simp at hy;subst hy;exact h);have hk:zkx 0 (zdy [c])=true:=plOk_iff.2 ⟨⟨by omega,by omega,by have:=ztg [c];simp at this;omega⟩,hr⟩;have hv:zfl 0 0 (zdy [c])=some (plB 0 (zdy [c])):=by unfold zfl;rw[if_pos rfl];unfold plO;rw[if_pos hk]
 have hl:(plB 0 (zdy [c])).length<=8:=by unfold plB;rw[if_neg (by omega)];unfold zdy;cases h0:c.1<;> simp[List.filter,h0,plE,za6]
 have e:encOf 0 0 [c]=0:=by unfold encOf;rw[if_neg (by omega)]
 unfold pgE;rw[if_neg (by simp[fitsV]),if_neg (by simp),if_pos (by simpa using h),e,hv];refine⟨rfl,?_⟩;have hs:(zcx [c]).length<=1:=by unfold zcx;rw[za6,zk9];simp
 cases nu<;> simp[zfz]<;> omega
def s1L:List zbc:=[([97],0,false)]
def s1D:List (List zab):=[[qae 5]]
theorem qhc:zpi s1L:=(zek s1L).1 (by decide)
theorem zr4:zdq 0 1 1=[(0,1)]:=by decide
theorem qjb{DD:List zex}(h:DD.map (·.2.2)=s1D):zgg s1L 1 DD=0:=by
 match DD,h with
 | [(A1,c1,l1)],h=>
   simp only[List.map_cons,List.map_nil,s1D,List.cons.injEq,and_true] at h;obtain rfl:=h;have e1:zcy s1L=0:=by decide
   have e2:zc5 s1L.length 1 [(A1,c1,[qae 5])]=0:=rfl;have e3:zjo [(A1,c1,[qae 5])] s1L=true:=rfl;unfold zgg;rw[e1,e2,e3];rfl
theorem qhd:zej 1 1 [0] s1L=0:=by decide
theorem qjc:WrOk s1L 1 s1D 1 1:=by refine⟨qhc,by decide,rfl,by decide,by decide,?_,by decide⟩;intro l hl c hc;simp only[s1D,List.mem_cons,List.not_mem_nil,or_false] at hl;subst hl;simp only[List.mem_cons,List.not_mem_nil,or_false] at hc;subst hc;unfold zaq;simp[qae]
theorem s1_page:(zh7 s1L [0] s1D 0 (0,1)).1=0/\(zh7 s1L [0] s1D 0 (0,1)).2.length<=20:=qhb (nu:=false) (qae 5) (by decide)
theorem qjd{s q:Int × Int}{c:Nat}(hs:s∈zdq 0 1 1)(hc:c<s1L.length)(hq:q∈zdq s.1 s.2 1):c=0/\q=(0,1):=by rw[zr4] at hs;obtain rfl:=List.mem_singleton.1 hs;dsimp only at hq;rw[zr4] at hq;obtain rfl:=List.mem_singleton.1 hq;have:s1L.length=1:=rfl;exact⟨by omega,rfl⟩
theorem z1d:zqg s1L [0] s1D 1 (zdq 0 1 1)=[[[pgF s1L [0] s1D 0 (0,1)]]]:=by have e1:List.range s1L.length=[0]:=rfl;simp only[zqg,ztv,e1,zr4,List.map_cons,List.map_nil]
theorem z9v:(zev (zem s1L 1 [0] s1D 1 1)).length<=500000:=by
 have hk:=z9t (F:=zem s1L 1 [0] s1D 1 1) (K:=140020) (m:=1) (n:=1) (fun t g hg l hl p hp=>?_) ?_ ?_ (by decide) (by decide)
 ·have e1:(putC [] (zem s1L 1 [0] s1D 1 1).cols).length<=20:=by
   show(putC [] s1L).length<=20;rw[putC,if_pos (by decide)];simp[s1L,zkd,z26,zfz]
  have e2:(zem s1L 1 [0] s1D 1 1).groups.length=1:=by show((zdq 0 1 1).map _).length=1;rw[zr4];rfl
  rw[e2] at hk;omega
 ·obtain⟨s,hs,rfl⟩:=List.mem_map.1 hg
  obtain⟨c,hc,rfl⟩:=List.mem_map.1 hl;obtain⟨q,hq,rfl⟩:=List.mem_map.1 hp;obtain⟨rfl,rfl⟩:=qjd hs (List.mem_range.1 hc) hq;have:=s1_page.2;refine zv9 ?_ ?_
  ·unfold zd5
   dsimp only;omega
  ·unfold zd5
   dsimp only;simp[zb3,s1D]
 ·intro g hg
  obtain⟨s,hs,rfl⟩:=List.mem_map.1 hg;unfold zdt;dsimp only;rw[List.length_map,List.length_range];exact Nat.le_refl _
 ·intro g hg l hl
  obtain⟨s,hs,rfl⟩:=List.mem_map.1 hg;obtain⟨c,hc,rfl⟩:=List.mem_map.1 hl;rw[zr4] at hs;obtain rfl:=List.mem_singleton.1 hs;rw[List.length_map];show(zdq 0 1 1).length<=1;rw[zr4];exact Nat.le_refl _
theorem qdy{DD:List zex}(h:DD.map (·.2.2)=s1D):∃b F own p,zgr s1L 1 DD 1 1 [0]=(0,b)/\Filed s1L 1 b F [[[p]]] own/\p.length<=20/\own.length<=500000:=by
 have hg:∃b,zgr s1L 1 DD 1 1 [0]=(0,b):=by
  refine qdu (by rw[h];exact qjc) (qjb h) qhd ?_ ?_ ?_ ?_
  ·rw[h];decide
  ·rw[h]
   intro s hs c hc q hq;obtain⟨rfl,rfl⟩:=qjd hs hc hq;exact⟨s1_page.1,by have:=s1_page.2;omega⟩
  ·rw[h,z1d]
   have:=s1_page.2;unfold pgF;simp;omega
  ·rw[h]
   exact Nat.le_trans z9v (by decide)
 obtain⟨b,hb⟩:=hg;have hf:=(qja (by rw[h];exact qjc) hb).1;rw[h,z1d] at hf;exact⟨b,_,_,_,hb,hf,s1_page.2,z9v⟩
open Go Go.RowKit Go.Hm
def emB:List Nat:=[72,89,80,79,0,0,0,3,0,0,0,79,80,89,72]
theorem qj5:zfa fz:=⟨by simp[fz],by simp[fz]⟩
theorem qhg:openO emB=some (fz,[0,0,0]):=by have h:=zrr (F:=fz) (body:=[]) qi6 qj5 (by simp[fz,szG]) (by rw[znw];decide) (by rw[znw];decide);rw[znw] at h;exact h
theorem z95(s d:List Nat):lvD s [d]=[zb2 s (leafP 0 1 d)]:=rfl
theorem zy5(s d:List Nat):ovD s [d]=zb2 s (leafP 0 1 d):=by unfold ovD;rw[z95,zf4]
theorem zy6{s:List Nat}(d:List Nat)(hs:1<=s.length/\s.length<=255):ovF s [d]=[zbv s (leafP 0 1 d)]:=by unfold ovF;rw[z95,zf4];have e:za4 s (leafP 0 1 d)=some (zbv s (leafP 0 1 d)):=if_pos ⟨hs.1,hs.2,by rw[zc1];simp⟩;unfold lvF;show([0].flatMap fun(k:Nat)=>(za4 s (leafP (k:Int) 1 ([d].getD k []))).toList)++[]=_;simp only[List.flatMap_cons,List.flatMap_nil,List.append_nil];show(za4 s (leafP 0 1 d)).toList=_;rw[e];rfl
def dg1(p:List Nat):List Nat:=zb2 zcg (leafP 0 1 p)
def dg2(p:List Nat):List Nat:=zb2 zew (leafP 0 1 (dg1 p))
def dg3(p:List Nat):List Nat:=zb2 zei (leafP 0 1 (dg2 p))
theorem zka(p:List Nat):zlr (dg1 p):=zb7 _ _
theorem zkb(p:List Nat):zlr (dg2 p):=zb7 _ _
theorem zy7(p:List Nat):zlr (dg3 p):=zb7 _ _
theorem qjg(p:List Nat):zul [[[p]]]=dg3 p:=by unfold zul zl2;simp only[List.map_cons,List.map_nil];rw[zy5,zy5,zy5];rfl
theorem z96(p:List Nat):(zzp [[[p]]]).length=3:=by unfold zzp zon;simp only[List.map_cons,List.map_nil,List.flatMap_cons,List.flatMap_nil,List.append_nil];rw[zy6 _ ⟨by decide,by decide⟩,zy6 _ ⟨by decide,by decide⟩,zy6 _ ⟨by decide,by decide⟩];rfl
theorem qhh{L:List zbc}{r:Int}{b:List Nat}{F:FootS}{p own:List Nat}(h:Filed L r b F [[[p]]] own):zpt F.groups b own=z16 own (dg3 p)/\(zne F.groups b own).length=4:=by unfold zpt zne;rw[h.pages,qjg];refine⟨rfl,?_⟩;rw[List.length_append,z96];rfl
theorem qhi:zpt fz.groups emB [0,0,0]=zb2 ze3 [[0,0,0],zb2 zbs []]/\(zne fz.groups emB [0,0,0]).length<=2:=by have e:zet fz.groups (emB.drop 4)=[]:=rfl;unfold zpt zne;rw[e];unfold zul zzp ovD ovF;have e2:lvD zei (([]:List (List (List (List Nat)))).map zl2)=[]:=rfl;rw[e2,zih];exact⟨rfl,by simp[zoo,lvF]⟩
theorem qhj:openO []=none:=by unfold openO zph;rw[if_pos (.inl (by simp))]
theorem qjh:zv2 emB/\znz emB=0/\zr6 emB=zb2 ze3 [[0,0,0],zb2 zbs []]/\(zn0 emB).length<=2:=by obtain⟨e1,e2,e3⟩:=z92 qhg;obtain⟨r1,r2⟩:=qhi;exact⟨zgd (by decide) (by decide),e1,by rw[e2,r1],by rw[e3];exact r2⟩
theorem qji:zv2 []/\znz []=2/\zr6 []=List.replicate 32 0/\zn0 []=[]:=by obtain⟨e1,e2,e3⟩:=z1i qhj;exact⟨zgd (by simp) (by simp),e2,e1,e3⟩
theorem qjj{L:List zbc}{r:Int}{b:List Nat}{F:FootS}{p own:List Nat}(h:Filed L r b F [[[p]]] own)(hp:p.length<=20)(ho:own.length<=500000):zv2 b/\znz b=0/\zr6 b=z16 own (dg3 p)/\(zn0 b).length=4:=by
 obtain⟨e1,e2,e3⟩:=z92 h.opened;obtain⟨r1,r2⟩:=qhh h;have hl:b.length<=1000000:=by rw[h.whole,zhc];simp;omega
 exact⟨zgd h.bytes hl,e1,by rw[e2,r1],by rw[e3];exact r2⟩
theorem qd6{b:List Nat}{F:FootS}{p own:List Nat}(h:Filed s1L 1 b F [[[p]]] own):zwq b F 0 0 0=some p:=by
 have hk:F.groups.length=1:=by have:=zjj F.groups (b.drop 4);rw[h.pages] at this;exact this.symm
 have hl:=ziw F.groups (b.drop 4);rw[h.pages] at hl;have hq:(zav F.groups 0 0).length=1:=by
  obtain⟨g,hG⟩:=List.length_eq_one_iff.1 hk;unfold zav;rw[hG] at hl⊢;simp only[List.map_cons,List.map_nil,List.cons.injEq,and_true] at hl;have hg2:g.2.length=1:=by have:=congrArg List.length hl;simpa using this.symm
  obtain⟨l,hg⟩:=List.length_eq_one_iff.1 hg2;rw[hg] at hl;simp only[List.map_cons,List.map_nil,List.cons.injEq,and_true] at hl;show((g.2).getD 0 []).length=1;rw[hg];exact hl.symm
 have:=z1c (b:=b) h.foot (by have:=h.size;omega) (k:=0) (j:=0) (q:=0) (by omega) (by rw[h.cols];decide) (by omega);rw[h.pages] at this;exact this
def qaf(n:Nat):List zex:=[(some ⟨n+1,0,none⟩,1,[qae 5])]
theorem qhk(n:Nat):(qaf n).map (·.2.2)=s1D:=rfl
theorem qd7(W:World):TabIn W none 0 [] none []:=⟨Reads.none_,by simp,by simp,by simp,Reads.none_,by simp,by intro d hd;cases hd⟩
theorem qhl(n:Nat):∀d∈qaf n,∀y∈d.2.2,CellFine y:=by intro d hd y hy;simp only[qaf,List.mem_cons,List.not_mem_nil,or_false] at hd;subst hd;simp only[List.mem_cons,List.not_mem_nil,or_false] at hy;subst hy;unfold CellFine;simp[qae]
set_option maxRecDepth 100000 in
theorem qj6(w:World):TabIn ((((w.alloc (.cells #[.string ⟨#[97]⟩,.int .i64 0,.bool false] 71)).alloc (.cells #[.bool false,.int .i64 5,.string ⟨#[]⟩,.int .i64 0,.int .i64 0] 75)).alloc (.cells #[.slice (some ⟨w.heap.size+1,0,none⟩) 1 1] 76)).alloc (.cells #[.slice (some ⟨w.heap.size,0,none⟩) 1 1,.int .i64 1,.slice (some ⟨w.heap.size+1+1,0,none⟩) 1 1] 56)) (some ⟨w.heap.size,0,none⟩) 1 s1L (some ⟨w.heap.size+1+1,0,none⟩) (qaf w.heap.size)/\New w ((((w.alloc (.cells #[.string ⟨#[97]⟩,.int .i64 0,.bool false] 71)).alloc (.cells #[.bool false,.int .i64 5,.string ⟨#[]⟩,.int .i64 0,.int .i64 0] 75)).alloc (.cells #[.slice (some ⟨w.heap.size+1,0,none⟩) 1 1] 76)).alloc (.cells #[.slice (some ⟨w.heap.size,0,none⟩) 1 1,.int .i64 1,.slice (some ⟨w.heap.size+1+1,0,none⟩) 1 1] 56))/\Blk ((((w.alloc (.cells #[.string ⟨#[97]⟩,.int .i64 0,.bool false] 71)).alloc (.cells #[.bool false,.int .i64 5,.string ⟨#[]⟩,.int .i64 0,.int .i64 0] 75)).alloc (.cells #[.slice (some ⟨w.heap.size+1,0,none⟩) 1 1] 76)).alloc (.cells #[.slice (some ⟨w.heap.size,0,none⟩) 1 1,.int .i64 1,.slice (some ⟨w.heap.size+1+1,0,none⟩) 1 1] 56)) (w.heap.size+1+1+1) 56 #[.slice (some ⟨w.heap.size,0,none⟩) 1 1,.int .i64 1,.slice (some ⟨w.heap.size+1+1,0,none⟩) 1 1]:=by
 obtain⟨W1,h1⟩:∃W,W=w.alloc (.cells #[.string ⟨#[97]⟩,.int .i64 0,.bool false] 71):=⟨_,rfl⟩;obtain⟨W2,h2⟩:∃W,W=W1.alloc (.cells #[.bool false,.int .i64 5,.string ⟨#[]⟩,.int .i64 0,.int .i64 0] 75):=⟨_,rfl⟩;obtain⟨W3,h3⟩:∃W,W=W2.alloc (.cells #[.slice (some ⟨w.heap.size+1,0,none⟩) 1 1] 76):=⟨_,rfl⟩;obtain⟨W4,h4⟩:∃W,W=W3.alloc (.cells #[.slice (some ⟨w.heap.size,0,none⟩) 1 1,.int .i64 1,.slice (some ⟨w.heap.size+1+1,0,none⟩) 1 1] 56):=⟨_,rfl⟩;have e4:((((w.alloc (.cells #[.string ⟨#[97]⟩,.int .i64 0,.bool false] 71)).alloc (.cells #[.bool false,.int .i64 5,.string ⟨#[]⟩,.int .i64 0,.int .i64 0] 75)).alloc (.cells #[.slice (some ⟨w.heap.size+1,0,none⟩) 1 1] 76)).alloc (.cells #[.slice (some ⟨w.heap.size,0,none⟩) 1 1,.int .i64 1,.slice (some ⟨w.heap.size+1+1,0,none⟩) 1 1] 56))=W4:=by rw[h4,h3,h2,h1]
 rw[e4];have s1:W1.heap.size=w.heap.size+1:=by rw[h1,World.size_alloc]
 have s2:W2.heap.size=w.heap.size+1+1:=by rw[h2,World.size_alloc,s1]
 have s3:W3.heap.size=w.heap.size+1+1+1:=by rw[h3,World.size_alloc,s2]
 have b1:New w W1:=by rw[h1];exact zah _ _
 have b2:New W1 W2:=by rw[h2];exact zah _ _
 have b3:New W2 W3:=by rw[h3];exact zah _ _
 have b4:New W3 W4:=by rw[h4];exact zah _ _
 have b24:=New.trans b3 b4;have b14:=New.trans b2 b24;have r1:Reads W1 W1.heap.size 3 (some ⟨w.heap.size,0,none⟩) 1 (recs zls s1L):=by have:=Reads.litR w 71 #[.string ⟨#[97]⟩,.int .i64 0,.bool false] 1 3 (recs zls s1L) rfl rfl;rw[<-h1] at this;exact this
 have r2:Reads W2 W2.heap.size 5 (some ⟨w.heap.size+1,0,none⟩) 1 (recs zay [qae 5]):=by have:=Reads.litR W1 75 #[.bool false,.int .i64 5,.string ⟨#[]⟩,.int .i64 0,.int .i64 0] 1 5 (recs zay [qae 5]) rfl rfl;rw[s1,<-h2] at this;exact this
 have r3:Reads W3 W3.heap.size 1 (some ⟨w.heap.size+1+1,0,none⟩) 1 (recs zk2 (qaf w.heap.size)):=by have:=Reads.litR W2 76 #[.slice (some ⟨w.heap.size+1,0,none⟩) 1 1] 1 1 (recs zk2 (qaf w.heap.size)) rfl rfl;rw[s2,<-h3] at this;exact this
 refine⟨⟨Reads.later r1 b14,by decide,by decide,by decide,Reads.later r3 b4,by simp[qaf],?_⟩,New.trans b1 b14,?_⟩
 ·intro d hd
  simp only[qaf,List.mem_cons,List.not_mem_nil,or_false] at hd;subst hd;exact⟨Reads.later r2 b24,show∀x∈[qae 5],x.2.2.1.length<=140737488351232/\ ∀z∈x.2.2.1,z<256 from by decide,by simp,by simp,by simp⟩
 ·have:=Blk.new W3 56 #[.slice (some ⟨w.heap.size,0,none⟩) 1 1,.int .i64 1,.slice (some ⟨w.heap.size+1+1,0,none⟩) 1 1]
  rw[s3,<-h4] at this;exact this
end Go.Proofs.Y
