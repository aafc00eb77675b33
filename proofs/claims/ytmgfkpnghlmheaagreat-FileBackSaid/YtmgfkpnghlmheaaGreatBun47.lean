/- Texts merged and made short: FilU, FilX, FilSp, FilY. -/
import Derived.Test.YtmgfkpnghlmheaaGreatBun1
import Derived.Test.YtmgfkpnghlmheaaGreatBun30
import Derived.Test.YtmgfkpnghlmheaaGreatBun43
import Derived.Test.YtmgfkpnghlmheaaGreatBun46
set_option maxHeartbeats 200000
namespace Go.Proofs.YtmgfkpnghlmheaaGreat
open Go.RowKit Go.Hm
structure WrOk(L:List za0)(r:Int)(D:List (List zab))(gr pr:Int):Prop where
 cols:zoo L
 names:∀c∈L,∀z∈c.1,z<256
 len:D.length=L.length
 rows:0≤r∧r≤65536
 all:∀l∈D,((l.length:Nat):Int)=r
 data:∀l∈D,∀c∈l,zai c
 conf:(1≤gr∧gr≤65536)∧1≤pr∧pr≤65536
theorem ztj{D:List (List zab)}(h:∀l∈D,∀c∈l,zai c)(c:Nat)(s:Int × Int):∀y∈zao D c s,zai y:=by
 intro y hy;unfold zao at hy;have hy:=List.mem_of_mem_drop (List.mem_of_mem_take hy);by_cases hc:c<D.length
 ·exact h _ (zan [] hc) y hy
 ·rw[List.getD_eq_getElem?_getD,List.getElem?_eq_none (by omega)] at hy
  cases hy
theorem z3h{t:Int}{l:List zab}(h:∀y∈l,zai y):statData (zly t l):=by
 have hs:=zk0 t l
 cases hb:(zly t l).2.1 with
 |true=>exact⟨h _ (hs.least hb).1.1,h _ (hs.most hb).1.1⟩
 |false=>
  obtain⟨e1,e2⟩:=hs.none hb
  have h0:zai zay:=by unfold zai zay;simp
  exact⟨by rw[e1];exact h0,by rw[e2];exact h0⟩
theorem z3i{L:List za0}{r:Int}{E:List Int}{D:List (List zab)}{gr pr:Int}(h:WrOk L r D gr pr):zgl (zbu L r E D gr pr):=by
 refine⟨h.names,fun g hg l hl p hp=>?_⟩;obtain⟨s,_,rfl⟩:=List.mem_map.1 hg;obtain⟨c,_,rfl⟩:=List.mem_map.1 hl;obtain⟨q,_,rfl⟩:=List.mem_map.1 hp;exact z3h (ztj h.data c q)
theorem ztk{D D':List (List zab)}(h1:D'.length=D.length)(h2:∀i,i<D.length→D'.getD i []=D.getD i []):D'=D:=by
 apply List.ext_getElem h1;intro i hi hi';have:=h2 i hi';rwa[List.getD_eq_getElem?_getD,List.getD_eq_getElem?_getD,List.getElem?_eq_getElem hi,List.getElem?_eq_getElem hi'] at this
theorem zl2{L:List za0}{r:Int}{D:List (List zab)}{gr pr:Int}(h:WrOk L r D gr pr){i:Nat}(hi:i<L.length):((zbq 0 r gr).map fun s=>((zbq s.1 s.2 pr).map (zao D i)).flatten).flatten=D.getD i []:=by
 obtain⟨n,rfl⟩:=Int.eq_ofNat_of_zero_le h.rows.1;have hn:=h.rows.2;have hl:=h.all _ (zan [] (show i<D.length by rw[h.len];exact hi))
 have e1:((zbq 0 (n:Int) gr).map fun s=>((zbq s.1 s.2 pr).map (zao D i)).flatten)=(zbq 0 (n:Int) gr).map (zao D i):=by
  apply List.map_congr_left;intro s hs;obtain⟨a,b,rfl,h1,h2,h3⟩:=zth (f:=0) hs;have:=zpp (D.getD i []) h2 (by omega) h.conf.2.1;unfold zao;rw[this];dsimp only;rw[Int.toNat_natCast,show((b:Int)-(a:Int)).toNat=b-a by omega]
 rw[e1];have:=zpp (D.getD i []) (f:=0) (t:=n) (by omega) (by omega) h.conf.1.1;unfold zao;rw[show(0:Int)=((0:Nat):Int) from rfl,this,List.drop_zero];exact List.take_of_length_le (by omega)
theorem qh1{L:List za0}{r:Int}{E:List Int}{D:List (List zab)}{gr pr:Int}(h:WrOk L r D gr pr)(hF:zbp (zbu L r E D gr pr))(hp:∀s∈zbq 0 r gr,∀c,c<L.length→∀q∈zbq s.1 s.2 pr,(zf0 L E D c q).1=0):
 qd4 (zbu L r E D gr pr) (zh9 L E D pr (zbq 0 r gr)).flatten.flatten=some D:=by
 have hr:zds (zbu L r E D gr pr)=true:=by unfold zds;simpa using hF
 unfold qd4;rw[if_pos hr];obtain⟨C',h1,h2,h3⟩:=qhx (L:=L) (E:=E) (D:=D) (pr:=pr) (zbq 0 r gr) (List.replicate L.length []) [] (by simp) (fun s hs c hc q hq=>⟨ztj h.data c q,hp s hs c hc q hq⟩);rw[List.append_nil] at h1
 have e:zwe (zbu L r E D gr pr) (zh9 L E D pr (zbq 0 r gr)).flatten.flatten (zbu L r E D gr pr).groups.length=some (C',[]):=by
  unfold zwe;rw[List.take_length];exact h1
 rw[z0j e,if_pos rfl]
 congr 1
 refine ztk (by rw[h2,h.len]) fun i hi=>?_
 rw[h.len] at hi;rw[h3 i hi,zl2 h hi,List.getD_eq_getElem?_getD,List.getElem?_replicate,if_pos hi];rfl
theorem z0t{L:List za0}{r:Int}{DD:List zdo}{gr pr:Int}{E:List Int}{b:List Nat}(h:WrOk L r (DD.map (·.2.2)) gr pr)(hw:writeO L r DD gr pr E=(0,b))(h0:zdz L r DD=0)(h1:zcn gr pr E L=0):
 zbp (zbu L r E (DD.map (·.2.2)) gr pr)∧zgl (zbu L r E (DD.map (·.2.2)) gr pr)∧b=zfy (zh9 L E (DD.map (·.2.2)) pr (zbq 0 r gr)).flatten.flatten.flatten (zd9 (zbu L r E (DD.map (·.2.2)) gr pr))∧
 (zd9 (zbu L r E (DD.map (·.2.2)) gr pr)).length≤1073741824∧openO b=some (zbu L r E (DD.map (·.2.2)) gr pr,zd9 (zbu L r E (DD.map (·.2.2)) gr pr))∧
 zi8 (zbu L r E (DD.map (·.2.2)) gr pr).groups (b.drop 4)=zh9 L E (DD.map (·.2.2)) pr (zbq 0 r gr)∧readO b=some (zbu L r E (DD.map (·.2.2)) gr pr,DD.map (·.2.2))∧(∀x∈b,x<256)∧b.length≤2147483660:=by
 unfold writeO at hw;rw[if_neg (by rw[h0];simp),if_neg (by rw[h1];simp)] at hw;generalize hD:DD.map (·.2.2)=D at*;split at hw
 ·cases hw
 ·rename_i x hx
  split at hw
  ·cases hw
  ·rename_i own ho
   split at hw
   ·cases hw
   ·rename_i hbig
    unfold zp3 at ho;split at ho
    ·rename_i hF
     injection ho with ho;subst ho;injection hw with _ hb;have hok:=zx7 _ x hx;obtain⟨k1,k2⟩:=zv7 (zbq 0 r gr) hx;rw[List.nil_append] at k1;rw[k1] at hb hok;have hDa:=z3i (E:=E) h;have h8:=z3d hF hDa
     have hcut:=fun R=>z8l (L:=L) (E:=E) (D:=D) (pr:=pr) (zbq 0 r gr) R
     have hop:openO b=some (zbu L r E D gr pr,zd9 (zbu L r E D gr pr)):=by
      rw[←hb];exact z2k hF hDa (hcut []).2 h8 (by omega)
     have hcg:zi8 (zbu L r E D gr pr).groups (b.drop 4)=zh9 L E D pr (zbq 0 r gr):=by
      have e:b.drop 4=(zh9 L E D pr (zbq 0 r gr)).flatten.flatten.flatten++(zd9 (zbu L r E D gr pr)++(low (zd9 (zbu L r E D gr pr)).length 4++tailL)):=by
       rw[←hb];unfold zfy;exact List.drop_left' (show headL_film.length=4 from rfl)
      rw[e];exact(hcut _).1
     have hb8:∀z∈b,z<256:=by
      rw[←hb];intro z hz;unfold zfy at hz;rcases List.mem_append.1 hz with hz|hz
      ·simp[headL_film] at hz;omega
      rcases List.mem_append.1 hz with hz|hz
      ·obtain⟨p,hp,hz⟩:=List.mem_flatten.1 hz
       obtain⟨ch,hch,hp⟩:=List.mem_flatten.1 hp;obtain⟨g,hg,hch⟩:=List.mem_flatten.1 hch;obtain⟨s,hs,rfl⟩:=List.mem_map.1 hg;obtain⟨c,hc,rfl⟩:=List.mem_map.1 hch;obtain⟨q,hq,rfl⟩:=List.mem_map.1 hp;exact qd2 (ztj h.data c q) (show pgE _ _ _ _=(0,pgF L E D c q) from Prod.ext (k2 s hs c (List.mem_range.1 hc) q hq) rfl) z hz
      rcases List.mem_append.1 hz with hz|hz
      ·exact h8 z hz
      rcases List.mem_append.1 hz with hz|hz
      ·exact zl5 _ _ z hz
      ·simp[tailL] at hz;omega
     refine⟨hF,hDa,hb.symm,by omega,hop,hcg,?_,hb8,?_⟩
     ·unfold readO
      rw[hop];dsimp only;unfold zrr;rw[hcg,qh1 h hF k2]
     ·rw[←hb,zkx]
      omega
    ·cases ho
open Go.RowKit Go.Hm
section
variable{L:List za0}{E:List Int}{D:List (List zab)}{pr:Int}
theorem qd9{c:Nat}:∀(l:List (Int × Int)) (y:List (List Nat) × Int),(∀q∈l,(zf0 L E D c q).1=0∧(zf0 L E D c q).2.length≤268435456)→y.2+((l.map (pgF L E D c)).flatten.length:Int)≤1073741824→∃x,chW L E D c (some y) l=some x∧x.2=y.2+((l.map (pgF L E D c)).flatten.length:Int)
 | [],y,_,_=>⟨y,rfl,by simp⟩
 |q::l,y,h,hz=>by
  have h0:=h q (by simp);rw[List.map_cons,List.flatten_cons,List.length_append] at hz;have e0:(pgF L E D c q).length=(zf0 L E D c q).2.length:=rfl;have e:chW L E D c (some y) (q::l)=chW L E D c (pgW L E D c (some y) q) l:=rfl
  have e2:pgW L E D c (some y) q=some (y.1++[(zf0 L E D c q).2],y.2+(zf0 L E D c q).2.length):=by
   unfold pgW;dsimp only;rw[if_pos ⟨h0.1,h0.2,by omega⟩]
  obtain⟨x,h1,h2⟩:=qd9 l (y.1++[(zf0 L E D c q).2],y.2+(zf0 L E D c q).2.length) (fun q' hq'=>h q' (by simp[hq'])) (by dsimp only;omega);refine⟨x,by rw[e,e2,h1],?_⟩;rw[h2,List.map_cons,List.flatten_cons,List.length_append];dsimp only;omega
theorem qea{s:Int × Int}:∀(k:Nat) (y:List (List Nat) × Int),(∀c,c<k→∀q∈zbq s.1 s.2 pr,(zf0 L E D c q).1=0∧(zf0 L E D c q).2.length≤268435456)→y.2+((zk8 L E D (zbq s.1 s.2 pr) (List.range k)).flatten.flatten.length:Int)≤1073741824→
 ∃x,gpW L E D pr s (some y) k=some x∧x.2=y.2+((zk8 L E D (zbq s.1 s.2 pr) (List.range k)).flatten.flatten.length:Int)
 |0,y,_,_=>⟨y,rfl,by simp[zk8]⟩
 |k+1,y,h,hz=>by
  have e:(zk8 L E D (zbq s.1 s.2 pr) (List.range (k+1))).flatten.flatten.length=(zk8 L E D (zbq s.1 s.2 pr) (List.range k)).flatten.flatten.length+((zbq s.1 s.2 pr).map (pgF L E D k)).flatten.length:=by
   rw[List.range_succ];simp[zk8]
  obtain⟨x,h1,h2⟩:=qea k y (fun c hc=>h c (by omega)) (by omega);obtain⟨z,h3,h4⟩:=qd9 (zbq s.1 s.2 pr) x (h k (by omega)) (by omega);exact⟨z,by rw[gpW,h1,h3],by omega⟩
theorem z8s:∀(l:List (Int × Int)) (y:List (List Nat) × Int),(∀s∈l,∀c,c<L.length→∀q∈zbq s.1 s.2 pr,(zf0 L E D c q).1=0∧(zf0 L E D c q).2.length≤268435456)→y.2+((zh9 L E D pr l).flatten.flatten.flatten.length:Int)≤1073741824→
 ∃x,l.foldl (grW L E D pr) (some y)=some x
 | [],y,_,_=>⟨y,rfl⟩
 |s::l,y,h,hz=>by
  have e:(zh9 L E D pr (s::l)).flatten.flatten.flatten.length=(zk8 L E D (zbq s.1 s.2 pr) (List.range L.length)).flatten.flatten.length+(zh9 L E D pr l).flatten.flatten.flatten.length:=by
   simp[zh9]
  obtain⟨x,h1,h2⟩:=qea L.length y (h s (by simp)) (by omega);obtain⟨z,h3⟩:=z8s l x (fun s' hs'=>h s' (by simp[hs'])) (by omega);exact⟨z,by rw[List.foldl_cons,grW,h1,h3]⟩
end
theorem zf2{f t:Nat}{s:Int}{q:Int × Int}(h:q∈zbq (f:Int) (t:Int) s):∃a b:Nat,q=((a:Int),(b:Int))∧f≤a∧a<b∧b≤t:=by
 unfold zbq at h;split at h
 ·cases h
 ·rename_i hc
  unfold zgg at h;obtain⟨i,hi,rfl⟩:=List.mem_map.1 h;rw[List.mem_range] at hi;have:=(zgh (f:=(f:Int).toNat) (t:=(t:Int).toNat) (s:=s.toNat) (by omega) i).1 hi;refine⟨_,_,rfl,?_,?_,?_⟩
  ·omega
  ·rw[Nat.succ_mul];omega
  ·omega
theorem zwa(l:List zab):∀(S:List (Int × Int)),(∀q∈S,∃a b:Nat,q=((a:Int),(b:Int))∧a≤b∧b≤l.length)→(S.map fun q=>q.2-q.1).sum=(((S.map fun q=>(l.drop q.1.toNat).take (q.2-q.1).toNat).flatten.length:Nat):Int)
 | [],_=>rfl
 |q::S,h=>by
  obtain⟨a,b,rfl,h1,h2⟩:=h _ (List.mem_cons_self)
  have ih:=zwa l S fun q hq=>h q (by simp[hq])
  rw[List.map_cons,List.sum_cons,ih,List.map_cons,List.flatten_cons,List.length_append,List.length_take,List.length_drop];dsimp only;omega
theorem z0u{f t:Nat}{s:Int}(h:f≤t)(ht:t≤65536)(hs:1≤s):((zbq (f:Int) (t:Int) s).map fun q=>q.2-q.1).sum=(t:Int)-(f:Int):=by
 rw[zwa (List.replicate t zfo) _ (fun q hq=>by
  obtain⟨a,b,e,_,h2,h3⟩:=zth hq
  exact⟨a,b,e,h2,by simpa using h3⟩),zpp _ h ht hs,List.length_take,List.length_drop,List.length_replicate]
 omega
theorem zk9{D:List (List zab)}{c a b:Nat}(h1:a≤b)(h2:b≤(D.getD c []).length):(zao D c ((a:Int),(b:Int))).length=b-a:=by
 unfold zao;rw[List.length_take,List.length_drop];dsimp only;omega
theorem qc1{L:List za0}{r:Int}{E:List Int}{D:List (List zab)}{gr pr:Int}(h:WrOk L r D gr pr)(hr:∀c,c<L.length→∀y∈D.getD c [],zac y (L.getD c zdj).2.1 (L.getD c zdj).2.2=true)
 (hp:∀s∈zbq 0 r gr,∀c,c<L.length→∀q∈zbq s.1 s.2 pr,(zf0 L E D c q).1=0∧(zf0 L E D c q).2.length≤268435456)(hz:(zh9 L E D pr (zbq 0 r gr)).flatten.flatten.flatten.length≤1073741824):zbp (zbu L r E D gr pr):=by
 obtain⟨n,rfl⟩:=Int.eq_ofNat_of_zero_le h.rows.1;have hn:=h.rows.2
 have hlc:∀c,c<L.length→(D.getD c []).length=n:=fun c hc=>by
  have:=h.all _ (zan [] (show c<D.length by rw[h.len];exact hc));omega
 have hG:∀g∈(zbu L n E D gr pr).groups,GroupOk L g:=by
  intro g hg;obtain⟨s,hs,rfl⟩:=List.mem_map.1 hg;obtain⟨a,b,rfl,h1,h2,h3⟩:=zf2 (f:=0) hs;refine⟨by unfold zbz;dsimp only;omega,by unfold zbz;simp,fun c hc=>?_⟩
  have e:(zbz L E D pr ((a:Int),(b:Int))).2.getD c []=(zbq (a:Int) (b:Int) pr).map (zbt L E D c):=by
   unfold zbz;dsimp only;rw[zbj _ _ 0 [] (by rw[List.length_range];exact hc)]
   have:(List.range L.length).getD c 0=c:=by rw[List.getD_eq_getElem?_getD,List.getElem?_range hc];rfl
   rw[this]
  rw[e];constructor
  ·intro p hpm
   obtain⟨q,hq,rfl⟩:=List.mem_map.1 hpm;have hpq:=hp _ hs c hc q hq;obtain⟨x,y,rfl,k1,k2,k3⟩:=zf2 hq;have hcl:=zk9 (D:=D) (c:=c) (show x≤y by omega) (by rw[hlc c hc];omega);obtain⟨_,_,_,_,d,_,hb⟩:=zin (show pgE _ _ _ _=(0,(zf0 L E D c ((x:Int),(y:Int))).2) from Prod.ext hpq.1 rfl)
   have hb1:1≤(zf0 L E D c ((x:Int),(y:Int))).2.length:=by rw[hb,List.length_cons];omega
   have hst:=zk0 (L.getD c zdj).2.1 (zao D c ((x:Int),(y:Int)))
   have hri:∀z∈zao D c ((x:Int),(y:Int)),zac z (L.getD c zdj).2.1 (L.getD c zdj).2.2=true:=fun z hz=>hr c hc z (by
    unfold zao at hz
    exact List.mem_of_mem_drop (List.mem_of_mem_take hz))
   have htc:=h.cols.2.1 _ (zan zdj hc);have hn1:=hst.nulls;have hn2:=zij (zao D c ((x:Int),(y:Int)));refine pageB_most.2 ⟨⟨?_,?_,?_,?_⟩,?_⟩
   ·unfold zbt;dsimp only;omega
   ·unfold zbt;dsimp only;omega
   ·unfold zbt;dsimp only;omega
   ·unfold zbt;dsimp only;omega
   ·have hR:=hst.right (fun z hz=>zi9 (hri z hz)) ⟨htc.2.2.1,htc.2.2.2⟩ (by omega)
    unfold zbt;dsimp only;rw[show zb7 (L.getD c ([],0,false)).2.1 (zly (L.getD c zdj).2.1 (zao D c ((x:Int),(y:Int))))=true from hR];simp only[Bool.true_and,Bool.and_eq_true,decide_eq_true_eq,beq_iff_eq,Bool.or_eq_true];refine⟨by omega,?_,?_⟩
    ·cases hb2:(zly (L.getD c zdj).2.1 (zao D c ((x:Int),(y:Int)))).2.1 with
     |true=>
      obtain⟨z,hz,hz0⟩:=hst.has.1 hb2
      have:nullsL (zao D c ((x:Int),(y:Int)))<(zao D c ((x:Int),(y:Int))).length:=by
       unfold nullsL;exact List.length_filter_lt_length_iff_exists.2 ⟨z,hz,by simpa using hz0⟩
      rw[eq_comm,decide_eq_true_eq];omega
     |false=>
      rw[eq_comm,decide_eq_false_iff_not];intro hlt
      have:nullsL (zao D c ((x:Int),(y:Int)))<(zao D c ((x:Int),(y:Int))).length:=by omega
      unfold nullsL at this;obtain⟨z,hz,hz0⟩:=List.length_filter_lt_length_iff_exists.1 this;have:=hst.has.2 ⟨z,hz,by simpa using hz0⟩;rw[hb2] at this;cases this
    ·show(L.getD c zdj).2.2=true∨_
     cases hnu:(L.getD c zdj).2.2 with
     |true=>exact .inl rfl
     |false=>
      right
      have:nullsL (zao D c ((x:Int),(y:Int)))=0:=by
       unfold nullsL;rw[List.length_eq_zero_iff,List.filter_eq_nil_iff];intro z hz hz0;have hzr:=hri z hz;rw[hnu] at hzr;unfold zac at hzr;rw[if_pos hz0] at hzr;simp at hzr
      omega
  ·have e2:∀S:List (Int × Int),(∀q∈S,∃x y:Nat,q=((x:Int),(y:Int))∧x≤y∧y≤n)→zop (S.map (zbt L E D c))=(S.map fun q=>q.2-q.1).sum:=by
    intro S
    induction S with
    |nil=>intro _;rfl
    |cons q S ih=>
     intro hS;obtain⟨x,y,rfl,k1,k2⟩:=hS _ (List.mem_cons_self);have hcl:=zk9 (D:=D) (c:=c) k1 (by rw[hlc c hc];exact k2);rw[List.map_cons,zg6,ih fun q hq=>hS q (by simp[hq]),List.map_cons,List.sum_cons];unfold zbt;dsimp only;omega
   rw[e2 _ (fun q hq=>by
    obtain⟨x,y,e,k1,k2,k3⟩:=zth hq
    exact⟨x,y,e,k2,by omega⟩),z0u (by omega) (by omega) h.conf.2.1]
   rfl
 refine⟨h.cols,hG,?_,hn,?_⟩
 ·have:=z0u (f:=0) (t:=n) (s:=gr) (by omega) (by omega) h.conf.1.1
  show(((zbq 0 (n:Int) gr).map (zbz L E D pr)).map (·.1)).sum=(n:Int);rw[List.map_map]
  have e3:((fun x:za4=>x.1) ∘ zbz L E D pr)=fun q:Int × Int=>q.2-q.1:=rfl
  rw[e3];simpa using this
 ·have hc:=(z8l (L:=L) (E:=E) (D:=D) (pr:=pr) (zbq 0 (n:Int) gr) []).2
  have:=zxj (G:=(zbu L n E D gr pr).groups) (fun g hg l hl p hpp=>by
   obtain⟨s,hs,rfl⟩:=List.mem_map.1 hg;obtain⟨c,_,rfl⟩:=List.mem_map.1 hl;obtain⟨q,_,rfl⟩:=List.mem_map.1 hpp;unfold zbt;dsimp only
   omega)
  rw[←this];have e4:(zbu L n E D gr pr).groups=(zbq 0 (n:Int) gr).map (zbz L E D pr):=rfl;rw[e4,←hc];omega
theorem z0v{L:List za0}{r:Int}{DD:List zdo}{gr pr:Int}{E:List Int}(h:WrOk L r (DD.map (·.2.2)) gr pr)(h0:zdz L r DD=0)(h1:zcn gr pr E L=0)(hr:∀c,c<L.length→∀y∈(DD.map (·.2.2)).getD c [],zac y (L.getD c zdj).2.1 (L.getD c zdj).2.2=true)
 (hp:∀s∈zbq 0 r gr,∀c,c<L.length→∀q∈zbq s.1 s.2 pr,(zf0 L E (DD.map (·.2.2)) c q).1=0∧(zf0 L E (DD.map (·.2.2)) c q).2.length≤268435456)(hz:(zh9 L E (DD.map (·.2.2)) pr (zbq 0 r gr)).flatten.flatten.flatten.length≤1073741824)
 (hf:(zd9 (zbu L r E (DD.map (·.2.2)) gr pr)).length≤1073741824):∃b,writeO L r DD gr pr E=(0,b):=by
 have hF:=qc1 h hr hp hz;obtain⟨x,hx⟩:=z8s (zbq 0 r gr) ([],0) hp (by dsimp only;omega);unfold writeO;rw[if_neg (by rw[h0];simp),if_neg (by rw[h1];simp)];have hx:z0e L E (DD.map (·.2.2)) pr (zbq 0 r gr)=some x:=hx;rw[hx];dsimp only
 have he:zp3 (zbu L r E (DD.map (·.2.2)) gr pr)=some (zd9 (zbu L r E (DD.map (·.2.2)) gr pr)):=by
  unfold zp3;rw[if_pos hF]
 rw[he];dsimp only;rw[if_neg (by omega)];exact⟨_,rfl⟩
open Go.RowKit Go.Hm
theorem zrs{t:Int}{K m:Nat}{l:List zax}(h:∀p∈l,(zeu t p).length≤K)(hm:l.length≤m)(h6:m≤65536):(zgk t l).length≤10+m*K:=by
 have key:∀l:List zax,(∀p∈l,(zeu t p).length≤K)→(l.flatMap (zeu t)).length≤l.length*K:=by
  intro l
  induction l with
  |nil=>intro _;simp
  |cons p l ih=>
   intro h;have h1:=h p (by simp)
   have h2:=ih fun q hq=>h q (by simp[hq])
   rw[List.flatMap_cons,List.length_append,List.length_cons,Nat.succ_mul];omega
 have h1:=key l h;have h2:=zaj (n:=l.length) (by omega);have h3:l.length*K≤m*K:=Nat.mul_le_mul_right _ hm;unfold zgk;rw[List.length_append];omega
theorem zpq{K m:Nat}(h6:m≤65536):∀(cs:List za0) (C:List (List zax)),(∀t,∀l∈C,∀p∈l,(zeu t p).length≤K)→(∀l∈C,l.length≤m)→(zbr cs C).length≤C.length*(10+m*K)
 | [],C,_,_=>by simp[zbr]
 |c::cs,[],_,_=>by simp[zbr]
 |c::cs,l::C,h,hm=>by
  have h1:=zrs (t:=c.2.1) (K:=K) (m:=m) (fun p hp=>h _ l (by simp) p hp) (hm l (by simp)) h6;have h2:=zpq h6 cs C (fun t l' hl'=>h t l' (by simp[hl'])) (fun l' hl'=>hm l' (by simp[hl']));rw[zbr,List.length_append,List.length_cons,Nat.succ_mul];omega
theorem z8t{F:FootS}{K m n:Nat}(h:∀t,∀g∈F.groups,∀l∈g.2,∀p∈l,(zeu t p).length≤K)(hn:∀g∈F.groups,g.2.length≤n)(hm:∀g∈F.groups,∀l∈g.2,l.length≤m)(h6:m≤65536)
 (hr:F.rows.toNat<18446744073709551616)(hg:F.groups.length<18446744073709551616:=by decide)(hg1:∀g∈F.groups,g.1.toNat<18446744073709551616:=by decide):(zd9 F).length≤(putC [] F.cols).length+20+F.groups.length*(10+n*(10+m*K)):=by
 have key:∀G:List za4,(∀g∈G,g∈F.groups)→(G.flatMap (zco F.cols)).length≤G.length*(10+n*(10+m*K)):=by
  intro G
  induction G with
  |nil=>intro _;simp
  |cons g G ih=>
   intro hG;have hgF:=hG g (by simp);have h1:=zpq h6 F.cols g.2 (fun t l hl=>h t g hgF l hl) (hm g hgF)
   have h2:=ih fun q hq=>hG q (by simp[hq])
   have h3:g.2.length*(10+m*K)≤n*(10+m*K):=Nat.mul_le_mul_right _ (hn g hgF);have h4:=zaj (n:=g.1.toNat) (hg1 g hgF)
   have h5:(zco F.cols g).length=(vp g.1.toNat).length+(zbr F.cols g.2).length:=by unfold zco;rw[List.length_append]
   rw[List.flatMap_cons,List.length_append,List.length_cons,Nat.succ_mul];omega
 have h1:=key F.groups (fun g hg=>hg);have h2:=zaj hr;have h3:=zaj hg;unfold zd9;simp only[List.length_append];omega
def smL_filsp:List za0:=[([110],0,true),([115],2,false)]
def smA:List zab:=[zil 5,nullC,zil 7]
def smB:List zab:=[zfk [97],zfk [98],zfk [98]]
theorem zyd(x:Nat):plO 2 [zfk [x]]=some [1,x]:=by
 unfold plO;rw[if_pos (by simp[zhs,zfk,zac])];simp[plB,plE,zfk,ze0]
theorem qc7(x:Nat):zuh [[x]]=some [0,1,x]:=by
 unfold zuh;rw[if_pos (by simp[z5j,fsum])];simp[zmv,fpiece,shr,ze0]
theorem qc8(x:Nat):bestV 2 [zfk [x]]=0:=by
 have v0:zdl 2 0 [zfk [x]]=some [1,x]:=by unfold zdl;rw[if_pos rfl,zyd]
 have v1:∀b,zdl 2 1 [zfk [x]]=some b→2≤b.length:=fun b h=>by
  unfold zdl at h;rw[if_neg (by omega),if_pos rfl] at h;unfold zhu at h
  have e:(ze8 [zfk [x]]).1=[zfk [x]]:=by simp[ze8,zfp]
  rw[e,zyd] at h;dsimp only at h;rw[if_pos (by simp)] at h;injection h with h;rw[←h];simp;omega
 have v4:zdl 2 4 [zfk [x]]=some [0,1,x]:=by
  unfold zdl;rw[if_neg (by omega),if_neg (by omega),if_pos (by simp[zhs,zfk,zac]),if_neg (by omega),if_neg (by omega)];exact qc7 x
 have b1:zcu 2 [zfk [x]] 1=(0,2):=by
  rw[zcu];rw[if_pos (by decide)];rw[show zdl 2 ((0:Nat):Int) [zfk [x]]=some [1,x] from v0];simp[zcu]
 have b2:zcu 2 [zfk [x]] 2=(0,2):=by
  rw[zcu,b1];rw[if_pos (by decide)]
  cases h:zdl 2 ((1:Nat):Int) [zfk [x]] with
  |none=>rfl
  |some b=>
   have:=v1 b h;dsimp only;rw[if_neg (by omega)]
 have b3:zcu 2 [zfk [x]] 3=(0,2):=by
  rw[zcu,b2,if_neg (by decide)]
 have b4:zcu 2 [zfk [x]] 4=(0,2):=by
  rw[zcu,b3,if_neg (by decide)]
 unfold bestV;rw[zcu,b4,if_pos (by decide)];have v4':zdl 2 ((4:Nat):Int) [zfk [x]]=some [0,1,x]:=v4;rw[v4'];simp
theorem ztl(x:Nat):pgE 2 false (-1) [zfk [x]]=(0,[0,1,1,x]):=by
 have e:encOf 2 (-1) [zfk [x]]=0:=by
  unfold encOf;rw[if_pos rfl];exact qc8 x
 have ev:zb1 [zfk [x]]=[zfk [x]]:=by simp[zb1,zfk]
 unfold pgE;rw[if_neg (by simp),if_neg (by simp),if_pos (by simp[zfk,zac]),e,ev]
 have v0:zdl 2 0 [zfk [x]]=some [1,x]:=by unfold zdl;rw[if_pos rfl,zyd]
 rw[v0];simp[ze0]
theorem zye(c:zab)(h:zac c 0 true=true):(pgE 0 true 0 [c]).1=0∧(pgE 0 true 0 [c]).2.length≤20:=by
 have hr:∀y∈zb1 [c],zac y 0 false=true:=zq1 (nu:=true) (fun y hy=>by simp at hy;subst hy;exact h);have hk:zhs 0 (zb1 [c])=true:=plOk_iff.2 ⟨⟨by omega,by omega,by have:=znc [c];simp at this;omega⟩,hr⟩
 have hv:zdl 0 0 (zb1 [c])=some (plB 0 (zb1 [c])):=by
  unfold zdl;rw[if_pos rfl];unfold plO;rw[if_pos hk]
 have hl:(plB 0 (zb1 [c])).length≤8:=by
  unfold plB;rw[if_neg (by omega)];unfold zb1;cases h0:c.1<;> simp[List.filter,h0,plE,zbh]
 have e:encOf 0 0 [c]=0:=by unfold encOf;rw[if_neg (by omega)]
 unfold pgE;rw[if_neg (by simp[fitsV]),if_neg (by simp),if_pos (by simpa using h),e,hv];refine⟨rfl,?_⟩
 have hs:(zb3 [c]).length≤1:=by unfold zb3;rw[zbh,zem];simp
 simp[ze0];omega
def smE:List Int:=[0,-1]
def smD:List (List zab):=[smA,smB]
theorem qgh:zoo smL_filsp:=(zdg smL_filsp).1 (by decide)
theorem zgm:zbq 0 3 2=[(0,2),(2,3)]:=by decide
theorem zf3:zbq 0 2 1=[(0,1),(1,2)]:=by decide
theorem zpr:zbq 2 3 1=[(2,3)]:=by decide
theorem z8u{DD:List zdo}(h:DD.map (·.2.2)=smD):zdz smL_filsp 3 DD=0:=by
 match DD,h with
 | [(A1,c1,l1),(A2,c2,l2)],h=>
   simp only[List.map_cons,List.map_nil,smD,List.cons.injEq,and_true] at h;obtain⟨rfl,rfl⟩:=h
   have e1:zch smL_filsp=0:=by decide
   have e2:zc7 smL_filsp.length 3 [(A1,c1,smA),(A2,c2,smB)]=0:=rfl;have e3:zh1 [(A1,c1,smA),(A2,c2,smB)] smL_filsp=true:=rfl;unfold zdz;rw[e1,e2,e3];rfl
theorem z8v:zcn 2 1 smE smL_filsp=0:=by decide
theorem qh2:WrOk smL_filsp 3 smD 2 1:=by
 refine⟨qgh,by decide,rfl,by decide,by decide,?_,by decide⟩;intro l hl c hc
 have:c∈[zil 5,nullC,zil 7,zfk [97],zfk [98],zfk [98]]:=by
  simp only[smD,smA,smB,List.mem_cons,List.not_mem_nil,or_false] at hl;rcases hl with rfl|rfl
  ·simp only[List.mem_cons,List.not_mem_nil,or_false] at hc⊢
   rcases hc with rfl|rfl|rfl<;> simp
  ·simp only[List.mem_cons,List.not_mem_nil,or_false] at hc⊢
   rcases hc with rfl|rfl|rfl<;> simp
 simp only[List.mem_cons,List.not_mem_nil,or_false] at this;unfold zai;rcases this with rfl|rfl|rfl|rfl|rfl|rfl<;> simp[zil,nullC,zfk]
theorem zyf{s q:Int × Int}{c:Nat}(hs:s∈zbq 0 3 2)(hc:c<smL_filsp.length)(hq:q∈zbq s.1 s.2 1):(zf0 smL_filsp smE smD c q).1=0∧(zf0 smL_filsp smE smD c q).2.length≤20:=by
 have hq2:q=(0,1)∨q=(1,2)∨q=(2,3):=by
  rw[zgm] at hs;simp only[List.mem_cons,List.not_mem_nil,or_false] at hs;rcases hs with rfl|rfl
  ·rw[zf3] at hq
   simp only[List.mem_cons,List.not_mem_nil,or_false] at hq;rcases hq with rfl|rfl<;> simp
  ·rw[zpr] at hq
   simp only[List.mem_cons,List.not_mem_nil,or_false] at hq;subst hq;simp
 have hc2:c=0∨c=1:=by
  have:smL_filsp.length=2:=rfl;omega
 rcases hc2 with rfl|rfl
 ·rcases hq2 with rfl|rfl|rfl
  ·exact zye (zil 5) (by decide)
  ·exact zye nullC (by decide)
  ·exact zye (zil 7) (by decide)
 ·rcases hq2 with rfl|rfl|rfl
  ·have e:zf0 smL_filsp smE smD 1 (0,1)=(0,[0,1,1,97]):=ztl 97
   rw[e];simp
  ·have e:zf0 smL_filsp smE smD 1 (1,2)=(0,[0,1,1,98]):=ztl 98
   rw[e];simp
  ·have e:zf0 smL_filsp smE smD 1 (2,3)=(0,[0,1,1,98]):=ztl 98
   rw[e];simp
theorem qc9{DD:List zdo}(h:DD.map (·.2.2)=smD):∃b,writeO smL_filsp 3 DD 2 1 smE=(0,b)∧openO b=some (zbu smL_filsp 3 smE smD 2 1,zd9 (zbu smL_filsp 3 smE smD 2 1))∧readO b=some (zbu smL_filsp 3 smE smD 2 1,smD)∧(∀x∈b,x<256)∧b.length≤2147483660∧
 zi8 (zbu smL_filsp 3 smE smD 2 1).groups (b.drop 4)=zh9 smL_filsp smE smD 1 (zbq 0 3 2)∧zbp (zbu smL_filsp 3 smE smD 2 1):=by
 have hg:∃b,writeO smL_filsp 3 DD 2 1 smE=(0,b):=by
  refine z0v (by rw[h];exact qh2) (z8u h) z8v ?_ ?_ ?_ ?_
  ·rw[h];decide
  ·rw[h]
   intro s hs c hc q hq;obtain⟨h1,h2⟩:=zyf hs hc hq;exact⟨h1,by omega⟩
  ·rw[h]
   have hp:=fun s hs c hc q hq=>(@zyf s q c hs hc hq).2
   rw[zgm] at hp⊢
   have e:(zh9 smL_filsp smE smD 1 [(0,2),(2,3)]).flatten.flatten.flatten.length=((pgF smL_filsp smE smD 0 (0,1)).length+(pgF smL_filsp smE smD 0 (1,2)).length+(pgF smL_filsp smE smD 1 (0,1)).length+(pgF smL_filsp smE smD 1 (1,2)).length)+((pgF smL_filsp smE smD 0 (2,3)).length+(pgF smL_filsp smE smD 1 (2,3)).length):=by
    have e1:List.range smL_filsp.length=[0,1]:=rfl;simp only[zh9,zk8,e1,List.map_cons,List.map_nil,zf3,zpr];simp;omega
   have a1:=hp (0,2) (by simp) 0 (by decide) (0,1) (by rw[zf3];simp);have a2:=hp (0,2) (by simp) 0 (by decide) (1,2) (by rw[zf3];simp);have a3:=hp (0,2) (by simp) 1 (by decide) (0,1) (by rw[zf3];simp);have a4:=hp (0,2) (by simp) 1 (by decide) (1,2) (by rw[zf3];simp);have a5:=hp (2,3) (by simp) 0 (by decide) (2,3) (by rw[zpr];simp);have a6:=hp (2,3) (by simp) 1 (by decide) (2,3) (by rw[zpr];simp);rw[e];unfold pgF;omega
  ·rw[h]
   have hk:=z8t (F:=zbu smL_filsp 3 smE smD 2 1) (K:=140020) (m:=2) (n:=2) (fun t g hg l hl p hp=>?_) ?_ ?_ (by decide) (by decide)
   ·have e1:(putC [] (zbu smL_filsp 3 smE smD 2 1).cols).length≤20:=by
     show(putC [] smL_filsp).length≤20;rw[putC,if_pos (by decide)];simp[smL_filsp,zj5,z2b,ze0]
    have e2:(zbu smL_filsp 3 smE smD 2 1).groups.length=2:=by
     show((zbq 0 3 2).map _).length=2;rw[zgm];rfl
    rw[e2] at hk;omega
   ·obtain⟨s,hs,rfl⟩:=List.mem_map.1 hg
    obtain⟨c,hc,rfl⟩:=List.mem_map.1 hl;obtain⟨q,hq,rfl⟩:=List.mem_map.1 hp;have:=zyf hs (List.mem_range.1 hc) hq;refine zo0 ?_ ?_
    ·unfold zbt
     dsimp only;omega
    ·have hcl:(zao smD c q).length≤65536:=by
      unfold zao;rw[List.length_take,List.length_drop];have hc3:c<2:=List.mem_range.1 hc
      have:(smD.getD c []).length=3:=by
       match c,hc3 with
       |0,_=>rfl
       |1,_=>rfl
      omega
     unfold zbt;dsimp only;omega
   ·intro g hg
    obtain⟨s,hs,rfl⟩:=List.mem_map.1 hg;simp[zbz,smL_filsp]
   ·intro g hg l hl
    obtain⟨s,hs,rfl⟩:=List.mem_map.1 hg;obtain⟨c,hc,rfl⟩:=List.mem_map.1 hl;rw[List.length_map];rw[zgm] at hs;simp only[List.mem_cons,List.not_mem_nil,or_false] at hs;rcases hs with rfl|rfl
    ·rw[zf3];simp
    ·rw[zpr];simp
 obtain⟨b,hb⟩:=hg;have:=z0t (by rw[h];exact qh2) hb (z8u h) z8v;rw[h] at this;obtain⟨t1,t2,t3,t4,t5,t6,t7,t8,t9⟩:=this;exact⟨b,hb,t5,t7,t8,t9,t6,t1⟩
open Go Go.RowKit Go.Hm
theorem qda{F:FootS}{b:List Nat}(h:zbp F)(hb:szG F.groups+4≤b.length){k j q:Nat}(hk:k<F.groups.length)(hj:j<F.cols.length)(hq:q<(zaz F.groups k j).length):
 zs7 b F (k:Int) (j:Int) (q:Int)=some ((((zi8 F.groups (b.drop 4)).getD k []).getD j []).getD q []):=by
 have hgl:(F.groups.getD k zam).2.length=F.cols.length:=(zec h hk).2.1;have p4:=(zj1 h hk hj hq).2.2.2;have e:=z2e h hk hj (q:=q);have a1:=zsx hk;have a2:=qdy F.groups (k+1);have a3:=zsw (C:=(F.groups.getD k zam).2) (j:=j) (by omega);have a4:=qdx (F.groups.getD k zam).2 (j+1);have a5:szL ((zaz F.groups k j).take (q+1))=_:=zzy hq;have a6:=qdw (zaz F.groups k j) (q+1);have a7:szL ((F.groups.getD k zam).2.getD j [])=szL (zaz F.groups k j):=rfl;unfold zs7;rw[zz5 h hk hj hq,e];simp only[Int.toNat_natCast];rw[if_neg (by omega),if_neg (by omega)]
 congr 1
 rw[zlu _ _ _ hk,zsv _ _ _ (by omega)];rw[show(F.groups.getD k zam).2.getD j []=zaz F.groups k j from rfl,zxi _ _ _ hq,List.drop_drop,List.drop_drop,List.drop_drop]
 congr 2
 omega
theorem z8w{F:FootS}{b:List Nat}{k j q:Int}(hn:k<(F.groups.length:Int))(h:inB F.cols.length F.groups.length k j=false∨pgB (zaz F.groups k.toNat j.toNat).length q=false):zs7 b F k j q=none:=by
 have e:zed F k j q= -1:=by
  unfold zed
  have e1:z6r F.groups.length k j q=false:=by unfold z6r;simp;omega
  rw[e1];rcases h with h|h
  ·rw[h];simp
  ·rw[h];simp
 unfold zs7;rw[e,if_pos (.inl (by omega))]
theorem qdb{b:List Nat}(hF:zbp (zbu smL_filsp 3 smE smD 2 1))(hb:szG (zbu smL_filsp 3 smE smD 2 1).groups+4≤b.length)(hc:zi8 (zbu smL_filsp 3 smE smD 2 1).groups (b.drop 4)=zh9 smL_filsp smE smD 1 (zbq 0 3 2)):zs7 b (zbu smL_filsp 3 smE smD 2 1) 0 1 1=some [0,1,1,98]:=by
 have eg:(zbu smL_filsp 3 smE smD 2 1).groups=[zbz smL_filsp smE smD 1 (0,2),zbz smL_filsp smE smD 1 (2,3)]:=by
  show(zbq 0 3 2).map _=_;rw[zgm];rfl
 have ep:zaz (zbu smL_filsp 3 smE smD 2 1).groups 0 1=[zbt smL_filsp smE smD 1 (0,1),zbt smL_filsp smE smD 1 (1,2)]:=by
  unfold zaz;rw[eg];show((List.range 2).map fun c=>(zbq 0 2 1).map (zbt smL_filsp smE smD c)).getD 1 []=_;rw[zf3];rfl
 have:=qda (k:=0) (j:=1) (q:=1) hF hb (by rw[eg];simp) (by simp[zbu,smL_filsp]) (by rw[ep];simp);rw[hc,zgm] at this
 have e2:(((zh9 smL_filsp smE smD 1 [(0,2),(2,3)]).getD 0 []).getD 1 []).getD 1 []=[0,1,1,98]:=by
  show(((List.range 2).map fun c=>(zbq 0 2 1).map (pgF smL_filsp smE smD c)).getD 1 []).getD 1 []=_;rw[zf3];show pgF smL_filsp smE smD 1 (1,2)=_;have e:zf0 smL_filsp smE smD 1 (1,2)=(0,[0,1,1,98]):=ztl 98;unfold pgF;rw[e]
 rw[e2] at this;exact this
theorem qdc{b:List Nat}:zs7 b (zbu smL_filsp 3 smE smD 2 1) 0 1 2=none:=by
 have eg:(zbu smL_filsp 3 smE smD 2 1).groups=[zbz smL_filsp smE smD 1 (0,2),zbz smL_filsp smE smD 1 (2,3)]:=by
  show(zbq 0 3 2).map _=_;rw[zgm];rfl
 have ep:zaz (zbu smL_filsp 3 smE smD 2 1).groups 0 1=[zbt smL_filsp smE smD 1 (0,1),zbt smL_filsp smE smD 1 (1,2)]:=by
  unfold zaz;rw[eg];show((List.range 2).map fun c=>(zbq 0 2 1).map (zbt smL_filsp smE smD c)).getD 1 []=_;rw[zf3];rfl
 refine z8w (by rw[eg];simp) (.inr ?_);show pgB (zaz (zbu smL_filsp 3 smE smD 2 1).groups 0 1).length 2=false;rw[ep];rfl
theorem qh3{α:Type}{l:List α}(h:l.length=2):∃a b,l=[a,b]:=by
 match l,h with
 | [a,b],_=>exact⟨a,b,rfl⟩
theorem qdd{L:List za0}{r:Int}{G:List GrD}(h:za9 L r G=zbu smL_filsp 3 smE smD 2 1):∃(n0:Int) (A0:Option Addr) (c0:Nat) (x0 x1:ChD) (g1:GrD),G=[(n0,A0,c0,[x0,x1]),g1]∧x0.2.2.length=2:=by
 have hg:G.map grP=[zbz smL_filsp smE smD 1 (0,2),zbz smL_filsp smE smD 1 (2,3)]:=by
  have:=congrArg FootS.groups h
  have e:(zbu smL_filsp 3 smE smD 2 1).groups=[zbz smL_filsp smE smD 1 (0,2),zbz smL_filsp smE smD 1 (2,3)]:=by
   show(zbq 0 3 2).map _=_;rw[zgm];rfl
  rw[e] at this;exact this
 obtain⟨g0,g1,rfl⟩:=qh3 (l:=G) (by have:=congrArg List.length hg;simpa using this);obtain⟨n0,A0,c0,C⟩:=g0;simp only[List.map_cons,List.map_nil,List.cons.injEq,and_true] at hg
 have h2:C.map (·.2.2)=[[zbt smL_filsp smE smD 0 (0,1),zbt smL_filsp smE smD 0 (1,2)],[zbt smL_filsp smE smD 1 (0,1),zbt smL_filsp smE smD 1 (1,2)]]:=by
  have:=congrArg Prod.snd hg.1
  have e:(zbz smL_filsp smE smD 1 (0,2)).2=[[zbt smL_filsp smE smD 0 (0,1),zbt smL_filsp smE smD 0 (1,2)],[zbt smL_filsp smE smD 1 (0,1),zbt smL_filsp smE smD 1 (1,2)]]:=by
   show((List.range 2).map fun c=>(zbq 0 2 1).map (zbt smL_filsp smE smD c))=_;rw[zf3];rfl
  rw[e] at this;exact this
 obtain⟨x0,x1,rfl⟩:=qh3 (l:=C) (by have:=congrArg List.length h2;simpa using this);simp only[List.map_cons,List.map_nil,List.cons.injEq,and_true] at h2;exact⟨n0,A0,c0,x0,x1,g1,rfl,by rw[h2.1];rfl⟩
theorem zyg(n:Nat):1≤(vp n).length:=by
 rw[vp];split<;> simp
theorem z8x(F:FootS):1≤(zd9 F).length:=by
 have:=zyg F.rows.toNat;unfold zd9;simp only[List.length_append];omega
theorem qh4:(zae [72,89,80,79,0,0,0,3,0,0,0,79,80,89,72]).toList=[72,89,80,79,0,0,0,3,0,0,0,79,80,89,72]:=by rw[zfm];rfl
theorem qh5:(zae [0,1,1,98]).toList=[0,1,1,98]:=by rw[zfm];rfl
theorem qde:writeO [] 0 [] 1 1 []=(0,[72,89,80,79,0,0,0,3,0,0,0,79,80,89,72]):=by
 have e1:zdz [] 0 []=0:=by decide
 have e2:zcn 1 1 [] []=0:=by decide
 have e3:zbq 0 0 1=[]:=by decide
 have e4:zp3 fz=some [0,0,0]:=by
  unfold zp3;rw[if_pos qiq,qc0]
 unfold writeO;rw[if_neg (by rw[e1];simp),if_neg (by rw[e2];simp)]
 have e5:zbu [] 0 [] (([]:List zdo).map (·.2.2)) 1 1=fz:=by unfold zbu;rw[e3];rfl
 rw[e3,e5,e4];rfl
theorem z8y:zcn 0 0 [] smL_filsp=1:=by decide
theorem qgi(body own:List Nat):readO ((zfy body own).drop 1)=none:=by
 have e:(zfy body own).drop 1=89::(headL_film.drop 2++(body++(own++(low own.length 4++tailL)))):=rfl;unfold readO openO zon;rw[if_pos (.inr (.inl (by rw[e];simp[headL_film])))]
theorem qh6{DD:List zdo}(h:DD.map (·.2.2)=smD):writeO smL_filsp 3 DD 0 0 []=(1,[]):=by
 unfold writeO;rw[if_neg (by rw[z8u h];simp),if_pos (by rw[z8y];decide),z8y]
end Go.Proofs.YtmgfkpnghlmheaaGreat
