/- Merged. -/
import Derived.Test.YtmgfkpnghlmheaaGreatBun43
import Derived.Test.YtmgfkpnghlmheaaGreatBun46
set_option maxHeartbeats 200000
namespace Go.Proofs.Y
open Go.RowKit Go.Hm
structure WrOk(L:List za2)(r:Int)(D:List (List zab))(gr pr:Int):Prop where
 cols:zoz L
 names:∀c∈L,∀z∈c.1,z<256
 len:D.length=L.length
 rows:0<=r/\r<=65536
 all:∀l∈D,((l.length:Nat):Int)=r
 data:∀l∈D,∀c∈l,zai c
 conf:(1<=gr/\gr<=65536)/\1<=pr/\pr<=65536
theorem ztp{D:List (List zab)}(h:∀l∈D,∀c∈l,zai c)(c:Nat)(s:Int × Int):∀y∈zao D c s,zai y:=by
 intro y hy;unfold zao at hy;have hy:=List.mem_of_mem_drop (List.mem_of_mem_take hy);by_cases hc:c<D.length
 ·exact h _ (zan [] hc) y hy
 ·rw[List.getD_eq_getElem?_getD,List.getElem?_eq_none (by omega)] at hy
  cases hy
theorem z3i{t:Int}{l:List zab}(h:∀y∈l,zai y):statData (zjl t l):=by
 have hs:=zjd t l;cases hb:(zjl t l).2.1 with
 |true=>exact⟨h _ (hs.least hb).1.1,h _ (hs.most hb).1.1⟩
 |false=>
  obtain⟨e1,e2⟩:=hs.none hb;have h0:zai zaz:=by unfold zai zaz;simp
  exact⟨by rw[e1];exact h0,by rw[e2];exact h0⟩
theorem z3j{L:List za2}{r:Int}{E:List Int}{D:List (List zab)}{gr pr:Int}(h:WrOk L r D gr pr):zel (zbv L r E D gr pr):=by refine⟨h.names,fun g hg l hl p hp=>?_⟩;obtain⟨s,_,rfl⟩:=List.mem_map.1 hg;obtain⟨c,_,rfl⟩:=List.mem_map.1 hl;obtain⟨q,_,rfl⟩:=List.mem_map.1 hp;exact z3i (ztp h.data c q)
theorem ztq{D D':List (List zab)}(h1:D'.length=D.length)(h2:∀i,i<D.length->D'.getD i []=D.getD i []):D'=D:=by apply List.ext_getElem h1;intro i hi hi';have:=h2 i hi';rwa[List.getD_eq_getElem?_getD,List.getD_eq_getElem?_getD,List.getElem?_eq_getElem hi,List.getElem?_eq_getElem hi'] at this
theorem zl9{L:List za2}{r:Int}{D:List (List zab)}{gr pr:Int}(h:WrOk L r D gr pr){i:Nat}(hi:i<L.length):((zbr 0 r gr).map fun s=>((zbr s.1 s.2 pr).map (zao D i)).flatten).flatten=D.getD i []:=by
 obtain⟨n,rfl⟩:=Int.eq_ofNat_of_zero_le h.rows.1;have hn:=h.rows.2;have hl:=h.all _ (zan [] (show i<D.length by rw[h.len];exact hi));have e1:((zbr 0 (n:Int) gr).map fun s=>((zbr s.1 s.2 pr).map (zao D i)).flatten)=(zbr 0 (n:Int) gr).map (zao D i):=by apply List.map_congr_left;intro s hs;obtain⟨a,b,rfl,h1,h2,h3⟩:=ztn (f:=0) hs;have:=zp2 (D.getD i []) h2 (by omega) h.conf.2.1;unfold zao;rw[this];dsimp only;rw[Int.toNat_natCast,show((b:Int)-(a:Int)).toNat=b-a by omega]
 rw[e1];have:=zp2 (D.getD i []) (f:=0) (t:=n) (by omega) (by omega) h.conf.1.1;unfold zao;rw[show(0:Int)=((0:Nat):Int) from rfl,this,List.drop_zero];exact List.take_of_length_le (by omega)
theorem qh3{L:List za2}{r:Int}{E:List Int}{D:List (List zab)}{gr pr:Int}(h:WrOk L r D gr pr)(hF:zbj (zbv L r E D gr pr))(hp:∀s∈zbr 0 r gr,∀c,c<L.length-> ∀q∈zbr s.1 s.2 pr,(zfo L E D c q).1=0):
 z0g (zbv L r E D gr pr) (zia L E D pr (zbr 0 r gr)).flatten.flatten=some D:=by
 have hr:zdl (zbv L r E D gr pr)=true:=by unfold zdl;simpa using hF
 unfold z0g;rw[if_pos hr];obtain⟨C',h1,h2,h3⟩:=qhz (L:=L) (E:=E) (D:=D) (pr:=pr) (zbr 0 r gr) (List.replicate L.length []) [] (by simp) (fun s hs c hc q hq=>⟨ztp h.data c q,hp s hs c hc q hq⟩);rw[List.append_nil] at h1;have e:ztw (zbv L r E D gr pr) (zia L E D pr (zbr 0 r gr)).flatten.flatten (zbv L r E D gr pr).groups.length=some (C',[]):=by unfold ztw;rw[List.take_length];exact h1
 rw[z0j e,if_pos rfl];congr 1
 refine ztq (by rw[h2,h.len]) fun i hi=>?_
 rw[h.len] at hi;rw[h3 i hi,zl9 h hi,List.getD_eq_getElem?_getD,List.getElem?_replicate,if_pos hi];rfl
theorem z0t{L:List za2}{r:Int}{DD:List zdy}{gr pr:Int}{E:List Int}{b:List Nat}(h:WrOk L r (DD.map (·.2.2)) gr pr)(hw:zf3 L r DD gr pr E=(0,b))(h0:tabCk L r DD=0)(h1:zdg gr pr E L=0):
 zbj (zbv L r E (DD.map (·.2.2)) gr pr)/\zel (zbv L r E (DD.map (·.2.2)) gr pr)/\b=zfd (zia L E (DD.map (·.2.2)) pr (zbr 0 r gr)).flatten.flatten.flatten (zdz (zbv L r E (DD.map (·.2.2)) gr pr))/\
 (zdz (zbv L r E (DD.map (·.2.2)) gr pr)).length<=1073741824/\openO b=some (zbv L r E (DD.map (·.2.2)) gr pr,zdz (zbv L r E (DD.map (·.2.2)) gr pr))/\
 zir (zbv L r E (DD.map (·.2.2)) gr pr).groups (b.drop 4)=zia L E (DD.map (·.2.2)) pr (zbr 0 r gr)/\readO b=some (zbv L r E (DD.map (·.2.2)) gr pr,DD.map (·.2.2))/\(∀x∈b,x<256)/\b.length<=2147483660:=by
 unfold zf3 at hw;rw[if_neg (by rw[h0];simp),if_neg (by rw[h1];simp)] at hw;generalize hD:DD.map (·.2.2)=D at*;split at hw
 ·cases hw
 ·rename_i x hx
  split at hw
  ·cases hw
  ·rename_i own ho
   split at hw
   ·cases hw
   ·rename_i hbig
    unfold zpa at ho;split at ho
    ·rename_i hF
     injection ho with ho;subst ho;injection hw with _ hb;have hok:=zx9 _ x hx;obtain⟨k1,k2⟩:=zwc (zbr 0 r gr) hx;rw[List.nil_append] at k1;rw[k1] at hb hok;have hDa:=z3j (E:=E) h;have h8:=z3e hF hDa;have hcut:=fun R=>z8p (L:=L) (E:=E) (D:=D) (pr:=pr) (zbr 0 r gr) R
     have hop:openO b=some (zbv L r E D gr pr,zdz (zbv L r E D gr pr)):=by rw[<-hb];exact z2m hF hDa (hcut []).2 h8 (by omega)
     have hcg:zir (zbv L r E D gr pr).groups (b.drop 4)=zia L E D pr (zbr 0 r gr):=by
      have e:b.drop 4=(zia L E D pr (zbr 0 r gr)).flatten.flatten.flatten++(zdz (zbv L r E D gr pr)++(low (zdz (zbv L r E D gr pr)).length 4++tailL)):=by rw[<-hb];unfold zfd;exact List.drop_left' (show headL_film.length=4 from rfl)
      rw[e];exact(hcut _).1
     have hb8:∀z∈b,z<256:=by
      rw[<-hb];intro z hz;unfold zfd at hz;rcases List.mem_append.1 hz with hz|hz
      ·simp[headL_film] at hz;omega
      rcases List.mem_append.1 hz with hz|hz
      ·obtain⟨p,hp,hz⟩:=List.mem_flatten.1 hz
       obtain⟨ch,hch,hp⟩:=List.mem_flatten.1 hp;obtain⟨g,hg,hch⟩:=List.mem_flatten.1 hch;obtain⟨s,hs,rfl⟩:=List.mem_map.1 hg;obtain⟨c,hc,rfl⟩:=List.mem_map.1 hch;obtain⟨q,hq,rfl⟩:=List.mem_map.1 hp;exact qd6 (ztp h.data c q) (show pgE _ _ _ _=(0,pgF L E D c q) from Prod.ext (k2 s hs c (List.mem_range.1 hc) q hq) rfl) z hz
      rcases List.mem_append.1 hz with hz|hz
      ·exact h8 z hz
      rcases List.mem_append.1 hz with hz|hz
      ·exact zmb _ _ z hz
      ·simp[tailL] at hz;omega
     refine⟨hF,hDa,hb.symm,by omega,hop,hcg,?_,hb8,?_⟩
     ·unfold readO
      rw[hop];dsimp only;unfold zlg;rw[hcg,qh3 h hF k2]
     ·rw[<-hb,ziu]
      omega
    ·cases ho
open Go.RowKit Go.Hm
section
variable{L:List za2}{E:List Int}{D:List (List zab)}{pr:Int}
theorem qed{c:Nat}:∀(l:List (Int × Int)) (y:List (List Nat) × Int),(∀q∈l,(zfo L E D c q).1=0/\(zfo L E D c q).2.length<=268435456)->y.2+((l.map (pgF L E D c)).flatten.length:Int)<=1073741824-> ∃x,chW L E D c (some y) l=some x/\x.2=y.2+((l.map (pgF L E D c)).flatten.length:Int)
 | [],y,_,_=>⟨y,rfl,by simp⟩
 |q::l,y,h,hz=>by
  have h0:=h q (by simp);rw[List.map_cons,List.flatten_cons,List.length_append] at hz;have e0:(pgF L E D c q).length=(zfo L E D c q).2.length:=rfl;have e:chW L E D c (some y) (q::l)=chW L E D c (pgW L E D c (some y) q) l:=rfl;have e2:pgW L E D c (some y) q=some (y.1++[(zfo L E D c q).2],y.2+(zfo L E D c q).2.length):=by unfold pgW;dsimp only;rw[if_pos ⟨h0.1,h0.2,by omega⟩]
  obtain⟨x,h1,h2⟩:=qed l (y.1++[(zfo L E D c q).2],y.2+(zfo L E D c q).2.length) (fun q' hq'=>h q' (by simp[hq'])) (by dsimp only;omega);refine⟨x,by rw[e,e2,h1],?_⟩;rw[h2,List.map_cons,List.flatten_cons,List.length_append];dsimp only;omega
theorem qee{s:Int × Int}:∀(k:Nat) (y:List (List Nat) × Int),(∀c,c<k-> ∀q∈zbr s.1 s.2 pr,(zfo L E D c q).1=0/\(zfo L E D c q).2.length<=268435456)->y.2+((zli L E D (zbr s.1 s.2 pr) (List.range k)).flatten.flatten.length:Int)<=1073741824->
 ∃x,gpW L E D pr s (some y) k=some x/\x.2=y.2+((zli L E D (zbr s.1 s.2 pr) (List.range k)).flatten.flatten.length:Int)
 |0,y,_,_=>⟨y,rfl,by simp[zli]⟩
 |k+1,y,h,hz=>by
  have e:(zli L E D (zbr s.1 s.2 pr) (List.range (k+1))).flatten.flatten.length=(zli L E D (zbr s.1 s.2 pr) (List.range k)).flatten.flatten.length+((zbr s.1 s.2 pr).map (pgF L E D k)).flatten.length:=by rw[List.range_succ];simp[zli]
  obtain⟨x,h1,h2⟩:=qee k y (fun c hc=>h c (by omega)) (by omega);obtain⟨z,h3,h4⟩:=qed (zbr s.1 s.2 pr) x (h k (by omega)) (by omega);exact⟨z,by rw[gpW,h1,h3],by omega⟩
theorem z8w:∀(l:List (Int × Int)) (y:List (List Nat) × Int),(∀s∈l,∀c,c<L.length-> ∀q∈zbr s.1 s.2 pr,(zfo L E D c q).1=0/\(zfo L E D c q).2.length<=268435456)->y.2+((zia L E D pr l).flatten.flatten.flatten.length:Int)<=1073741824->
 ∃x,l.foldl (grW L E D pr) (some y)=some x
 | [],y,_,_=>⟨y,rfl⟩
 |s::l,y,h,hz=>by
  have e:(zia L E D pr (s::l)).flatten.flatten.flatten.length=(zli L E D (zbr s.1 s.2 pr) (List.range L.length)).flatten.flatten.length+(zia L E D pr l).flatten.flatten.flatten.length:=by simp[zia]
  obtain⟨x,h1,h2⟩:=qee L.length y (h s (by simp)) (by omega);obtain⟨z,h3⟩:=z8w l x (fun s' hs'=>h s' (by simp[hs'])) (by omega);exact⟨z,by rw[List.foldl_cons,grW,h1,h3]⟩
end
theorem zf5{f t:Nat}{s:Int}{q:Int × Int}(h:q∈zbr (f:Int) (t:Int) s):∃a b:Nat,q=((a:Int),(b:Int))/\f<=a/\a<b/\b<=t:=by
 unfold zbr at h;split at h
 ·cases h
 ·rename_i hc
  unfold zgi at h;obtain⟨i,hi,rfl⟩:=List.mem_map.1 h;rw[List.mem_range] at hi;have:=(zgj (f:=(f:Int).toNat) (t:=(t:Int).toNat) (s:=s.toNat) (by omega) i).1 hi;refine⟨_,_,rfl,?_,?_,?_⟩
  ·omega
  ·rw[Nat.succ_mul];omega
  ·omega
theorem zwf(l:List zab):∀(S:List (Int × Int)),(∀q∈S,∃a b:Nat,q=((a:Int),(b:Int))/\a<=b/\b<=l.length)->(S.map fun q=>q.2-q.1).sum=(((S.map fun q=>(l.drop q.1.toNat).take (q.2-q.1).toNat).flatten.length:Nat):Int)
 | [],_=>rfl
 |q::S,h=>by
  obtain⟨a,b,rfl,h1,h2⟩:=h _ (List.mem_cons_self);have ih:=zwf l S fun q hq=>h q (by simp[hq])
  rw[List.map_cons,List.sum_cons,ih,List.map_cons,List.flatten_cons,List.length_append,List.length_take,List.length_drop];dsimp only;omega
theorem z0u{f t:Nat}{s:Int}(h:f<=t)(ht:t<=65536)(hs:1<=s):((zbr (f:Int) (t:Int) s).map fun q=>q.2-q.1).sum=(t:Int)-(f:Int):=by
 rw[zwf (List.replicate t zfs) _ (fun q hq=>by obtain⟨a,b,e,_,h2,h3⟩:=ztn hq;exact⟨a,b,e,h2,by simpa using h3⟩),zp2 _ h ht hs,List.length_take,List.length_drop,List.length_replicate]
 omega
theorem zlj{D:List (List zab)}{c a b:Nat}(h1:a<=b)(h2:b<=(D.getD c []).length):(zao D c ((a:Int),(b:Int))).length=b-a:=by unfold zao;rw[List.length_take,List.length_drop];dsimp only;omega
theorem qc9{L:List za2}{r:Int}{E:List Int}{D:List (List zab)}{gr pr:Int}(h:WrOk L r D gr pr)(hr:∀c,c<L.length-> ∀y∈D.getD c [],zac y (L.getD c zc4).2.1 (L.getD c zc4).2.2=true)
 (hp:∀s∈zbr 0 r gr,∀c,c<L.length-> ∀q∈zbr s.1 s.2 pr,(zfo L E D c q).1=0/\(zfo L E D c q).2.length<=268435456)(hz:(zia L E D pr (zbr 0 r gr)).flatten.flatten.flatten.length<=1073741824):zbj (zbv L r E D gr pr):=by
 obtain⟨n,rfl⟩:=Int.eq_ofNat_of_zero_le h.rows.1;have hn:=h.rows.2;have hlc:∀c,c<L.length->(D.getD c []).length=n:=fun c hc=>by have:=h.all _ (zan [] (show c<D.length by rw[h.len];exact hc));omega
 have hG:∀g∈(zbv L n E D gr pr).groups,GroupOk L g:=by
  intro g hg;obtain⟨s,hs,rfl⟩:=List.mem_map.1 hg;obtain⟨a,b,rfl,h1,h2,h3⟩:=zf5 (f:=0) hs;refine⟨by unfold zb0;dsimp only;omega,by unfold zb0;simp,fun c hc=>?_⟩;have e:(zb0 L E D pr ((a:Int),(b:Int))).2.getD c []=(zbr (a:Int) (b:Int) pr).map (zbu L E D c):=by
   unfold zb0;dsimp only;rw[zba _ _ 0 [] (by rw[List.length_range];exact hc)];have:(List.range L.length).getD c 0=c:=by rw[List.getD_eq_getElem?_getD,List.getElem?_range hc];rfl
   rw[this]
  rw[e];constructor
  ·intro p hpm
   obtain⟨q,hq,rfl⟩:=List.mem_map.1 hpm;have hpq:=hp _ hs c hc q hq;obtain⟨x,y,rfl,k1,k2,k3⟩:=zf5 hq;have hcl:=zlj (D:=D) (c:=c) (show x<=y by omega) (by rw[hlc c hc];omega);obtain⟨_,_,_,_,d,_,hb⟩:=zg7 (show pgE _ _ _ _=(0,(zfo L E D c ((x:Int),(y:Int))).2) from Prod.ext hpq.1 rfl);have hb1:1<=(zfo L E D c ((x:Int),(y:Int))).2.length:=by rw[hb,List.length_cons];omega
   have hst:=zjd (L.getD c zc4).2.1 (zao D c ((x:Int),(y:Int)));have hri:∀z∈zao D c ((x:Int),(y:Int)),zac z (L.getD c zc4).2.1 (L.getD c zc4).2.2=true:=fun z hz=>hr c hc z (by unfold zao at hz;exact List.mem_of_mem_drop (List.mem_of_mem_take hz))
   have htc:=h.cols.2.1 _ (zan zc4 hc);have hn1:=hst.nulls;have hn2:=zil (zao D c ((x:Int),(y:Int)));refine pageB_most.2 ⟨⟨?_,?_,?_,?_⟩,?_⟩
   ·unfold zbu;dsimp only;omega
   ·unfold zbu;dsimp only;omega
   ·unfold zbu;dsimp only;omega
   ·unfold zbu;dsimp only;omega
   ·have hR:=hst.right (fun z hz=>zjc (hri z hz)) ⟨htc.2.2.1,htc.2.2.2⟩ (by omega)
    unfold zbu;dsimp only;rw[show zb5 (L.getD c ([],0,false)).2.1 (zjl (L.getD c zc4).2.1 (zao D c ((x:Int),(y:Int))))=true from hR];simp only[Bool.true_and,Bool.and_eq_true,decide_eq_true_eq,beq_iff_eq,Bool.or_eq_true];refine⟨by omega,?_,?_⟩
    ·cases hb2:(zjl (L.getD c zc4).2.1 (zao D c ((x:Int),(y:Int)))).2.1 with
     |true=>
      obtain⟨z,hz,hz0⟩:=hst.has.1 hb2;have:nullsL (zao D c ((x:Int),(y:Int)))<(zao D c ((x:Int),(y:Int))).length:=by unfold nullsL;exact List.length_filter_lt_length_iff_exists.2 ⟨z,hz,by simpa using hz0⟩
      rw[eq_comm,decide_eq_true_eq];omega
     |false=>
      rw[eq_comm,decide_eq_false_iff_not];intro hlt;have:nullsL (zao D c ((x:Int),(y:Int)))<(zao D c ((x:Int),(y:Int))).length:=by omega
      unfold nullsL at this;obtain⟨z,hz,hz0⟩:=List.length_filter_lt_length_iff_exists.1 this;have:=hst.has.2 ⟨z,hz,by simpa using hz0⟩;rw[hb2] at this;cases this
    ·show(L.getD c zc4).2.2=true\/_
     cases hnu:(L.getD c zc4).2.2 with
     |true=>exact .inl rfl
     |false=>
      right;have:nullsL (zao D c ((x:Int),(y:Int)))=0:=by unfold nullsL;rw[List.length_eq_zero_iff,List.filter_eq_nil_iff];intro z hz hz0;have hzr:=hri z hz;rw[hnu] at hzr;unfold zac at hzr;rw[if_pos hz0] at hzr;simp at hzr
      omega
  ·have e2:∀S:List (Int × Int),(∀q∈S,∃x y:Nat,q=((x:Int),(y:Int))/\x<=y/\y<=n)->zk3 (S.map (zbu L E D c))=(S.map fun q=>q.2-q.1).sum:=by
    intro S;induction S with
    |nil=>intro _;rfl
    |cons q S ih=>
     intro hS;obtain⟨x,y,rfl,k1,k2⟩:=hS _ (List.mem_cons_self);have hcl:=zlj (D:=D) (c:=c) k1 (by rw[hlc c hc];exact k2);rw[List.map_cons,zfm,ih fun q hq=>hS q (by simp[hq]),List.map_cons,List.sum_cons];unfold zbu;dsimp only;omega
   rw[e2 _ (fun q hq=>by obtain⟨x,y,e,k1,k2,k3⟩:=ztn hq;exact⟨x,y,e,k2,by omega⟩),z0u (by omega) (by omega) h.conf.2.1]
   rfl
 refine⟨h.cols,hG,?_,hn,?_⟩
 ·have:=z0u (f:=0) (t:=n) (s:=gr) (by omega) (by omega) h.conf.1.1
  show(((zbr 0 (n:Int) gr).map (zb0 L E D pr)).map (·.1)).sum=(n:Int);rw[List.map_map];have e3:((fun x:za4=>x.1) ∘ zb0 L E D pr)=fun q:Int × Int=>q.2-q.1:=rfl
  rw[e3];simpa using this
 ·have hc:=(z8p (L:=L) (E:=E) (D:=D) (pr:=pr) (zbr 0 (n:Int) gr) []).2
  have:=zxn (G:=(zbv L n E D gr pr).groups) (fun g hg l hl p hpp=>by obtain⟨s,hs,rfl⟩:=List.mem_map.1 hg;obtain⟨c,_,rfl⟩:=List.mem_map.1 hl;obtain⟨q,_,rfl⟩:=List.mem_map.1 hpp;unfold zbu;dsimp only;omega)
  rw[<-this];have e4:(zbv L n E D gr pr).groups=(zbr 0 (n:Int) gr).map (zb0 L E D pr):=rfl;rw[e4,<-hc];omega
theorem z0v{L:List za2}{r:Int}{DD:List zdy}{gr pr:Int}{E:List Int}(h:WrOk L r (DD.map (·.2.2)) gr pr)(h0:tabCk L r DD=0)(h1:zdg gr pr E L=0)(hr:∀c,c<L.length-> ∀y∈(DD.map (·.2.2)).getD c [],zac y (L.getD c zc4).2.1 (L.getD c zc4).2.2=true)
 (hp:∀s∈zbr 0 r gr,∀c,c<L.length-> ∀q∈zbr s.1 s.2 pr,(zfo L E (DD.map (·.2.2)) c q).1=0/\(zfo L E (DD.map (·.2.2)) c q).2.length<=268435456)(hz:(zia L E (DD.map (·.2.2)) pr (zbr 0 r gr)).flatten.flatten.flatten.length<=1073741824)
 (hf:(zdz (zbv L r E (DD.map (·.2.2)) gr pr)).length<=1073741824):∃b,zf3 L r DD gr pr E=(0,b):=by
 have hF:=qc9 h hr hp hz;obtain⟨x,hx⟩:=z8w (zbr 0 r gr) ([],0) hp (by dsimp only;omega);unfold zf3;rw[if_neg (by rw[h0];simp),if_neg (by rw[h1];simp)];have hx:z0d L E (DD.map (·.2.2)) pr (zbr 0 r gr)=some x:=hx;rw[hx];dsimp only;have he:zpa (zbv L r E (DD.map (·.2.2)) gr pr)=some (zdz (zbv L r E (DD.map (·.2.2)) gr pr)):=by unfold zpa;rw[if_pos hF]
 rw[he];dsimp only;rw[if_neg (by omega)];exact⟨_,rfl⟩
open Go.RowKit Go.Hm
theorem zr3{t:Int}{K m:Nat}{l:List zay}(h:∀p∈l,(zen t p).length<=K)(hm:l.length<=m)(h6:m<=65536):(zgm t l).length<=10+m*K:=by
 have key:∀l:List zay,(∀p∈l,(zen t p).length<=K)->(l.flatMap (zen t)).length<=l.length*K:=by
  intro l;induction l with
  |nil=>intro _;simp
  |cons p l ih=>
   intro h;have h1:=h p (by simp);have h2:=ih fun q hq=>h q (by simp[hq])
   rw[List.flatMap_cons,List.length_append,List.length_cons,Nat.succ_mul];omega
 have h1:=key l h;have h2:=zaj (n:=l.length) (by omega);have h3:l.length*K<=m*K:=Nat.mul_le_mul_right _ hm;unfold zgm;rw[List.length_append];omega
theorem zp3{K m:Nat}(h6:m<=65536):∀(cs:List za2) (C:List (List zay)),(∀t,∀l∈C,∀p∈l,(zen t p).length<=K)->(∀l∈C,l.length<=m)->(zbs cs C).length<=C.length*(10+m*K)
 | [],C,_,_=>by simp[zbs]
 |c::cs,[],_,_=>by simp[zbs]
 |c::cs,l::C,h,hm=>by
  have h1:=zr3 (t:=c.2.1) (K:=K) (m:=m) (fun p hp=>h _ l (by simp) p hp) (hm l (by simp)) h6;have h2:=zp3 h6 cs C (fun t l' hl'=>h t l' (by simp[hl'])) (fun l' hl'=>hm l' (by simp[hl']));rw[zbs,List.length_append,List.length_cons,Nat.succ_mul];omega
theorem z8x{F:FootS}{K m n:Nat}(h:∀t,∀g∈F.groups,∀l∈g.2,∀p∈l,(zen t p).length<=K)(hn:∀g∈F.groups,g.2.length<=n)(hm:∀g∈F.groups,∀l∈g.2,l.length<=m)(h6:m<=65536)
 (hr:F.rows.toNat<18446744073709551616)(hg:F.groups.length<18446744073709551616:=by decide)(hg1:∀g∈F.groups,g.1.toNat<18446744073709551616:=by decide):(zdz F).length<=(putC [] F.cols).length+20+F.groups.length*(10+n*(10+m*K)):=by
 have key:∀G:List za4,(∀g∈G,g∈F.groups)->(G.flatMap (zcm F.cols)).length<=G.length*(10+n*(10+m*K)):=by
  intro G;induction G with
  |nil=>intro _;simp
  |cons g G ih=>
   intro hG;have hgF:=hG g (by simp);have h1:=zp3 h6 F.cols g.2 (fun t l hl=>h t g hgF l hl) (hm g hgF);have h2:=ih fun q hq=>hG q (by simp[hq])
   have h3:g.2.length*(10+m*K)<=n*(10+m*K):=Nat.mul_le_mul_right _ (hn g hgF);have h4:=zaj (n:=g.1.toNat) (hg1 g hgF);have h5:(zcm F.cols g).length=(vp g.1.toNat).length+(zbs F.cols g.2).length:=by unfold zcm;rw[List.length_append]
   rw[List.flatMap_cons,List.length_append,List.length_cons,Nat.succ_mul];omega
 have h1:=key F.groups (fun g hg=>hg);have h2:=zaj hr;have h3:=zaj hg;unfold zdz;simp only[List.length_append];omega
def smL_filsp:List za2:=[([110],0,true),([115],2,false)]
def smA:List zab:=[zin 5,nullC,zin 7]
def smB:List zab:=[zfl [97],zfl [98],zfl [98]]
theorem zyg(x:Nat):plO 2 [zfl [x]]=some [1,x]:=by unfold plO;rw[if_pos (by simp[zhs,zfl,zac])];simp[plB,plE,zfl,zez]
theorem qda(x:Nat):ztt [[x]]=some [0,1,x]:=by unfold ztt;rw[if_pos (by simp[z5n,fsum])];simp[zkx,fpiece,shr,zez]
theorem qdb(x:Nat):bestV 2 [zfl [x]]=0:=by
 have v0:zdh 2 0 [zfl [x]]=some [1,x]:=by unfold zdh;rw[if_pos rfl,zyg]
 have v1:∀b,zdh 2 1 [zfl [x]]=some b->2<=b.length:=fun b h=>by
  unfold zdh at h;rw[if_neg (by omega),if_pos rfl] at h;unfold zg2 at h;have e:(ze7 [zfl [x]]).1=[zfl [x]]:=by simp[ze7,zft]
  rw[e,zyg] at h;dsimp only at h;rw[if_pos (by simp)] at h;injection h with h;rw[<-h];simp;omega
 have v4:zdh 2 4 [zfl [x]]=some [0,1,x]:=by unfold zdh;rw[if_neg (by omega),if_neg (by omega),if_pos (by simp[zhs,zfl,zac]),if_neg (by omega),if_neg (by omega)];exact qda x
 have b1:zct 2 [zfl [x]] 1=(0,2):=by rw[zct];rw[if_pos (by decide)];rw[show zdh 2 ((0:Nat):Int) [zfl [x]]=some [1,x] from v0];simp[zct]
 have b2:zct 2 [zfl [x]] 2=(0,2):=by
  rw[zct,b1];rw[if_pos (by decide)];cases h:zdh 2 ((1:Nat):Int) [zfl [x]] with
  |none=>rfl
  |some b=>
   have:=v1 b h;dsimp only;rw[if_neg (by omega)]
 have b3:zct 2 [zfl [x]] 3=(0,2):=by rw[zct,b2,if_neg (by decide)]
 have b4:zct 2 [zfl [x]] 4=(0,2):=by rw[zct,b3,if_neg (by decide)]
 unfold bestV;rw[zct,b4,if_pos (by decide)];have v4':zdh 2 ((4:Nat):Int) [zfl [x]]=some [0,1,x]:=v4;rw[v4'];simp
theorem ztr(x:Nat):pgE 2 false (-1) [zfl [x]]=(0,[0,1,1,x]):=by
 have e:encOf 2 (-1) [zfl [x]]=0:=by unfold encOf;rw[if_pos rfl];exact qdb x
 have ev:zbz [zfl [x]]=[zfl [x]]:=by simp[zbz,zfl]
 unfold pgE;rw[if_neg (by simp),if_neg (by simp),if_pos (by simp[zfl,zac]),e,ev];have v0:zdh 2 0 [zfl [x]]=some [1,x]:=by unfold zdh;rw[if_pos rfl,zyg]
 rw[v0];simp[zez]
theorem zyh(c:zab)(h:zac c 0 true=true):(pgE 0 true 0 [c]).1=0/\(pgE 0 true 0 [c]).2.length<=20:=by
 have hr:∀y∈zbz [c],zac y 0 false=true:=zrc (nu:=true) (fun y hy=>by simp at hy;subst hy;exact h);have hk:zhs 0 (zbz [c])=true:=plOk_iff.2 ⟨⟨by omega,by omega,by have:=znj [c];simp at this;omega⟩,hr⟩;have hv:zdh 0 0 (zbz [c])=some (plB 0 (zbz [c])):=by unfold zdh;rw[if_pos rfl];unfold plO;rw[if_pos hk]
 have hl:(plB 0 (zbz [c])).length<=8:=by unfold plB;rw[if_neg (by omega)];unfold zbz;cases h0:c.1<;> simp[List.filter,h0,plE,zbg]
 have e:encOf 0 0 [c]=0:=by unfold encOf;rw[if_neg (by omega)]
 unfold pgE;rw[if_neg (by simp[fitsV]),if_neg (by simp),if_pos (by simpa using h),e,hv];refine⟨rfl,?_⟩;have hs:(zb3 [c]).length<=1:=by unfold zb3;rw[zbg,zek];simp
 simp[zez];omega
def smE:List Int:=[0,-1]
def smD:List (List zab):=[smA,smB]
theorem qgh:zoz smL_filsp:=(zdt smL_filsp).1 (by decide)
theorem zgo:zbr 0 3 2=[(0,2),(2,3)]:=by decide
theorem zf6:zbr 0 2 1=[(0,1),(1,2)]:=by decide
theorem zp4:zbr 2 3 1=[(2,3)]:=by decide
theorem z8y{DD:List zdy}(h:DD.map (·.2.2)=smD):tabCk smL_filsp 3 DD=0:=by
 match DD,h with
 | [(A1,c1,l1),(A2,c2,l2)],h=>
   simp only[List.map_cons,List.map_nil,smD,List.cons.injEq,and_true] at h;obtain⟨rfl,rfl⟩:=h;have e1:zcu smL_filsp=0:=by decide
   have e2:zc0 smL_filsp.length 3 [(A1,c1,smA),(A2,c2,smB)]=0:=rfl;have e3:zh2 [(A1,c1,smA),(A2,c2,smB)] smL_filsp=true:=rfl;unfold tabCk;rw[e1,e2,e3];rfl
theorem z8z:zdg 2 1 smE smL_filsp=0:=by decide
theorem qh4:WrOk smL_filsp 3 smD 2 1:=by
 refine⟨qgh,by decide,rfl,by decide,by decide,?_,by decide⟩;intro l hl c hc;have:c∈[zin 5,nullC,zin 7,zfl [97],zfl [98],zfl [98]]:=by
  simp only[smD,smA,smB,List.mem_cons,List.not_mem_nil,or_false] at hl;rcases hl with rfl|rfl
  ·simp only[List.mem_cons,List.not_mem_nil,or_false] at hc⊢
   rcases hc with rfl|rfl|rfl<;> simp
  ·simp only[List.mem_cons,List.not_mem_nil,or_false] at hc⊢
   rcases hc with rfl|rfl|rfl<;> simp
 simp only[List.mem_cons,List.not_mem_nil,or_false] at this;unfold zai;rcases this with rfl|rfl|rfl|rfl|rfl|rfl<;> simp[zin,nullC,zfl]
theorem zyi{s q:Int × Int}{c:Nat}(hs:s∈zbr 0 3 2)(hc:c<smL_filsp.length)(hq:q∈zbr s.1 s.2 1):(zfo smL_filsp smE smD c q).1=0/\(zfo smL_filsp smE smD c q).2.length<=20:=by
 have hq2:q=(0,1)\/q=(1,2)\/q=(2,3):=by
  rw[zgo] at hs;simp only[List.mem_cons,List.not_mem_nil,or_false] at hs;rcases hs with rfl|rfl
  ·rw[zf6] at hq
   simp only[List.mem_cons,List.not_mem_nil,or_false] at hq;rcases hq with rfl|rfl<;> simp
  ·rw[zp4] at hq
   simp only[List.mem_cons,List.not_mem_nil,or_false] at hq;subst hq;simp
 have hc2:c=0\/c=1:=by have:smL_filsp.length=2:=rfl;omega
 rcases hc2 with rfl|rfl
 ·rcases hq2 with rfl|rfl|rfl
  ·exact zyh (zin 5) (by decide)
  ·exact zyh nullC (by decide)
  ·exact zyh (zin 7) (by decide)
 ·rcases hq2 with rfl|rfl|rfl
  ·have e:zfo smL_filsp smE smD 1 (0,1)=(0,[0,1,1,97]):=ztr 97
   rw[e];simp
  ·have e:zfo smL_filsp smE smD 1 (1,2)=(0,[0,1,1,98]):=ztr 98
   rw[e];simp
  ·have e:zfo smL_filsp smE smD 1 (2,3)=(0,[0,1,1,98]):=ztr 98
   rw[e];simp
theorem qdc{DD:List zdy}(h:DD.map (·.2.2)=smD):∃b,zf3 smL_filsp 3 DD 2 1 smE=(0,b)/\openO b=some (zbv smL_filsp 3 smE smD 2 1,zdz (zbv smL_filsp 3 smE smD 2 1))/\readO b=some (zbv smL_filsp 3 smE smD 2 1,smD)/\(∀x∈b,x<256)/\b.length<=2147483660/\
 zir (zbv smL_filsp 3 smE smD 2 1).groups (b.drop 4)=zia smL_filsp smE smD 1 (zbr 0 3 2)/\zbj (zbv smL_filsp 3 smE smD 2 1):=by
 have hg:∃b,zf3 smL_filsp 3 DD 2 1 smE=(0,b):=by
  refine z0v (by rw[h];exact qh4) (z8y h) z8z ?_ ?_ ?_ ?_
  ·rw[h];decide
  ·rw[h]
   intro s hs c hc q hq;obtain⟨h1,h2⟩:=zyi hs hc hq;exact⟨h1,by omega⟩
  ·rw[h]
   have hp:=fun s hs c hc q hq=>(@zyi s q c hs hc hq).2
   rw[zgo] at hp⊢;have e:(zia smL_filsp smE smD 1 [(0,2),(2,3)]).flatten.flatten.flatten.length=((pgF smL_filsp smE smD 0 (0,1)).length+(pgF smL_filsp smE smD 0 (1,2)).length+(pgF smL_filsp smE smD 1 (0,1)).length+(pgF smL_filsp smE smD 1 (1,2)).length)+((pgF smL_filsp smE smD 0 (2,3)).length+(pgF smL_filsp smE smD 1 (2,3)).length):=by have e1:List.range smL_filsp.length=[0,1]:=rfl;simp only[zia,zli,e1,List.map_cons,List.map_nil,zf6,zp4];simp;omega
   have a1:=hp (0,2) (by simp) 0 (by decide) (0,1) (by rw[zf6];simp);have a2:=hp (0,2) (by simp) 0 (by decide) (1,2) (by rw[zf6];simp);have a3:=hp (0,2) (by simp) 1 (by decide) (0,1) (by rw[zf6];simp);have a4:=hp (0,2) (by simp) 1 (by decide) (1,2) (by rw[zf6];simp);have a5:=hp (2,3) (by simp) 0 (by decide) (2,3) (by rw[zp4];simp);have a6:=hp (2,3) (by simp) 1 (by decide) (2,3) (by rw[zp4];simp);rw[e];unfold pgF;omega
  ·rw[h]
   have hk:=z8x (F:=zbv smL_filsp 3 smE smD 2 1) (K:=140020) (m:=2) (n:=2) (fun t g hg l hl p hp=>?_) ?_ ?_ (by decide) (by decide)
   ·have e1:(putC [] (zbv smL_filsp 3 smE smD 2 1).cols).length<=20:=by
     show(putC [] smL_filsp).length<=20;rw[putC,if_pos (by decide)];simp[smL_filsp,zkd,z2d,zez]
    have e2:(zbv smL_filsp 3 smE smD 2 1).groups.length=2:=by show((zbr 0 3 2).map _).length=2;rw[zgo];rfl
    rw[e2] at hk;omega
   ·obtain⟨s,hs,rfl⟩:=List.mem_map.1 hg
    obtain⟨c,hc,rfl⟩:=List.mem_map.1 hl;obtain⟨q,hq,rfl⟩:=List.mem_map.1 hp;have:=zyi hs (List.mem_range.1 hc) hq;refine zvl ?_ ?_
    ·unfold zbu
     dsimp only;omega
    ·have hcl:(zao smD c q).length<=65536:=by
      unfold zao;rw[List.length_take,List.length_drop];have hc3:c<2:=List.mem_range.1 hc;have:(smD.getD c []).length=3:=by
       match c,hc3 with
       |0,_=>rfl
       |1,_=>rfl
      omega
     unfold zbu;dsimp only;omega
   ·intro g hg
    obtain⟨s,hs,rfl⟩:=List.mem_map.1 hg;simp[zb0,smL_filsp]
   ·intro g hg l hl
    obtain⟨s,hs,rfl⟩:=List.mem_map.1 hg;obtain⟨c,hc,rfl⟩:=List.mem_map.1 hl;rw[List.length_map];rw[zgo] at hs;simp only[List.mem_cons,List.not_mem_nil,or_false] at hs;rcases hs with rfl|rfl
    ·rw[zf6];simp
    ·rw[zp4];simp
 obtain⟨b,hb⟩:=hg;have:=z0t (by rw[h];exact qh4) hb (z8y h) z8z;rw[h] at this;obtain⟨t1,t2,t3,t4,t5,t6,t7,t8,t9⟩:=this;exact⟨b,hb,t5,t7,t8,t9,t6,t1⟩
open Go Go.RowKit Go.Hm
theorem z0w{F:FootS}{b:List Nat}(h:zbj F)(hb:szG F.groups+4<=b.length){k j q:Nat}(hk:k<F.groups.length)(hj:j<F.cols.length)(hq:q<(zav F.groups k j).length):
 zph b F (k:Int) (j:Int) (q:Int)=some ((((zir F.groups (b.drop 4)).getD k []).getD j []).getD q []):=by
 have hgl:(F.groups.getD k zak).2.length=F.cols.length:=(zco h hk).2.1;have p4:=(zj8 h hk hj hq).2.2.2;have e:=z2g h hk hj (q:=q);have a1:=zs7 hk;have a2:=qd2 F.groups (k+1);have a3:=zs6 (C:=(F.groups.getD k zak).2) (j:=j) (by omega);have a4:=qd1 (F.groups.getD k zak).2 (j+1);have a5:szL ((zav F.groups k j).take (q+1))=_:=zzz hq;have a6:=qd0 (zav F.groups k j) (q+1);have a7:szL ((F.groups.getD k zak).2.getD j [])=szL (zav F.groups k j):=rfl;unfold zph;rw[zz4 h hk hj hq,e];simp only[Int.toNat_natCast];rw[if_neg (by omega),if_neg (by omega)];congr 1
 rw[zis _ _ _ hk,cutC_at _ _ _ (by omega)];rw[show(F.groups.getD k zak).2.getD j []=zav F.groups k j from rfl,zxm _ _ _ hq,List.drop_drop,List.drop_drop,List.drop_drop];congr 2
 omega
theorem z80{F:FootS}{b:List Nat}{k j q:Int}(hn:k<(F.groups.length:Int))(h:inB F.cols.length F.groups.length k j=false\/pgB (zav F.groups k.toNat j.toNat).length q=false):zph b F k j q=none:=by
 have e:zeb F k j q= -1:=by
  unfold zeb;have e1:z6v F.groups.length k j q=false:=by unfold z6v;simp;omega
  rw[e1];rcases h with h|h
  ·rw[h];simp
  ·rw[h];simp
 unfold zph;rw[e,if_pos (.inl (by omega))]
theorem qdd{b:List Nat}(hF:zbj (zbv smL_filsp 3 smE smD 2 1))(hb:szG (zbv smL_filsp 3 smE smD 2 1).groups+4<=b.length)(hc:zir (zbv smL_filsp 3 smE smD 2 1).groups (b.drop 4)=zia smL_filsp smE smD 1 (zbr 0 3 2)):zph b (zbv smL_filsp 3 smE smD 2 1) 0 1 1=some [0,1,1,98]:=by
 have eg:(zbv smL_filsp 3 smE smD 2 1).groups=[zb0 smL_filsp smE smD 1 (0,2),zb0 smL_filsp smE smD 1 (2,3)]:=by show(zbr 0 3 2).map _=_;rw[zgo];rfl
 have ep:zav (zbv smL_filsp 3 smE smD 2 1).groups 0 1=[zbu smL_filsp smE smD 1 (0,1),zbu smL_filsp smE smD 1 (1,2)]:=by unfold zav;rw[eg];show((List.range 2).map fun c=>(zbr 0 2 1).map (zbu smL_filsp smE smD c)).getD 1 []=_;rw[zf6];rfl
 have:=z0w (k:=0) (j:=1) (q:=1) hF hb (by rw[eg];simp) (by simp[zbv,smL_filsp]) (by rw[ep];simp);rw[hc,zgo] at this;have e2:(((zia smL_filsp smE smD 1 [(0,2),(2,3)]).getD 0 []).getD 1 []).getD 1 []=[0,1,1,98]:=by show(((List.range 2).map fun c=>(zbr 0 2 1).map (pgF smL_filsp smE smD c)).getD 1 []).getD 1 []=_;rw[zf6];show pgF smL_filsp smE smD 1 (1,2)=_;have e:zfo smL_filsp smE smD 1 (1,2)=(0,[0,1,1,98]):=ztr 98;unfold pgF;rw[e]
 rw[e2] at this;exact this
theorem qde{b:List Nat}:zph b (zbv smL_filsp 3 smE smD 2 1) 0 1 2=none:=by
 have eg:(zbv smL_filsp 3 smE smD 2 1).groups=[zb0 smL_filsp smE smD 1 (0,2),zb0 smL_filsp smE smD 1 (2,3)]:=by show(zbr 0 3 2).map _=_;rw[zgo];rfl
 have ep:zav (zbv smL_filsp 3 smE smD 2 1).groups 0 1=[zbu smL_filsp smE smD 1 (0,1),zbu smL_filsp smE smD 1 (1,2)]:=by unfold zav;rw[eg];show((List.range 2).map fun c=>(zbr 0 2 1).map (zbu smL_filsp smE smD c)).getD 1 []=_;rw[zf6];rfl
 refine z80 (by rw[eg];simp) (.inr ?_);show pgB (zav (zbv smL_filsp 3 smE smD 2 1).groups 0 1).length 2=false;rw[ep];rfl
theorem qh5{α:Type}{l:List α}(h:l.length=2):∃a b,l=[a,b]:=by
 match l,h with
 | [a,b],_=>exact⟨a,b,rfl⟩
theorem qdf{L:List za2}{r:Int}{G:List GrD}(h:za5 L r G=zbv smL_filsp 3 smE smD 2 1):∃(n0:Int) (A0:Option Addr) (c0:Nat) (x0 x1:ChD) (g1:GrD),G=[(n0,A0,c0,[x0,x1]),g1]/\x0.2.2.length=2:=by
 have hg:G.map grP=[zb0 smL_filsp smE smD 1 (0,2),zb0 smL_filsp smE smD 1 (2,3)]:=by
  have:=congrArg FootS.groups h;have e:(zbv smL_filsp 3 smE smD 2 1).groups=[zb0 smL_filsp smE smD 1 (0,2),zb0 smL_filsp smE smD 1 (2,3)]:=by show(zbr 0 3 2).map _=_;rw[zgo];rfl
  rw[e] at this;exact this
 obtain⟨g0,g1,rfl⟩:=qh5 (l:=G) (by have:=congrArg List.length hg;simpa using this);obtain⟨n0,A0,c0,C⟩:=g0;simp only[List.map_cons,List.map_nil,List.cons.injEq,and_true] at hg;have h2:C.map (·.2.2)=[[zbu smL_filsp smE smD 0 (0,1),zbu smL_filsp smE smD 0 (1,2)],[zbu smL_filsp smE smD 1 (0,1),zbu smL_filsp smE smD 1 (1,2)]]:=by
  have:=congrArg Prod.snd hg.1;have e:(zb0 smL_filsp smE smD 1 (0,2)).2=[[zbu smL_filsp smE smD 0 (0,1),zbu smL_filsp smE smD 0 (1,2)],[zbu smL_filsp smE smD 1 (0,1),zbu smL_filsp smE smD 1 (1,2)]]:=by show((List.range 2).map fun c=>(zbr 0 2 1).map (zbu smL_filsp smE smD c))=_;rw[zf6];rfl
  rw[e] at this;exact this
 obtain⟨x0,x1,rfl⟩:=qh5 (l:=C) (by have:=congrArg List.length h2;simpa using this);simp only[List.map_cons,List.map_nil,List.cons.injEq,and_true] at h2;exact⟨n0,A0,c0,x0,x1,g1,rfl,by rw[h2.1];rfl⟩
theorem zyj(n:Nat):1<=(vp n).length:=by rw[vp];split<;> simp
theorem z81(F:FootS):1<=(zdz F).length:=by have:=zyj F.rows.toNat;unfold zdz;simp only[List.length_append];omega
theorem qh6:(zad [72,89,80,79,0,0,0,3,0,0,0,79,80,89,72]).toList=[72,89,80,79,0,0,0,3,0,0,0,79,80,89,72]:=by rw[zfq];rfl
theorem qh7:(zad [0,1,1,98]).toList=[0,1,1,98]:=by rw[zfq];rfl
theorem qdg:zf3 [] 0 [] 1 1 []=(0,[72,89,80,79,0,0,0,3,0,0,0,79,80,89,72]):=by
 have e1:tabCk [] 0 []=0:=by decide
 have e2:zdg 1 1 [] []=0:=by decide
 have e3:zbr 0 0 1=[]:=by decide
 have e4:zpa fz=some [0,0,0]:=by unfold zpa;rw[if_pos qiq,qc8]
 unfold zf3;rw[if_neg (by rw[e1];simp),if_neg (by rw[e2];simp)];have e5:zbv [] 0 [] (([]:List zdy).map (·.2.2)) 1 1=fz:=by unfold zbv;rw[e3];rfl
 rw[e3,e5,e4];rfl
theorem z82:zdg 0 0 [] smL_filsp=1:=by decide
theorem qgi(body own:List Nat):readO ((zfd body own).drop 1)=none:=by have e:(zfd body own).drop 1=89::(headL_film.drop 2++(body++(own++(low own.length 4++tailL)))):=rfl;unfold readO openO zoy;rw[if_pos (.inr (.inl (by rw[e];simp[headL_film])))]
theorem qh8{DD:List zdy}(h:DD.map (·.2.2)=smD):zf3 smL_filsp 3 DD 0 0 []=(1,[]):=by unfold zf3;rw[if_neg (by rw[z8y h];simp),if_pos (by rw[z82];decide),z82]
end Go.Proofs.Y
