/- Merged. -/
import Derived.Test.YtmgfkpnghlmheaaGreatBun45
import Derived.Test.YtmgfkpnghlmheaaGreatBun47
set_option maxHeartbeats 200000
namespace Go.Proofs.Y
open Go.RowKit Go.Hm
structure WrOk(L:List za1)(r:Int)(D:List (List zab))(gr pr:Int):Prop where
 cols:zos L
 names:∀c∈L,∀z∈c.1,z<256
 len:D.length=L.length
 rows:0<=r/\r<=65536
 all:∀l∈D,((l.length:Nat):Int)=r
 data:∀l∈D,∀c∈l,zai c
 conf:(1<=gr/\gr<=65536)/\1<=pr/\pr<=65536
theorem zyn{D:List (List zab)}(h:∀l∈D,∀c∈l,zai c)(c:Nat)(s:Int × Int):∀y∈zbb D c s,zai y:=by
 intro y hy;unfold zbb at hy;have hy:=List.mem_of_mem_drop (List.mem_of_mem_take hy);by_cases hc:c<D.length
 ·exact h _ (zal [] hc) y hy
 ·rw[List.getD_eq_getElem?_getD,List.getElem?_eq_none (by omega)] at hy
  cases hy
theorem z3v{t:Int}{l:List zab}(h:∀y∈l,zai y):statData (zls t l):=by
 have hs:=zkz t l;cases hb:(zls t l).2.1 with
 |true=>exact⟨h _ (hs.least hb).1.1,h _ (hs.most hb).1.1⟩
 |false=>
  obtain⟨e1,e2⟩:=hs.none hb;have h0:zai zaz:=by unfold zai zaz;simp
  exact⟨by rw[e1];exact h0,by rw[e2];exact h0⟩
theorem z3w{L:List za1}{r:Int}{E:List Int}{D:List (List zab)}{gr pr:Int}(h:WrOk L r D gr pr):zfm (zb8 L r E D gr pr):=by refine⟨h.names,fun g hg l hl p hp=>?_⟩;obtain⟨s,_,rfl⟩:=List.mem_map.1 hg;obtain⟨c,_,rfl⟩:=List.mem_map.1 hl;obtain⟨q,_,rfl⟩:=List.mem_map.1 hp;exact z3v (zyn h.data c q)
theorem ztp{D D':List (List zab)}(h1:D'.length=D.length)(h2:∀i,i<D.length->D'.getD i []=D.getD i []):D'=D:=by apply List.ext_getElem h1;intro i hi hi';have:=h2 i hi';rwa[List.getD_eq_getElem?_getD,List.getD_eq_getElem?_getD,List.getElem?_eq_getElem hi,List.getElem?_eq_getElem hi'] at this
theorem z3x{L:List za1}{r:Int}{D:List (List zab)}{gr pr:Int}(h:WrOk L r D gr pr){i:Nat}(hi:i<L.length):((zcq 0 r gr).map fun s=>((zcq s.1 s.2 pr).map (zbb D i)).flatten).flatten=D.getD i []:=by
 obtain⟨n,rfl⟩:=Int.eq_ofNat_of_zero_le h.rows.1;have hn:=h.rows.2;have hl:=h.all _ (zal [] (show i<D.length by rw[h.len];exact hi));have e1:((zcq 0 (n:Int) gr).map fun s=>((zcq s.1 s.2 pr).map (zbb D i)).flatten)=(zcq 0 (n:Int) gr).map (zbb D i):=by apply List.map_congr_left;intro s hs;obtain⟨a,b,rfl,h1,h2,h3⟩:=zto (f:=0) hs;have:=zpt (D.getD i []) h2 (by omega) h.conf.2.1;unfold zbb;rw[this];dsimp only;rw[Int.toNat_natCast,show((b:Int)-(a:Int)).toNat=b-a by omega]
 rw[e1];have:=zpt (D.getD i []) (f:=0) (t:=n) (by omega) (by omega) h.conf.1.1;unfold zbb;rw[show(0:Int)=((0:Nat):Int) from rfl,this,List.drop_zero];exact List.take_of_length_le (by omega)
theorem qh5{L:List za1}{r:Int}{E:List Int}{D:List (List zab)}{gr pr:Int}(h:WrOk L r D gr pr)(hF:zbj (zb8 L r E D gr pr))(hp:∀s∈zcq 0 r gr,∀c,c<L.length-> ∀q∈zcq s.1 s.2 pr,(zgo L E D c q).1=0):
 qc1 (zb8 L r E D gr pr) (zjk L E D pr (zcq 0 r gr)).flatten.flatten=some D:=by
 have hr:zc9 (zb8 L r E D gr pr)=true:=by unfold zc9;simpa using hF
 unfold qc1;rw[if_pos hr];obtain⟨C',h1,h2,h3⟩:=qh1 (L:=L) (E:=E) (D:=D) (pr:=pr) (zcq 0 r gr) (List.replicate L.length []) [] (by simp) (fun s hs c hc q hq=>⟨zyn h.data c q,hp s hs c hc q hq⟩);rw[List.append_nil] at h1;have e:zwo (zb8 L r E D gr pr) (zjk L E D pr (zcq 0 r gr)).flatten.flatten (zb8 L r E D gr pr).groups.length=some (C',[]):=by unfold zwo;rw[List.take_length];exact h1
 rw[z0z e,if_pos rfl];congr 1
 refine ztp (by rw[h2,h.len]) fun i hi=>?_
 rw[h.len] at hi;rw[h3 i hi,z3x h hi,List.getD_eq_getElem?_getD,List.getElem?_replicate,if_pos hi];rfl
theorem z1b{L:List za1}{r:Int}{DD:List zdw}{gr pr:Int}{E:List Int}{b:List Nat}(h:WrOk L r (DD.map (·.2.2)) gr pr)(hw:zfc L r DD gr pr E=(0,b))(h0:zfo L r DD=0)(h1:zdv gr pr E L=0):
 zbj (zb8 L r E (DD.map (·.2.2)) gr pr)/\zfm (zb8 L r E (DD.map (·.2.2)) gr pr)/\b=zfe (zjk L E (DD.map (·.2.2)) pr (zcq 0 r gr)).flatten.flatten.flatten (zei (zb8 L r E (DD.map (·.2.2)) gr pr))/\
 (zei (zb8 L r E (DD.map (·.2.2)) gr pr)).length<=1073741824/\openO b=some (zb8 L r E (DD.map (·.2.2)) gr pr,zei (zb8 L r E (DD.map (·.2.2)) gr pr))/\
 zh7 (zb8 L r E (DD.map (·.2.2)) gr pr).groups (b.drop 4)=zjk L E (DD.map (·.2.2)) pr (zcq 0 r gr)/\readO b=some (zb8 L r E (DD.map (·.2.2)) gr pr,DD.map (·.2.2))/\(∀x∈b,x<256)/\b.length<=2147483660:=by
 unfold zfc at hw;rw[if_neg (by rw[h0];simp),if_neg (by rw[h1];simp)] at hw;generalize hD:DD.map (·.2.2)=D at*;split at hw
 ·cases hw
 ·rename_i x hx
  split at hw
  ·cases hw
  ·rename_i own ho
   split at hw
   ·cases hw
   ·rename_i hbig
    unfold zp7 at ho;split at ho
    ·rename_i hF
     injection ho with ho;subst ho;injection hw with _ hb;have hok:=zyg _ x hx;obtain⟨k1,k2⟩:=zwf (zcq 0 r gr) hx;rw[List.nil_append] at k1;rw[k1] at hb hok;have hDa:=z3w (E:=E) h;have h8:=z3r hF hDa;have hcut:=fun R=>z84 (L:=L) (E:=E) (D:=D) (pr:=pr) (zcq 0 r gr) R
     have hop:openO b=some (zb8 L r E D gr pr,zei (zb8 L r E D gr pr)):=by rw[<-hb];exact z2z hF hDa (hcut []).2 h8 (by omega)
     have hcg:zh7 (zb8 L r E D gr pr).groups (b.drop 4)=zjk L E D pr (zcq 0 r gr):=by
      have e:b.drop 4=(zjk L E D pr (zcq 0 r gr)).flatten.flatten.flatten++(zei (zb8 L r E D gr pr)++(low (zei (zb8 L r E D gr pr)).length 4++tailL)):=by rw[<-hb];unfold zfe;exact List.drop_left' (show headL_film.length=4 from rfl)
      rw[e];exact(hcut _).1
     have hb8:∀z∈b,z<256:=by
      rw[<-hb];intro z hz;unfold zfe at hz;rcases List.mem_append.1 hz with hz|hz
      ·simp[headL_film] at hz;omega
      rcases List.mem_append.1 hz with hz|hz
      ·obtain⟨p,hp,hz⟩:=List.mem_flatten.1 hz
       obtain⟨ch,hch,hp⟩:=List.mem_flatten.1 hp;obtain⟨g,hg,hch⟩:=List.mem_flatten.1 hch;obtain⟨s,hs,rfl⟩:=List.mem_map.1 hg;obtain⟨c,hc,rfl⟩:=List.mem_map.1 hch;obtain⟨q,hq,rfl⟩:=List.mem_map.1 hp;exact qd7 (zyn h.data c q) (show pgE _ _ _ _=(0,pgF L E D c q) from Prod.ext (k2 s hs c (List.mem_range.1 hc) q hq) rfl) z hz
      rcases List.mem_append.1 hz with hz|hz
      ·exact h8 z hz
      rcases List.mem_append.1 hz with hz|hz
      ·exact zlx _ _ z hz
      ·simp[tailL] at hz;omega
     refine⟨hF,hDa,hb.symm,by omega,hop,hcg,?_,hb8,?_⟩
     ·unfold readO
      rw[hop];dsimp only;unfold zmk;rw[hcg,qh5 h hF k2]
     ·rw[<-hb,zio]
      omega
    ·cases ho
open Go.RowKit Go.Hm
section
variable{L:List za1}{E:List Int}{D:List (List zab)}{pr:Int}
theorem qed{c:Nat}:∀(l:List (Int × Int)) (y:List (List Nat) × Int),(∀q∈l,(zgo L E D c q).1=0/\(zgo L E D c q).2.length<=268435456)->y.2+((l.map (pgF L E D c)).flatten.length:Int)<=1073741824-> ∃x,chW L E D c (some y) l=some x/\x.2=y.2+((l.map (pgF L E D c)).flatten.length:Int)
 | [],y,_,_=>⟨y,rfl,by simp⟩
 |q::l,y,h,hz=>by
  have h0:=h q (by simp);rw[List.map_cons,List.flatten_cons,List.length_append] at hz;have e0:(pgF L E D c q).length=(zgo L E D c q).2.length:=rfl;have e:chW L E D c (some y) (q::l)=chW L E D c (pgW L E D c (some y) q) l:=rfl;have e2:pgW L E D c (some y) q=some (y.1++[(zgo L E D c q).2],y.2+(zgo L E D c q).2.length):=by unfold pgW;dsimp only;rw[if_pos ⟨h0.1,h0.2,by omega⟩]
  obtain⟨x,h1,h2⟩:=qed l (y.1++[(zgo L E D c q).2],y.2+(zgo L E D c q).2.length) (fun q' hq'=>h q' (by simp[hq'])) (by dsimp only;omega);refine⟨x,by rw[e,e2,h1],?_⟩;rw[h2,List.map_cons,List.flatten_cons,List.length_append];dsimp only;omega
theorem qee{s:Int × Int}:∀(k:Nat) (y:List (List Nat) × Int),(∀c,c<k-> ∀q∈zcq s.1 s.2 pr,(zgo L E D c q).1=0/\(zgo L E D c q).2.length<=268435456)->y.2+((znk L E D (zcq s.1 s.2 pr) (List.range k)).flatten.flatten.length:Int)<=1073741824->
 ∃x,gpW L E D pr s (some y) k=some x/\x.2=y.2+((znk L E D (zcq s.1 s.2 pr) (List.range k)).flatten.flatten.length:Int)
 |0,y,_,_=>⟨y,rfl,by simp[znk]⟩
 |k+1,y,h,hz=>by
  have e:(znk L E D (zcq s.1 s.2 pr) (List.range (k+1))).flatten.flatten.length=(znk L E D (zcq s.1 s.2 pr) (List.range k)).flatten.flatten.length+((zcq s.1 s.2 pr).map (pgF L E D k)).flatten.length:=by rw[List.range_succ];simp[znk]
  obtain⟨x,h1,h2⟩:=qee k y (fun c hc=>h c (by omega)) (by omega);obtain⟨z,h3,h4⟩:=qed (zcq s.1 s.2 pr) x (h k (by omega)) (by omega);exact⟨z,by rw[gpW,h1,h3],by omega⟩
theorem z9b:∀(l:List (Int × Int)) (y:List (List Nat) × Int),(∀s∈l,∀c,c<L.length-> ∀q∈zcq s.1 s.2 pr,(zgo L E D c q).1=0/\(zgo L E D c q).2.length<=268435456)->y.2+((zjk L E D pr l).flatten.flatten.flatten.length:Int)<=1073741824->
 ∃x,l.foldl (grW L E D pr) (some y)=some x
 | [],y,_,_=>⟨y,rfl⟩
 |s::l,y,h,hz=>by
  have e:(zjk L E D pr (s::l)).flatten.flatten.flatten.length=(znk L E D (zcq s.1 s.2 pr) (List.range L.length)).flatten.flatten.length+(zjk L E D pr l).flatten.flatten.flatten.length:=by simp[zjk]
  obtain⟨x,h1,h2⟩:=qee L.length y (h s (by simp)) (by omega);obtain⟨z,h3⟩:=z9b l x (fun s' hs'=>h s' (by simp[hs'])) (by omega);exact⟨z,by rw[List.foldl_cons,grW,h1,h3]⟩
end
theorem zwi{f t:Nat}{s:Int}{q:Int × Int}(h:q∈zcq (f:Int) (t:Int) s):∃a b:Nat,q=((a:Int),(b:Int))/\f<=a/\a<b/\b<=t:=by
 unfold zcq at h;split at h
 ·cases h
 ·rename_i hc
  unfold zgl at h;obtain⟨i,hi,rfl⟩:=List.mem_map.1 h;rw[List.mem_range] at hi;have:=(zgm (f:=(f:Int).toNat) (t:=(t:Int).toNat) (s:=s.toNat) (by omega) i).1 hi;refine⟨_,_,rfl,?_,?_,?_⟩
  ·omega
  ·rw[Nat.succ_mul];omega
  ·omega
theorem zwj(l:List zab):∀(S:List (Int × Int)),(∀q∈S,∃a b:Nat,q=((a:Int),(b:Int))/\a<=b/\b<=l.length)->(S.map fun q=>q.2-q.1).sum=(((S.map fun q=>(l.drop q.1.toNat).take (q.2-q.1).toNat).flatten.length:Nat):Int)
 | [],_=>rfl
 |q::S,h=>by
  obtain⟨a,b,rfl,h1,h2⟩:=h _ (List.mem_cons_self);have ih:=zwj l S fun q hq=>h q (by simp[hq])
  rw[List.map_cons,List.sum_cons,ih,List.map_cons,List.flatten_cons,List.length_append,List.length_take,List.length_drop];dsimp only;omega
theorem z1c{f t:Nat}{s:Int}(h:f<=t)(ht:t<=65536)(hs:1<=s):((zcq (f:Int) (t:Int) s).map fun q=>q.2-q.1).sum=(t:Int)-(f:Int):=by
 rw[zwj (List.replicate t zh4) _ (fun q hq=>by obtain⟨a,b,e,_,h2,h3⟩:=zto hq;exact⟨a,b,e,h2,by simpa using h3⟩),zpt _ h ht hs,List.length_take,List.length_drop,List.length_replicate]
 omega
theorem zwk{D:List (List zab)}{c a b:Nat}(h1:a<=b)(h2:b<=(D.getD c []).length):(zbb D c ((a:Int),(b:Int))).length=b-a:=by unfold zbb;rw[List.length_take,List.length_drop];dsimp only;omega
theorem qdf{L:List za1}{r:Int}{E:List Int}{D:List (List zab)}{gr pr:Int}(h:WrOk L r D gr pr)(hr:∀c,c<L.length-> ∀y∈D.getD c [],zaf y (L.getD c zdo).2.1 (L.getD c zdo).2.2=true)
 (hp:∀s∈zcq 0 r gr,∀c,c<L.length-> ∀q∈zcq s.1 s.2 pr,(zgo L E D c q).1=0/\(zgo L E D c q).2.length<=268435456)(hz:(zjk L E D pr (zcq 0 r gr)).flatten.flatten.flatten.length<=1073741824):zbj (zb8 L r E D gr pr):=by
 obtain⟨n,rfl⟩:=Int.eq_ofNat_of_zero_le h.rows.1;have hn:=h.rows.2;have hlc:∀c,c<L.length->(D.getD c []).length=n:=fun c hc=>by have:=h.all _ (zal [] (show c<D.length by rw[h.len];exact hc));omega
 have hG:∀g∈(zb8 L n E D gr pr).groups,GroupOk L g:=by
  intro g hg;obtain⟨s,hs,rfl⟩:=List.mem_map.1 hg;obtain⟨a,b,rfl,h1,h2,h3⟩:=zwi (f:=0) hs;refine⟨by unfold zb7;dsimp only;omega,by unfold zb7;simp,fun c hc=>?_⟩;have e:(zb7 L E D pr ((a:Int),(b:Int))).2.getD c []=(zcq (a:Int) (b:Int) pr).map (zbw L E D c):=by
   unfold zb7;dsimp only;rw[zbe _ _ 0 [] (by rw[List.length_range];exact hc)];have:(List.range L.length).getD c 0=c:=by rw[List.getD_eq_getElem?_getD,List.getElem?_range hc];rfl
   rw[this]
  rw[e];constructor
  ·intro p hpm
   obtain⟨q,hq,rfl⟩:=List.mem_map.1 hpm;have hpq:=hp _ hs c hc q hq;obtain⟨x,y,rfl,k1,k2,k3⟩:=zwi hq;have hcl:=zwk (D:=D) (c:=c) (show x<=y by omega) (by rw[hlc c hc];omega);obtain⟨_,_,_,_,d,_,hb⟩:=zik (show pgE _ _ _ _=(0,(zgo L E D c ((x:Int),(y:Int))).2) from Prod.ext hpq.1 rfl);have hb1:1<=(zgo L E D c ((x:Int),(y:Int))).2.length:=by rw[hb,List.length_cons];omega
   have hst:=zkz (L.getD c zdo).2.1 (zbb D c ((x:Int),(y:Int)));have hri:∀z∈zbb D c ((x:Int),(y:Int)),zaf z (L.getD c zdo).2.1 (L.getD c zdo).2.2=true:=fun z hz=>hr c hc z (by unfold zbb at hz;exact List.mem_of_mem_drop (List.mem_of_mem_take hz))
   have htc:=h.cols.2.1 _ (zal zdo hc);have hn1:=hst.nulls;have hn2:=zih (zbb D c ((x:Int),(y:Int)));refine pageB_most.2 ⟨⟨?_,?_,?_,?_⟩,?_⟩
   ·unfold zbw;dsimp only;omega
   ·unfold zbw;dsimp only;omega
   ·unfold zbw;dsimp only;omega
   ·unfold zbw;dsimp only;omega
   ·have hR:=hst.right (fun z hz=>zlr (hri z hz)) ⟨htc.2.2.1,htc.2.2.2⟩ (by omega)
    unfold zbw;dsimp only;rw[show zbu (L.getD c ([],0,false)).2.1 (zls (L.getD c zdo).2.1 (zbb D c ((x:Int),(y:Int))))=true from hR];simp only[Bool.true_and,Bool.and_eq_true,decide_eq_true_eq,beq_iff_eq,Bool.or_eq_true];refine⟨by omega,?_,?_⟩
    ·cases hb2:(zls (L.getD c zdo).2.1 (zbb D c ((x:Int),(y:Int)))).2.1 with
     |true=>
      obtain⟨z,hz,hz0⟩:=hst.has.1 hb2;have:nullsL (zbb D c ((x:Int),(y:Int)))<(zbb D c ((x:Int),(y:Int))).length:=by unfold nullsL;exact List.length_filter_lt_length_iff_exists.2 ⟨z,hz,by simpa using hz0⟩
      rw[eq_comm,decide_eq_true_eq];omega
     |false=>
      rw[eq_comm,decide_eq_false_iff_not];intro hlt;have:nullsL (zbb D c ((x:Int),(y:Int)))<(zbb D c ((x:Int),(y:Int))).length:=by omega
      unfold nullsL at this;obtain⟨z,hz,hz0⟩:=List.length_filter_lt_length_iff_exists.1 this;have:=hst.has.2 ⟨z,hz,by simpa using hz0⟩;rw[hb2] at this;cases this
    ·show(L.getD c zdo).2.2=true\/_
     cases hnu:(L.getD c zdo).2.2 with
     |true=>exact .inl rfl
     |false=>
      right;have:nullsL (zbb D c ((x:Int),(y:Int)))=0:=by unfold nullsL;rw[List.length_eq_zero_iff,List.filter_eq_nil_iff];intro z hz hz0;have hzr:=hri z hz;rw[hnu] at hzr;unfold zaf at hzr;rw[if_pos hz0] at hzr;simp at hzr
      omega
  ·have e2:∀S:List (Int × Int),(∀q∈S,∃x y:Nat,q=((x:Int),(y:Int))/\x<=y/\y<=n)->zjd (S.map (zbw L E D c))=(S.map fun q=>q.2-q.1).sum:=by
    intro S;induction S with
    |nil=>intro _;rfl
    |cons q S ih=>
     intro hS;obtain⟨x,y,rfl,k1,k2⟩:=hS _ (List.mem_cons_self);have hcl:=zwk (D:=D) (c:=c) k1 (by rw[hlc c hc];exact k2);rw[List.map_cons,zey,ih fun q hq=>hS q (by simp[hq]),List.map_cons,List.sum_cons];unfold zbw;dsimp only;omega
   rw[e2 _ (fun q hq=>by obtain⟨x,y,e,k1,k2,k3⟩:=zto hq;exact⟨x,y,e,k2,by omega⟩),z1c (by omega) (by omega) h.conf.2.1]
   rfl
 refine⟨h.cols,hG,?_,hn,?_⟩
 ·have:=z1c (f:=0) (t:=n) (s:=gr) (by omega) (by omega) h.conf.1.1
  show(((zcq 0 (n:Int) gr).map (zb7 L E D pr)).map (·.1)).sum=(n:Int);rw[List.map_map];have e3:((fun x:za5=>x.1) ∘ zb7 L E D pr)=fun q:Int × Int=>q.2-q.1:=rfl
  rw[e3];simpa using this
 ·have hc:=(z84 (L:=L) (E:=E) (D:=D) (pr:=pr) (zcq 0 (n:Int) gr) []).2
  have:=zxs (G:=(zb8 L n E D gr pr).groups) (fun g hg l hl p hpp=>by obtain⟨s,hs,rfl⟩:=List.mem_map.1 hg;obtain⟨c,_,rfl⟩:=List.mem_map.1 hl;obtain⟨q,_,rfl⟩:=List.mem_map.1 hpp;unfold zbw;dsimp only;omega)
  rw[<-this];have e4:(zb8 L n E D gr pr).groups=(zcq 0 (n:Int) gr).map (zb7 L E D pr):=rfl;rw[e4,<-hc];omega
theorem qdg{L:List za1}{r:Int}{DD:List zdw}{gr pr:Int}{E:List Int}(h:WrOk L r (DD.map (·.2.2)) gr pr)(h0:zfo L r DD=0)(h1:zdv gr pr E L=0)(hr:∀c,c<L.length-> ∀y∈(DD.map (·.2.2)).getD c [],zaf y (L.getD c zdo).2.1 (L.getD c zdo).2.2=true)
 (hp:∀s∈zcq 0 r gr,∀c,c<L.length-> ∀q∈zcq s.1 s.2 pr,(zgo L E (DD.map (·.2.2)) c q).1=0/\(zgo L E (DD.map (·.2.2)) c q).2.length<=268435456)(hz:(zjk L E (DD.map (·.2.2)) pr (zcq 0 r gr)).flatten.flatten.flatten.length<=1073741824)
 (hf:(zei (zb8 L r E (DD.map (·.2.2)) gr pr)).length<=1073741824):∃b,zfc L r DD gr pr E=(0,b):=by
 have hF:=qdf h hr hp hz;obtain⟨x,hx⟩:=z9b (zcq 0 r gr) ([],0) hp (by dsimp only;omega);unfold zfc;rw[if_neg (by rw[h0];simp),if_neg (by rw[h1];simp)];have hx:z0u L E (DD.map (·.2.2)) pr (zcq 0 r gr)=some x:=hx;rw[hx];dsimp only;have he:zp7 (zb8 L r E (DD.map (·.2.2)) gr pr)=some (zei (zb8 L r E (DD.map (·.2.2)) gr pr)):=by unfold zp7;rw[if_pos hF]
 rw[he];dsimp only;rw[if_neg (by omega)];exact⟨_,rfl⟩
open Go.RowKit Go.Hm
theorem z3y{t:Int}{K m:Nat}{l:List zax}(h:∀p∈l,(zfl t p).length<=K)(hm:l.length<=m)(h6:m<=65536):(zgn t l).length<=10+m*K:=by
 have key:∀l:List zax,(∀p∈l,(zfl t p).length<=K)->(l.flatMap (zfl t)).length<=l.length*K:=by
  intro l;induction l with
  |nil=>intro _;simp
  |cons p l ih=>
   intro h;have h1:=h p (by simp);have h2:=ih fun q hq=>h q (by simp[hq])
   rw[List.flatMap_cons,List.length_append,List.length_cons,Nat.succ_mul];omega
 have h1:=key l h;have h2:=zap (n:=l.length) (by omega);have h3:l.length*K<=m*K:=Nat.mul_le_mul_right _ hm;unfold zgn;rw[List.length_append];omega
theorem zpu{K m:Nat}(h6:m<=65536):∀(cs:List za1) (C:List (List zax)),(∀t,∀l∈C,∀p∈l,(zfl t p).length<=K)->(∀l∈C,l.length<=m)->(zb6 cs C).length<=C.length*(10+m*K)
 | [],C,_,_=>by simp[zb6]
 |c::cs,[],_,_=>by simp[zb6]
 |c::cs,l::C,h,hm=>by
  have h1:=z3y (t:=c.2.1) (K:=K) (m:=m) (fun p hp=>h _ l (by simp) p hp) (hm l (by simp)) h6;have h2:=zpu h6 cs C (fun t l' hl'=>h t l' (by simp[hl'])) (fun l' hl'=>hm l' (by simp[hl']));rw[zb6,List.length_append,List.length_cons,Nat.succ_mul];omega
theorem z9c{F:FootS}{K m n:Nat}(h:∀t,∀g∈F.groups,∀l∈g.2,∀p∈l,(zfl t p).length<=K)(hn:∀g∈F.groups,g.2.length<=n)(hm:∀g∈F.groups,∀l∈g.2,l.length<=m)(h6:m<=65536)
 (hr:F.rows.toNat<18446744073709551616)(hg:F.groups.length<18446744073709551616:=by decide)(hg1:∀g∈F.groups,g.1.toNat<18446744073709551616:=by decide):(zei F).length<=(putC [] F.cols).length+20+F.groups.length*(10+n*(10+m*K)):=by
 have key:∀G:List za5,(∀g∈G,g∈F.groups)->(G.flatMap (zc8 F.cols)).length<=G.length*(10+n*(10+m*K)):=by
  intro G;induction G with
  |nil=>intro _;simp
  |cons g G ih=>
   intro hG;have hgF:=hG g (by simp);have h1:=zpu h6 F.cols g.2 (fun t l hl=>h t g hgF l hl) (hm g hgF);have h2:=ih fun q hq=>hG q (by simp[hq])
   have h3:g.2.length*(10+m*K)<=n*(10+m*K):=Nat.mul_le_mul_right _ (hn g hgF);have h4:=zap (n:=g.1.toNat) (hg1 g hgF);have h5:(zc8 F.cols g).length=(vp g.1.toNat).length+(zb6 F.cols g.2).length:=by unfold zc8;rw[List.length_append]
   rw[List.flatMap_cons,List.length_append,List.length_cons,Nat.succ_mul];omega
 have h1:=key F.groups (fun g hg=>hg);have h2:=zap hr;have h3:=zap hg;unfold zei;simp only[List.length_append];omega
def smL_filsp:List za1:=[([110],0,true),([115],2,false)]
def smA:List zab:=[zij 5,nullC,zij 7]
def smB:List zab:=[zfv [97],zfv [98],zfv [98]]
theorem zyo(x:Nat):plO 2 [zfv [x]]=some [1,x]:=by unfold plO;rw[if_pos (by simp[zh5,zfv,zaf])];simp[plB,plE,zfv,ze4]
theorem qdh(x:Nat):zxj [[x]]=some [0,1,x]:=by unfold zxj;rw[if_pos (by simp[z5z,fsum])];simp[zmo,fpiece,shr,ze4]
theorem qdi(x:Nat):bestV 2 [zfv [x]]=0:=by
 have v0:zdz 2 0 [zfv [x]]=some [1,x]:=by unfold zdz;rw[if_pos rfl,zyo]
 have v1:∀b,zdz 2 1 [zfv [x]]=some b->2<=b.length:=fun b h=>by
  unfold zdz at h;rw[if_neg (by omega),if_pos rfl] at h;unfold zjc at h;have e:(zgf [zfv [x]]).1=[zfv [x]]:=by simp[zgf,zgs]
  rw[e,zyo] at h;dsimp only at h;rw[if_pos (by simp)] at h;injection h with h;rw[<-h];simp;omega
 have v4:zdz 2 4 [zfv [x]]=some [0,1,x]:=by unfold zdz;rw[if_neg (by omega),if_neg (by omega),if_pos (by simp[zh5,zfv,zaf]),if_neg (by omega),if_neg (by omega)];exact qdh x
 have b1:zcw 2 [zfv [x]] 1=(0,2):=by rw[zcw];rw[if_pos (by decide)];rw[show zdz 2 ((0:Nat):Int) [zfv [x]]=some [1,x] from v0];simp[zcw]
 have b2:zcw 2 [zfv [x]] 2=(0,2):=by
  rw[zcw,b1];rw[if_pos (by decide)];cases h:zdz 2 ((1:Nat):Int) [zfv [x]] with
  |none=>rfl
  |some b=>
   have:=v1 b h;dsimp only;rw[if_neg (by omega)]
 have b3:zcw 2 [zfv [x]] 3=(0,2):=by rw[zcw,b2,if_neg (by decide)]
 have b4:zcw 2 [zfv [x]] 4=(0,2):=by rw[zcw,b3,if_neg (by decide)]
 unfold bestV;rw[zcw,b4,if_pos (by decide)];have v4':zdz 2 ((4:Nat):Int) [zfv [x]]=some [0,1,x]:=v4;rw[v4'];simp
theorem ztq(x:Nat):pgE 2 false (-1) [zfv [x]]=(0,[0,1,1,x]):=by
 have e:encOf 2 (-1) [zfv [x]]=0:=by unfold encOf;rw[if_pos rfl];exact qdi x
 have ev:zb1 [zfv [x]]=[zfv [x]]:=by simp[zb1,zfv]
 unfold pgE;rw[if_neg (by simp),if_neg (by simp),if_pos (by simp[zfv,zaf]),e,ev];have v0:zdz 2 0 [zfv [x]]=some [1,x]:=by unfold zdz;rw[if_pos rfl,zyo]
 rw[v0];simp[ze4]
theorem zyp(c:zab)(h:zaf c 0 true=true):(pgE 0 true 0 [c]).1=0/\(pgE 0 true 0 [c]).2.length<=20:=by
 have hr:∀y∈zb1 [c],zaf y 0 false=true:=zq7 (nu:=true) (fun y hy=>by simp at hy;subst hy;exact h);have hk:zh5 0 (zb1 [c])=true:=plOk_iff.2 ⟨⟨by omega,by omega,by have:=zsy [c];simp at this;omega⟩,hr⟩;have hv:zdz 0 0 (zb1 [c])=some (plB 0 (zb1 [c])):=by unfold zdz;rw[if_pos rfl];unfold plO;rw[if_pos hk]
 have hl:(plB 0 (zb1 [c])).length<=8:=by unfold plB;rw[if_neg (by omega)];unfold zb1;cases h0:c.1<;> simp[List.filter,h0,plE,zbk]
 have e:encOf 0 0 [c]=0:=by unfold encOf;rw[if_neg (by omega)]
 unfold pgE;rw[if_neg (by simp[fitsV]),if_neg (by simp),if_pos (by simpa using h),e,hv];refine⟨rfl,?_⟩;have hs:(zb4 [c]).length<=1:=by unfold zb4;rw[zbk,zfa];simp
 simp[ze4];omega
def smE:List Int:=[0,-1]
def smD:List (List zab):=[smA,smB]
theorem qgj:zos smL_filsp:=(zdi smL_filsp).1 (by decide)
theorem zgp:zcq 0 3 2=[(0,2),(2,3)]:=by decide
theorem zgc:zcq 0 2 1=[(0,1),(1,2)]:=by decide
theorem zpv:zcq 2 3 1=[(2,3)]:=by decide
theorem z9d{DD:List zdw}(h:DD.map (·.2.2)=smD):zfo smL_filsp 3 DD=0:=by
 match DD,h with
 | [(A1,c1,l1),(A2,c2,l2)],h=>
   simp only[List.map_cons,List.map_nil,smD,List.cons.injEq,and_true] at h;obtain⟨rfl,rfl⟩:=h;have e1:zb5 smL_filsp=0:=by decide
   have e2:zda smL_filsp.length 3 [(A1,c1,smA),(A2,c2,smB)]=0:=rfl;have e3:zi8 [(A1,c1,smA),(A2,c2,smB)] smL_filsp=true:=rfl;unfold zfo;rw[e1,e2,e3];rfl
theorem z9e:zdv 2 1 smE smL_filsp=0:=by decide
theorem qh6:WrOk smL_filsp 3 smD 2 1:=by
 refine⟨qgj,by decide,rfl,by decide,by decide,?_,by decide⟩;intro l hl c hc;have:c∈[zij 5,nullC,zij 7,zfv [97],zfv [98],zfv [98]]:=by
  simp only[smD,smA,smB,List.mem_cons,List.not_mem_nil,or_false] at hl;rcases hl with rfl|rfl
  ·simp only[List.mem_cons,List.not_mem_nil,or_false] at hc⊢
   rcases hc with rfl|rfl|rfl<;> simp
  ·simp only[List.mem_cons,List.not_mem_nil,or_false] at hc⊢
   rcases hc with rfl|rfl|rfl<;> simp
 simp only[List.mem_cons,List.not_mem_nil,or_false] at this;unfold zai;rcases this with rfl|rfl|rfl|rfl|rfl|rfl<;> simp[zij,nullC,zfv]
theorem zyq{s q:Int × Int}{c:Nat}(hs:s∈zcq 0 3 2)(hc:c<smL_filsp.length)(hq:q∈zcq s.1 s.2 1):(zgo smL_filsp smE smD c q).1=0/\(zgo smL_filsp smE smD c q).2.length<=20:=by
 have hq2:q=(0,1)\/q=(1,2)\/q=(2,3):=by
  rw[zgp] at hs;simp only[List.mem_cons,List.not_mem_nil,or_false] at hs;rcases hs with rfl|rfl
  ·rw[zgc] at hq
   simp only[List.mem_cons,List.not_mem_nil,or_false] at hq;rcases hq with rfl|rfl<;> simp
  ·rw[zpv] at hq
   simp only[List.mem_cons,List.not_mem_nil,or_false] at hq;subst hq;simp
 have hc2:c=0\/c=1:=by have:smL_filsp.length=2:=rfl;omega
 rcases hc2 with rfl|rfl
 ·rcases hq2 with rfl|rfl|rfl
  ·exact zyp (zij 5) (by decide)
  ·exact zyp nullC (by decide)
  ·exact zyp (zij 7) (by decide)
 ·rcases hq2 with rfl|rfl|rfl
  ·have e:zgo smL_filsp smE smD 1 (0,1)=(0,[0,1,1,97]):=ztq 97
   rw[e];simp
  ·have e:zgo smL_filsp smE smD 1 (1,2)=(0,[0,1,1,98]):=ztq 98
   rw[e];simp
  ·have e:zgo smL_filsp smE smD 1 (2,3)=(0,[0,1,1,98]):=ztq 98
   rw[e];simp
theorem qdj{DD:List zdw}(h:DD.map (·.2.2)=smD):∃b,zfc smL_filsp 3 DD 2 1 smE=(0,b)/\openO b=some (zb8 smL_filsp 3 smE smD 2 1,zei (zb8 smL_filsp 3 smE smD 2 1))/\readO b=some (zb8 smL_filsp 3 smE smD 2 1,smD)/\(∀x∈b,x<256)/\b.length<=2147483660/\
 zh7 (zb8 smL_filsp 3 smE smD 2 1).groups (b.drop 4)=zjk smL_filsp smE smD 1 (zcq 0 3 2)/\zbj (zb8 smL_filsp 3 smE smD 2 1):=by
 have hg:∃b,zfc smL_filsp 3 DD 2 1 smE=(0,b):=by
  refine qdg (by rw[h];exact qh6) (z9d h) z9e ?_ ?_ ?_ ?_
  ·rw[h];decide
  ·rw[h]
   intro s hs c hc q hq;obtain⟨h1,h2⟩:=zyq hs hc hq;exact⟨h1,by omega⟩
  ·rw[h]
   have hp:=fun s hs c hc q hq=>(@zyq s q c hs hc hq).2
   rw[zgp] at hp⊢;have e:(zjk smL_filsp smE smD 1 [(0,2),(2,3)]).flatten.flatten.flatten.length=((pgF smL_filsp smE smD 0 (0,1)).length+(pgF smL_filsp smE smD 0 (1,2)).length+(pgF smL_filsp smE smD 1 (0,1)).length+(pgF smL_filsp smE smD 1 (1,2)).length)+((pgF smL_filsp smE smD 0 (2,3)).length+(pgF smL_filsp smE smD 1 (2,3)).length):=by have e1:List.range smL_filsp.length=[0,1]:=rfl;simp only[zjk,znk,e1,List.map_cons,List.map_nil,zgc,zpv];simp;omega
   have a1:=hp (0,2) (by simp) 0 (by decide) (0,1) (by rw[zgc];simp);have a2:=hp (0,2) (by simp) 0 (by decide) (1,2) (by rw[zgc];simp);have a3:=hp (0,2) (by simp) 1 (by decide) (0,1) (by rw[zgc];simp);have a4:=hp (0,2) (by simp) 1 (by decide) (1,2) (by rw[zgc];simp);have a5:=hp (2,3) (by simp) 0 (by decide) (2,3) (by rw[zpv];simp);have a6:=hp (2,3) (by simp) 1 (by decide) (2,3) (by rw[zpv];simp);rw[e];unfold pgF;omega
  ·rw[h]
   have hk:=z9c (F:=zb8 smL_filsp 3 smE smD 2 1) (K:=140020) (m:=2) (n:=2) (fun t g hg l hl p hp=>?_) ?_ ?_ (by decide) (by decide)
   ·have e1:(putC [] (zb8 smL_filsp 3 smE smD 2 1).cols).length<=20:=by
     show(putC [] smL_filsp).length<=20;rw[putC,if_pos (by decide)];simp[smL_filsp,zj0,z2q,ze4]
    have e2:(zb8 smL_filsp 3 smE smD 2 1).groups.length=2:=by show((zcq 0 3 2).map _).length=2;rw[zgp];rfl
    rw[e2] at hk;omega
   ·obtain⟨s,hs,rfl⟩:=List.mem_map.1 hg
    obtain⟨c,hc,rfl⟩:=List.mem_map.1 hl;obtain⟨q,hq,rfl⟩:=List.mem_map.1 hp;have:=zyq hs (List.mem_range.1 hc) hq;refine zvm ?_ ?_
    ·unfold zbw
     dsimp only;omega
    ·have hcl:(zbb smD c q).length<=65536:=by
      unfold zbb;rw[List.length_take,List.length_drop];have hc3:c<2:=List.mem_range.1 hc;have:(smD.getD c []).length=3:=by
       match c,hc3 with
       |0,_=>rfl
       |1,_=>rfl
      omega
     unfold zbw;dsimp only;omega
   ·intro g hg
    obtain⟨s,hs,rfl⟩:=List.mem_map.1 hg;simp[zb7,smL_filsp]
   ·intro g hg l hl
    obtain⟨s,hs,rfl⟩:=List.mem_map.1 hg;obtain⟨c,hc,rfl⟩:=List.mem_map.1 hl;rw[List.length_map];rw[zgp] at hs;simp only[List.mem_cons,List.not_mem_nil,or_false] at hs;rcases hs with rfl|rfl
    ·rw[zgc];simp
    ·rw[zpv];simp
 obtain⟨b,hb⟩:=hg;have:=z1b (by rw[h];exact qh6) hb (z9d h) z9e;rw[h] at this;obtain⟨t1,t2,t3,t4,t5,t6,t7,t8,t9⟩:=this;exact⟨b,hb,t5,t7,t8,t9,t6,t1⟩
open Go Go.RowKit Go.Hm
theorem z1d{F:FootS}{b:List Nat}(h:zbj F)(hb:szG F.groups+4<=b.length){k j q:Nat}(hk:k<F.groups.length)(hj:j<F.cols.length)(hq:q<(zaw F.groups k j).length):
 zo7 b F (k:Int) (j:Int) (q:Int)=some ((((zh7 F.groups (b.drop 4)).getD k []).getD j []).getD q []):=by
 have hgl:(F.groups.getD k zaj).2.length=F.cols.length:=(zcr h hk).2.1;have p4:=(zjw h hk hj hq).2.2.2;have e:=z2t h hk hj (q:=q);have a1:=zs8 hk;have a2:=qd3 F.groups (k+1);have a3:=zs7 (C:=(F.groups.getD k zaj).2) (j:=j) (by omega);have a4:=qd2 (F.groups.getD k zaj).2 (j+1);have a5:szL ((zaw F.groups k j).take (q+1))=_:=z0g hq;have a6:=qd1 (zaw F.groups k j) (q+1);have a7:szL ((F.groups.getD k zaj).2.getD j [])=szL (zaw F.groups k j):=rfl;unfold zo7;rw[z0k h hk hj hq,e];simp only[Int.toNat_natCast];rw[if_neg (by omega),if_neg (by omega)];congr 1
 rw[zim _ _ _ hk,cutC_at _ _ _ (by omega)];rw[show(F.groups.getD k zaj).2.getD j []=zaw F.groups k j from rfl,zxr _ _ _ hq,List.drop_drop,List.drop_drop,List.drop_drop];congr 2
 omega
theorem z9f{F:FootS}{b:List Nat}{k j q:Int}(hn:k<(F.groups.length:Int))(h:inB F.cols.length F.groups.length k j=false\/pgB (zaw F.groups k.toNat j.toNat).length q=false):zo7 b F k j q=none:=by
 have e:zef F k j q= -1:=by
  unfold zef;have e1:z69 F.groups.length k j q=false:=by unfold z69;simp;omega
  rw[e1];rcases h with h|h
  ·rw[h];simp
  ·rw[h];simp
 unfold zo7;rw[e,if_pos (.inl (by omega))]
theorem qdk{b:List Nat}(hF:zbj (zb8 smL_filsp 3 smE smD 2 1))(hb:szG (zb8 smL_filsp 3 smE smD 2 1).groups+4<=b.length)(hc:zh7 (zb8 smL_filsp 3 smE smD 2 1).groups (b.drop 4)=zjk smL_filsp smE smD 1 (zcq 0 3 2)):zo7 b (zb8 smL_filsp 3 smE smD 2 1) 0 1 1=some [0,1,1,98]:=by
 have eg:(zb8 smL_filsp 3 smE smD 2 1).groups=[zb7 smL_filsp smE smD 1 (0,2),zb7 smL_filsp smE smD 1 (2,3)]:=by show(zcq 0 3 2).map _=_;rw[zgp];rfl
 have ep:zaw (zb8 smL_filsp 3 smE smD 2 1).groups 0 1=[zbw smL_filsp smE smD 1 (0,1),zbw smL_filsp smE smD 1 (1,2)]:=by unfold zaw;rw[eg];show((List.range 2).map fun c=>(zcq 0 2 1).map (zbw smL_filsp smE smD c)).getD 1 []=_;rw[zgc];rfl
 have:=z1d (k:=0) (j:=1) (q:=1) hF hb (by rw[eg];simp) (by simp[zb8,smL_filsp]) (by rw[ep];simp);rw[hc,zgp] at this;have e2:(((zjk smL_filsp smE smD 1 [(0,2),(2,3)]).getD 0 []).getD 1 []).getD 1 []=[0,1,1,98]:=by show(((List.range 2).map fun c=>(zcq 0 2 1).map (pgF smL_filsp smE smD c)).getD 1 []).getD 1 []=_;rw[zgc];show pgF smL_filsp smE smD 1 (1,2)=_;have e:zgo smL_filsp smE smD 1 (1,2)=(0,[0,1,1,98]):=ztq 98;unfold pgF;rw[e]
 rw[e2] at this;exact this
theorem qdl{b:List Nat}:zo7 b (zb8 smL_filsp 3 smE smD 2 1) 0 1 2=none:=by
 have eg:(zb8 smL_filsp 3 smE smD 2 1).groups=[zb7 smL_filsp smE smD 1 (0,2),zb7 smL_filsp smE smD 1 (2,3)]:=by show(zcq 0 3 2).map _=_;rw[zgp];rfl
 have ep:zaw (zb8 smL_filsp 3 smE smD 2 1).groups 0 1=[zbw smL_filsp smE smD 1 (0,1),zbw smL_filsp smE smD 1 (1,2)]:=by unfold zaw;rw[eg];show((List.range 2).map fun c=>(zcq 0 2 1).map (zbw smL_filsp smE smD c)).getD 1 []=_;rw[zgc];rfl
 refine z9f (by rw[eg];simp) (.inr ?_);show pgB (zaw (zb8 smL_filsp 3 smE smD 2 1).groups 0 1).length 2=false;rw[ep];rfl
theorem qh7{α:Type}{l:List α}(h:l.length=2):∃a b,l=[a,b]:=by
 match l,h with
 | [a,b],_=>exact⟨a,b,rfl⟩
theorem qdm{L:List za1}{r:Int}{G:List GrD}(h:za3 L r G=zb8 smL_filsp 3 smE smD 2 1):∃(n0:Int) (A0:Option Addr) (c0:Nat) (x0 x1:ChD) (g1:GrD),G=[(n0,A0,c0,[x0,x1]),g1]/\x0.2.2.length=2:=by
 have hg:G.map grP=[zb7 smL_filsp smE smD 1 (0,2),zb7 smL_filsp smE smD 1 (2,3)]:=by
  have:=congrArg FootS.groups h;have e:(zb8 smL_filsp 3 smE smD 2 1).groups=[zb7 smL_filsp smE smD 1 (0,2),zb7 smL_filsp smE smD 1 (2,3)]:=by show(zcq 0 3 2).map _=_;rw[zgp];rfl
  rw[e] at this;exact this
 obtain⟨g0,g1,rfl⟩:=qh7 (l:=G) (by have:=congrArg List.length hg;simpa using this);obtain⟨n0,A0,c0,C⟩:=g0;simp only[List.map_cons,List.map_nil,List.cons.injEq,and_true] at hg;have h2:C.map (·.2.2)=[[zbw smL_filsp smE smD 0 (0,1),zbw smL_filsp smE smD 0 (1,2)],[zbw smL_filsp smE smD 1 (0,1),zbw smL_filsp smE smD 1 (1,2)]]:=by
  have:=congrArg Prod.snd hg.1;have e:(zb7 smL_filsp smE smD 1 (0,2)).2=[[zbw smL_filsp smE smD 0 (0,1),zbw smL_filsp smE smD 0 (1,2)],[zbw smL_filsp smE smD 1 (0,1),zbw smL_filsp smE smD 1 (1,2)]]:=by show((List.range 2).map fun c=>(zcq 0 2 1).map (zbw smL_filsp smE smD c))=_;rw[zgc];rfl
  rw[e] at this;exact this
 obtain⟨x0,x1,rfl⟩:=qh7 (l:=C) (by have:=congrArg List.length h2;simpa using this);simp only[List.map_cons,List.map_nil,List.cons.injEq,and_true] at h2;exact⟨n0,A0,c0,x0,x1,g1,rfl,by rw[h2.1];rfl⟩
theorem zyr(n:Nat):1<=(vp n).length:=by rw[vp];split<;> simp
theorem z9g(F:FootS):1<=(zei F).length:=by have:=zyr F.rows.toNat;unfold zei;simp only[List.length_append];omega
theorem qh8:(zac [72,89,80,79,0,0,0,3,0,0,0,79,80,89,72]).toList=[72,89,80,79,0,0,0,3,0,0,0,79,80,89,72]:=by rw[zes];rfl
theorem qh9:(zac [0,1,1,98]).toList=[0,1,1,98]:=by rw[zes];rfl
theorem qdn:zfc [] 0 [] 1 1 []=(0,[72,89,80,79,0,0,0,3,0,0,0,79,80,89,72]):=by
 have e1:zfo [] 0 []=0:=by decide
 have e2:zdv 1 1 [] []=0:=by decide
 have e3:zcq 0 0 1=[]:=by decide
 have e4:zp7 fz=some [0,0,0]:=by unfold zp7;rw[if_pos qiq,qde]
 unfold zfc;rw[if_neg (by rw[e1];simp),if_neg (by rw[e2];simp)];have e5:zb8 [] 0 [] (([]:List zdw).map (·.2.2)) 1 1=fz:=by unfold zb8;rw[e3];rfl
 rw[e3,e5,e4];rfl
theorem z9h:zdv 0 0 [] smL_filsp=1:=by decide
theorem qgk(body own:List Nat):readO ((zfe body own).drop 1)=none:=by have e:(zfe body own).drop 1=89::(headL_film.drop 2++(body++(own++(low own.length 4++tailL)))):=rfl;unfold readO openO zoo;rw[if_pos (.inr (.inl (by rw[e];simp[headL_film])))]
theorem qia{DD:List zdw}(h:DD.map (·.2.2)=smD):zfc smL_filsp 3 DD 0 0 []=(1,[]):=by unfold zfc;rw[if_neg (by rw[z9d h];simp),if_pos (by rw[z9h];decide),z9h]
end Go.Proofs.Y
